import PyProof.Rows.All
import Wide.All
import OpenK.AllK
import Wide.FinOn
import Lean
import PyProof.EqAt
import PyProof.EqKinds
import PyProof.TupleCall
import PyProof.NeData
import PyProof.P3In
import PyProof.ListRange
import PyProof.TupleOfStr
import PyProof.Rows.SumAny
import PyProof.Rows.Range3
import PyProof.StrCalls
import PyProof.Rows.SetFrom
import PyProof.WalksMore
import PyProof.TupleOfSeq
import KE.KRevSl
import OpenK.KOwn
import KE.KIsNot
import KE.KTryMore
import PyProof.DictTable
import PyProof.Rows.TupDisplay
import PyProof.ReprLen
import PyProof.ReprRoads
import KE.KDictOf
import PyProof.AttrMissHeap
import PyProof.NeKinds
import PyProof.ZipIter
import PyProof.DictCompW
import PyProof.DictItems
import PyProof.DictWalks
import PyProof.DictDisplay
import PyProof.ExcAttrAll.ValueError
import PyProof.TupleKey
import PyProof.IsRules
import KE.KDictList
import KE.KDictSum
import PyProof.FactsAll.set_1
import PyProof.FactsAll.set_2
import PySem.Challenge.RW_cellships_k65_picture_texts
set_option Elab.async false
set_option linter.all false
set_option maxRecDepth 100000
set_option maxHeartbeats 4000000
namespace L2
open PySem PySem.Spec PyProof.Rows
abbrev Key := Sum Int Str
def wu : Key -> Value -> Bool
 | .inl k, v => Value.isInt k v
 | .inr x, v => Value.isStrOf x v
def Dc (w : World) : Key -> Int
 | .inl k => hashInt k
 | .inr x => hashStr w x
theorem bt : ∀ {k : Key} {v : Value}, wu k v = true -> (∃ i t, k = Sum.inl i /\ v = Value.int i t) \/ (∃ x t, k = Sum.inr x /\ v = Value.str x t)
 | .inl i, v, h => by
  obtain ⟨t, e⟩ := Value.isInt_shape (k := i) (v := v) h
  exact .inl ⟨i, t, rfl, e⟩
 | .inr x, v, h => by
  obtain ⟨t, e⟩ := Value.isStrOf_shape (x := x) (v := v) h
  exact .inr ⟨x, t, rfl, e⟩
theorem xJ (a b : Int) : decide ((Sum.inl a : Key) = Sum.inl b) = (a == b) := by
 by_cases e : a = b
 ·subst e; simp
 ·have h : ¬ (Sum.inl a : Key) = Sum.inl b := fun q => e (Sum.inl.inj q)
  rw [decide_eq_false h]
  exact (beq_eq_false_iff_ne.mpr e).symm
theorem xK (a b : Str) : decide ((Sum.inr a : Key) = Sum.inr b) = decide (a = b) := by
 by_cases e : a = b
 ·subst e; simp
 ·have h : ¬ (Sum.inr a : Key) = Sum.inr b := fun q => e (Sum.inr.inj q)
  rw [decide_eq_false h, decide_eq_false e]
theorem xM (a : Int) (b : Str) : decide ((Sum.inl a : Key) = Sum.inr b) = false := decide_eq_false (fun q => nomatch q)
theorem xN (a : Str) (b : Int) : decide ((Sum.inr a : Key) = Sum.inl b) = false := decide_eq_false (fun q => nomatch q)
def jJ (prog : Program) (w : World) : PySem.KeyKind prog w Key where
 is := wu
 hash := Dc w
 inj := fun v a b ha hb => by
  rcases bt ha with ⟨i, t, rfl, rfl⟩ | ⟨x, t, rfl, rfl⟩
  ·rcases bt hb with ⟨j, u, rfl, e⟩ | ⟨y, u, rfl, e⟩
   ·injection e with e1 _; rw [e1]
   ·exact nomatch e
  ·rcases bt hb with ⟨j, u, rfl, e⟩ | ⟨y, u, rfl, e⟩
   ·exact nomatch e
   ·injection e with e1 _; rw [e1]
 byValue := fun k v h => by
  rcases bt h with ⟨i, t, rfl, rfl⟩ | ⟨x, t, rfl, rfl⟩ <;> rfl
 pyHash := fun hv h => by
  rcases bt hv with ⟨i, t, rfl, rfl⟩ | ⟨x, t, rfl, rfl⟩
  ·exact wpAny_pyHash_int h
  ·exact wpAny_pyHash_str h
 eqBool := fun hu hv h => by
  rcases bt hu with ⟨i, t, rfl, rfl⟩ | ⟨x, t, rfl, rfl⟩
  ·rcases bt hv with ⟨j, u, rfl, rfl⟩ | ⟨y, u, rfl, rfl⟩
   ·rw [xJ] at h; exact wpAny_eqBool_int h
   ·rw [xM] at h; exact SeqAt.EqAt.int_str i t y u _ _ _ _ h
  ·rcases bt hv with ⟨j, u, rfl, rfl⟩ | ⟨y, u, rfl, rfl⟩
   ·rw [xN] at h; exact SeqAt.EqAt.str_int x t j u _ _ _ _ h
   ·rw [xK] at h; exact wpAny_eqBool_str h
 «strs» := fun k x t v h => by
  rcases bt h with ⟨i, u, rfl, e⟩ | ⟨y, u, rfl, e⟩
  ·exact nomatch e
  ·injection e with e1 _
   subst e1
   cases v <;> rfl
end L2
namespace L2
open PySem PySem.Spec PyProof.Rows
inductive V where
 | non | bl (b : Bool) | int (i : Int) | str (x : Str) | byt (b : Array UInt8) | flt (b : UInt64) | ref (a : Addr) | ty (n : String)
 deriving DecidableEq
def RelV : V -> Value -> Prop
 | .non, u => u = Value.none
 | .bl b, u => u = Value.bool b
 | .int i, u => ∃ t, u = Value.int i t
 | .str x, u => ∃ t, u = Value.str x t
 | .byt b, u => ∃ t, u = Value.bytes b t
 | .flt b, u => ∃ t, u = Value.float b t
 | .ref a, u => u = Value.ref a
 | .ty n, u => u = Value.type n
abbrev Vals : List V -> List Value -> Prop := Paired RelV
theorem Vals.length {xs : List V} {us : List Value} (r : Vals xs us) : xs.length = us.length := Paired.length r
theorem Vals.get : ∀ {xs : List V} {us : List Value} {i : Nat} {x : V}, Vals xs us -> xs[i]? = some x -> ∃ u, us[i]? = some u /\ RelV x u
 | _, _, _, _, .nil, e => by simp at e
 | _, _, 0, _, .cons r _, e => by simp at e; subst e; exact ⟨_, rfl, r⟩
 | _, _, i + 1, x, .cons _ t, e => by
  obtain ⟨u, h1, h2⟩ := Vals.get (i := i) (x := x) t (by simpa using e)
  exact ⟨u, by simpa using h1, h2⟩
theorem Vals.set {x : V} {u : Value} (r : RelV x u) : ∀ {xs : List V} {us : List Value} (i : Nat), Vals xs us -> Vals (xs.set i x) (us.set i u)
 | _, _, _, .nil => .nil
 | _, _, 0, .cons _ t => .cons r t
 | _, _, i + 1, .cons q t => .cons q (Vals.set r i t)
theorem Vals.append : ∀ {xs ys : List V} {us ws : List Value}, Vals xs us -> Vals ys ws -> Vals (xs ++ ys) (us ++ ws)
 | _, _, _, _, .nil, s => s
 | _, _, _, _, .cons r t, s => .cons r (Vals.append t s)
theorem Vals.take : ∀ {xs : List V} {us : List Value} (n : Nat), Vals xs us -> Vals (xs.take n) (us.take n)
 | _, _, 0, _ => .nil
 | _, _, _ + 1, .nil => .nil
 | _, _, n + 1, .cons r t => .cons r (Vals.take n t)
theorem Vals.drop : ∀ {xs : List V} {us : List Value} (n : Nat), Vals xs us -> Vals (xs.drop n) (us.drop n)
 | _, _, 0, r => r
 | _, _, _ + 1, .nil => .nil
 | _, _, n + 1, .cons _ t => Vals.drop n t
def RelO : Option V -> Option Value -> Prop
 | some v, some u => RelV v u
 | none, none => True
 | _, _ => False
def KV {κ : Type} : List (κ × V) -> List (κ × Value) -> Prop := Paired fun (p : κ × V) (q : κ × Value) => p.1 = q.1 /\ RelV p.2 q.2
def kV : Key -> V
 | .inl i => .int i
 | .inr x => .str x
inductive HO where
 /-- a list -/
 | lst (xs : List V)
 /-- a tuple (never changes) -/
 | tup (xs : List V)
 /-- a dict whose keys are ints and texts; one whose keys are tuples of ints and texts (the empty one is both) -/
 | dK (kvs : List (Key × V)) | dT (kvs : List (List Key × V))
 /-- a set of ints: its members, its size -/
 | set (S : Int -> Bool) (n : Nat)
 /-- an instance of the class at C, its dict at dx, its attributes -/
 | ins (C dx : Addr) (fs : List (Str × V))
 /-- the dict of the instance at x -/
 | own (x : Addr)
 /-- the dict of an exception -/
 | xd (fs : List (Str × V))
 /-- a bound method, f of x -/
 | met (f x : Addr)
 /-- a range object lo, lo + 1, .. below hi -/
 | rng (lo hi : Int)
 /-- a thing that is known to the object (the script; a dict while a loop walks it): read, never written while it is so -/
 | frz (o : Obj) (u : HO)
 /-- a code object's table -/
 | tbl (ps : Array Value)
 /-- any other thing, by what is true of its one object (a def of one's own: SetO a S n := HO.ext fun h => ..) -/
 | ext (φ : Heap -> Prop)
abbrev Hp := Addr -> Option HO
def upd (H : Hp) (a : Addr) (o : HO) : Hp := fun b => if b = a then some o else H b
theorem aD {H : Hp} {a : Addr} {o : HO} : upd H a o a = some o := by unfold upd; rw [if_pos rfl]
theorem au {H : Hp} {a b : Addr} {o : HO} (h : b ≠ a) : upd H a o b = H b := by unfold upd; rw [if_neg h]
theorem aY {H : Hp} {a b : Addr} {o : HO} (h : H a = some o) (h' : H b = none) : a ≠ b := by
 intro e; subst e; rw [h] at h'; cases h'
section
variable (P : Program) (w : World)
def bp (H : Hp) (h : Heap) (a : Addr) : HO -> Prop
 | .lst xs => xs.length <= sizeLine /\ ∃ (its : List Value) (n : Nat), Vals xs its /\ h.get? a = some { cls := .type "list", data := .seq its.toArray n }
 | .tup xs => xs.length <= sizeLine /\ ∃ its : List Value, Vals xs its /\ IsTup h a its.toArray
 | .dK kvs => kvs.length <= sizeLine /\ (a == sysModules) = false /\ ∃ vs, KV kvs vs /\ h.DictOf (jJ P w) a vs
 | .dT kvs => kvs.length <= sizeLine /\ (a == sysModules) = false /\ ∃ xs : List (List Key × Addr × Value),
   Paired (fun (p : List Key × V) (q : List Key × Addr × Value) => p.1 = q.1 /\ H q.2.1 = some (.tup (p.1.map kV)) /\ RelV p.2 q.2.2) kvs xs /\
   ∃ o es ep, h.get? a = some o /\ o.ExactDict /\ o.data = .dict es ep /\ es.toList = xs.map (entryOfKey (tupleKind (jJ P w))) /\ (xs.map (·.1)).Nodup
 | .set S n => h.SetOf (intKind P w) a S n
 | .ins C dx fs => H dx = some (.own a) /\ fs.length <= 1000 /\ dx ≠ a /\ h.get? a = some (PySem.W.instObj C dx) /\
   ∃ mA, h.Ns1 dx mA /\ (∀ f, RelO (fs.lookup f) (mA f)) /\ PySem.Within mA (fs.map (·.1))
 | .own _ => ∃ o, h.get? a = some o
 | .xd fs => ∃ mA, h.Ns1 a mA /\ ∀ f, RelO (fs.lookup f) (mA f)
 | .rng lo hi => ∃ t u v, h.get? a = some { cls := .type "range", data := .fields #[.int lo t, .int hi u, .int 1 v] }
 | .frz o u => h.get? a = some o /\ bp H h a u
 | .tbl ps => h.get? a = some { cls := .none, data := .fields ps }
 | .met f x => h.get? a = some (PySem.W.methodObj (.ref f) (.ref x))
 | .ext φ => φ h /\ (∃ o, h.get? a = some o) /\ ∀ h1 h2 : Heap, φ h1 -> (∀ o, h1.get? a = some o -> h2.get? a = some o) -> φ h2
def HOk (H : Hp) (h : Heap) : Prop := ∀ a o, H a = some o -> bp P w H h a o
end
section
variable {P : Program} {w : World} {H H' : Hp} {h h' : Heap} {a : Addr} {o : HO}
theorem bp.lt (x : bp P w H h a o) : a < h.objs.size := by
 cases o with
 | lst xs => obtain ⟨_, _, _, _, e⟩ := x; exact Heap.lt_size e
 | tup xs => obtain ⟨_, _, _, p⟩ := x; exact p.lt
 | dK kvs => obtain ⟨_, _, _, _, o, _, _, e, _⟩ := x; exact Heap.lt_size e
 | dT kvs => obtain ⟨_, _, _, _, o, _, _, e, _⟩ := x; exact Heap.lt_size e
 | set S n => obtain ⟨o, _, _, _, e, _⟩ := x; exact Heap.lt_size e
 | ins C dx fs => obtain ⟨_, _, _, e, _⟩ := x; exact Heap.lt_size e
 | own y => obtain ⟨_, e⟩ := x; exact Heap.lt_size e
 | xd fs => obtain ⟨_, ⟨_, _, _, e, _⟩, _⟩ := x; exact Heap.lt_size e
 | rng lo hi => obtain ⟨_, _, _, e⟩ := x; exact Heap.lt_size e
 | frz ob u => obtain ⟨e, _⟩ := x; exact Heap.lt_size e
 | tbl ps => exact Heap.lt_size (show h.get? a = some _ from x)
 | met f y => exact Heap.lt_size (show h.get? a = some _ from x)
 | ext φ => obtain ⟨_, ⟨_, e⟩, _⟩ := x; exact Heap.lt_size e
theorem Paired.mapP {α β : Type} {F G : α -> β -> Prop} : ∀ {l₁ : List α} {l₂ : List β}, Paired F l₁ l₂ -> (∀ a b, F a b -> G a b) -> Paired G l₁ l₂
 | _, _, .nil, _ => .nil
 | _, _, .cons r t, f => .cons (f _ _ r) (Paired.mapP t f)
theorem bp.stay (x : bp P w H h a o) (k : ∀ b u, (b = a \/ H b = some (.own a)) -> h.get? b = some u -> h'.get? b = some u)
  (ho : ∀ b, H b = some (.own a) -> H' b = some (.own a)) (ht : ∀ b xs, H b = some (.tup xs) -> H' b = some (.tup xs)) : bp P w H' h' a o := by
 induction o with
 | lst xs => obtain ⟨z, its, n, r, e⟩ := x; exact ⟨z, its, n, r, k _ _ (.inl rfl) e⟩
 | tup xs => obtain ⟨z, its, r, ob, e, c⟩ := x; exact ⟨z, its, r, ob, k _ _ (.inl rfl) e, c⟩
 | dK kvs => obtain ⟨z, y, vs, r, ob, es, ep, e, c⟩ := x; exact ⟨z, y, vs, r, ob, es, ep, k _ _ (.inl rfl) e, c⟩
 | dT kvs =>
  obtain ⟨z, y, xs, r, ob, es, ep, e, c⟩ := x
  exact ⟨z, y, xs, Paired.mapP r fun p q z => ⟨z.1, ht _ _ z.2.1, z.2.2⟩, ob, es, ep, k _ _ (.inl rfl) e, c⟩
 | set S n => obtain ⟨ob, es, ep, t, e, c⟩ := x; exact ⟨ob, es, ep, t, k _ _ (.inl rfl) e, c⟩
 | ins C dx fs =>
  obtain ⟨d, z, ne, e, mA, ⟨od, es, ep, e2, c⟩, r⟩ := x
  exact ⟨ho _ d, z, ne, k _ _ (.inl rfl) e, mA, ⟨od, es, ep, k _ _ (.inr d) e2, c⟩, r⟩
 | own y => obtain ⟨ob, e⟩ := x; exact ⟨ob, k _ _ (.inl rfl) e⟩
 | xd fs => obtain ⟨mA, ⟨od, es, ep, e, c⟩, r⟩ := x; exact ⟨mA, ⟨od, es, ep, k _ _ (.inl rfl) e, c⟩, r⟩
 | rng lo hi => obtain ⟨t, u, v, e⟩ := x; exact ⟨t, u, v, k _ _ (.inl rfl) e⟩
 | frz ob u ih => obtain ⟨e, q⟩ := x; exact ⟨k _ _ (.inl rfl) e, ih q⟩
 | tbl ps =>
  have e : h.get? a = some { cls := .none, data := .fields ps } := x
  show h'.get? a = some { cls := .none, data := .fields ps }
  exact k a _ (.inl rfl) e
 | met f y =>
  have e : h.get? a = some (PySem.W.methodObj (.ref f) (.ref y)) := x
  show h'.get? a = some (PySem.W.methodObj (.ref f) (.ref y))
  exact k a _ (.inl rfl) e
 | ext φ => obtain ⟨p, ⟨o, e⟩, st⟩ := x; exact ⟨st _ _ p fun o q => k _ _ (.inl rfl) q, ⟨o, k _ _ (.inl rfl) e⟩, st⟩
theorem HOk.lt (x : HOk P w H h) (e : H a = some o) : a < h.objs.size := (x a o e).lt
theorem HOk.fresh (x : HOk P w H h) (e : h.objs.size <= a) : H a = none := by
 cases q : H a with
 | none => rfl
 | some u => exact absurd (Nat.lt_of_lt_of_le (x.lt q) e) (Nat.lt_irrefl _)
theorem HOk.kept (x : HOk P w H h) (k : ∀ b u, h.get? b = some u -> h'.get? b = some u) : HOk P w H h' := fun a o e =>
 (x a o e).stay (fun b u _ q => k b u q) (fun _ q => q) fun _ _ q => q
theorem HOk.laid (x : HOk P w H h) (k : ∀ b u, h.get? b = some u -> h'.get? b = some u) (hp : h.objs.size <= a) (new : bp P w (upd H a o) h' a o) : HOk P w (upd H a o) h' := fun b u e => by
 have hn := x.fresh hp
 by_cases hb : b = a
 ·subst hb; rw [aD] at e; cases e; exact new
 ·rw [au hb] at e
  exact (x b u e).stay (fun c v _ q => k c v q) (fun c q => by rw [au (aY q hn)]; exact q) fun c xs q => by rw [au (aY q hn)]; exact q
end
def Rd (H : Hp) (a : Addr) (u : HO) : Prop := H a = some u \/ ∃ o, H a = some (.frz o u)
theorem Rd.ok {P : Program} {w : World} {H : Hp} {h : Heap} {a : Addr} {u : HO} (r : Rd H a u) (x : HOk P w H h) : bp P w H h a u := by
 rcases r with r | ⟨o, r⟩
 ·exact x a u r
 ·obtain ⟨_, q⟩ := x a _ r
  exact q
def Mut : Option HO -> Prop
 | some (.lst _) => True
 | some (.dK _) => True
 | some (.dT _) => True
 | some (.set _ _) => True
 | some (.ins _ _ _) => True
 | some (.ext _) => True
 | _ => False
section
variable {P : Program} {w : World} {H : Hp} {h h' : Heap} {x e : Addr} {o' : HO}
theorem HOk.write (ok : HOk P w H h) (mu : Mut (H x)) (he : e = x \/ H e = some (.own x)) (k : ∀ b u, b ≠ e -> h.get? b = some u -> h'.get? b = some u) (heo : ∃ u, h'.get? e = some u)
  (new : bp P w (upd H x o') h' x o') : HOk P w (upd H x o') h' := fun b u q => by
 have nown : ∀ c y, H c = some (.own y) -> c ≠ x := fun c y r z => by subst z; rw [r] at mu; exact mu
 have ntup : ∀ c xs, H c = some (.tup xs) -> c ≠ x := fun c xs r z => by subst z; rw [r] at mu; exact mu
 by_cases hb : b = x
 ·subst hb; rw [aD] at q; cases q; exact new
 ·rw [au hb] at q
  by_cases hbe : b = e
  ·have q' : H b = some (.own x) := by
    rcases he with z | z
    ·exact absurd (hbe.trans z) hb
    ·rw [hbe]; exact z
   rw [q] at q'; cases q'
   obtain ⟨v, hv⟩ := heo
   exact ⟨v, by rw [hbe]; exact hv⟩
  ·refine (ok b u q).stay (fun c v hc r => k c v ?_ r) (fun c r => by rw [au (nown c b r)]; exact r) fun c xs r => by rw [au (ntup c xs r)]; exact r
   rcases hc with rfl | hc
   ·exact hbe
   ·rintro rfl
    rcases he with z | z
    ·exact nown c b hc z
    ·rw [hc] at z; cases z; exact hb rfl
end
structure Un (fs ex : List Addr) (H H' : Hp) (h h' : Heap) : Prop where
 keep : ∀ b o, h.get? b = some o -> H b = none -> b ∉ fs -> b ∉ ex -> h'.get? b = some o
 slot : ∀ b o, h.get? b = some o -> H b = none -> b ∈ fs -> b ∉ ex -> ∃ sl, h'.get? b = some { o with slots := sl }
 free : ∀ b o, h.get? b = some o -> H b = none -> b ∉ ex -> H' b = none
 there : ∀ b o, h.get? b = some o -> b ∉ ex -> ∃ o', h'.get? b = some o'
 tups : ∀ b xs, H b = some (.tup xs) -> H' b = some (.tup xs)
 frzs : ∀ b o u, H b = some (.frz o u) -> H' b = some (.frz o u)
 tbls : ∀ b ps, H b = some (.tbl ps) -> ∃ more, H' b = some (.tbl (ps ++ more))
section
variable {fs fs' ex ex' : List Addr} {H H1 H2 : Hp} {h h1 h2 h' : Heap} {a x e : Addr} {o : HO}
theorem Un.any (u : Un fs ex H H1 h h1) {b : Addr} {ob : Obj} (q : h.get? b = some ob) (n : H b = none) (hx : b ∉ ex) : ∃ sl, h1.get? b = some { ob with slots := sl } := by
 by_cases hb : b ∈ fs
 ·exact u.slot b ob q n hb hx
 ·exact ⟨ob.slots, u.keep b ob q n hb hx⟩
theorem Un.kept (k : ∀ b u, h.get? b = some u -> h'.get? b = some u) : Un fs ex H H h h' :=
 ⟨fun b ob q _ _ _ => k b ob q, fun b ob q _ _ _ => ⟨ob.slots, k b ob q⟩, fun _ _ _ n _ => n, fun b ob q _ => ⟨ob, k b ob q⟩, fun _ _ q => q, fun _ _ _ q => q, fun _ ps q => ⟨#[], by rw [q]; simp⟩⟩
theorem Un.refl : Un fs ex H H h h := Un.kept fun _ _ q => q
theorem Un.laid (k : ∀ b u, h.get? b = some u -> h'.get? b = some u) (hp : h.objs.size <= a) (hn : H a = none) : Un fs ex H (upd H a o) h h' where
 keep := fun b u q _ _ _ => k b u q
 slot := fun b u q _ _ _ => ⟨u.slots, k b u q⟩
 free := fun b u q n _ => by rw [au (Nat.ne_of_lt (Nat.lt_of_lt_of_le (Heap.lt_size q) hp))]; exact n
 there := fun b u q _ => ⟨u, k b u q⟩
 tups := fun b xs q => by rw [au (aY q hn)]; exact q
 frzs := fun b u xs q => by rw [au (aY q hn)]; exact q
 tbls := fun b ps q => ⟨#[], by rw [au (aY q hn), q]; simp⟩
theorem Un.write (mu : Mut (H x)) (he : e = x \/ H e = some (.own x)) (k : ∀ b u, b ≠ e -> h.get? b = some u -> h'.get? b = some u) (heo : ∃ u, h'.get? e = some u) : Un fs ex H (upd H x o) h h' := by
 have hx : ∀ b, H b = none -> b ≠ x := fun b n z => by subst z; rw [n] at mu; exact mu
 have hb : ∀ b, H b = none -> b ≠ e := fun b n z => by
  subst z
  rcases he with r | r
  ·exact hx b n r
  ·rw [n] at r; cases r
 have hm : ∀ b u, H b = some u -> ¬ Mut (some u) -> b ≠ x := fun b u q nm z => by subst z; rw [q] at mu; exact nm mu
 refine ⟨fun b u q n _ _ => k b u (hb b n) q, fun b u q n _ _ => ⟨u.slots, k b u (hb b n) q⟩, fun b u q n _ => by rw [au (hx b n)]; exact n, fun b u q _ => ?_,
  fun b xs q => by rw [au (hm b _ q fun z => z)]; exact q, fun b u xs q => by rw [au (hm b _ q fun z => z)]; exact q, fun b ps q => ⟨#[], by rw [au (hm b _ q fun z => z), q]; simp⟩⟩
 by_cases hbe : b = e
 ·subst hbe; exact heo
 ·exact ⟨u, k b u hbe q⟩
end
def trk (h : Heap) (H : Hp) : List Addr := (List.range h.objs.size).filter fun a => (H a).isSome
def jK (h : Heap) (H : Hp) : Heap := PySem.W.hideAll h (trk h H)
theorem oP (h : Heap) (H : Hp) : (jK h H).objs.size = h.objs.size := PySem.W.hideAll_size _ _
theorem pW {h : Heap} {H : Hp} {b : Addr} {o : Obj} (e : h.get? b = some o) (n : H b = none) : (jK h H).get? b = some o :=
 PySem.W.hideAll_get _ e fun hm => by
  have q : (H b).isSome = true := (List.mem_filter.mp hm).2
  rw [n] at q; simp at q
theorem tW {h : Heap} {H : Hp} {b : Addr} {o : Obj} (e : (jK h H).get? b = some o) : h.get? b = some o /\ H b = none := by
 have e' : h.get? b = some o := PySem.W.of_hideAll (trk h H) e
 refine ⟨e', ?_⟩
 cases q : H b with
 | none => rfl
 | some x =>
  have hm : b ∈ trk h H := List.mem_filter.mpr ⟨List.mem_range.mpr (Heap.lt_size e'), by simp [q]⟩
  have z : (jK h H).get? b = none := PySem.W.hideAll_none (trk h H) hm
  rw [z] at e; cases e
def bQ (g h : Heap) (L : Addr) : List (Addr × Obj) := (List.range h.objs.size).filterMap fun a => if a = L \/ (g.get? a).isSome = true then none else (h.get? a).map fun o => (a, o)
theorem dZ {g h : Heap} {L a : Addr} {o : Obj} (h1 : a ≠ L) (h2 : g.get? a = none) (h3 : h.get? a = some o) : (a, o) ∈ bQ g h L :=
 List.mem_filterMap.mpr ⟨a, List.mem_range.mpr (Heap.lt_size h3), by simp [h1, h2, h3]⟩
theorem d0 {g h : Heap} {L : Addr} {p : Addr × Obj} (hp : p ∈ bQ g h L) : p.1 ≠ L /\ g.get? p.1 = none /\ h.get? p.1 = some p.2 := by
 obtain ⟨b, _, e⟩ := List.mem_filterMap.mp hp
 split at e
 ·cases e
 ·rename_i hn
  cases q : h.get? b with
  | none => rw [q] at e; simp at e
  | some u =>
   rw [q] at e
   simp only [Option.map_some, Option.some.injEq] at e
   subst e
   refine ⟨fun z => hn (.inl z), ?_, q⟩
   show g.get? b = none
   cases r : g.get? b with
   | none => rfl
   | some v => exact (hn (.inr (by simp [r]))).elim
theorem d7 {g h : Heap} {L : Addr} : News g L h (bQ g h L) := fun p hp => let ⟨a, b, c⟩ := d0 hp; ⟨c, a, b⟩
end L2
namespace L2
open PySem PySem.Spec PyProof.Rows
structure Mod (K : PySem.W.Frag) (mg : Str -> Option Value) (base : Heap) : Prop where
 kin : K.In base
 glob : base.Ns mainGlobals mg
 blt : ∃ mb, base.Ns builtinsNs mb /\ ∀ x : Str, x ≠ "__name__" -> mb x = bootBuiltins x
 nolimit : base.NoLimit
structure Cx where
 prog : Program
 w : World
 K : PySem.W.Frag
 mg : Str -> Option Value
 base : Heap
 A : Around
 N : List Str
 s₀ : Shared
 H₀ : Hp
 env : Env
 outer : List Env
 stack : List Env
 ex : List Addr
 fn : Str -> Bool
 calm : Bool
 pn : List (Addr × Obj)
 xe : Value -> Shared -> Prop
def frs (l : List Env) : List Addr := l.filterMap (·.frame)
abbrev Cx.fs (X : Cx) : List Addr := frs X.outer
def Vis (sc : Scope) (x : Str) : Prop := sc.names.lookup x = some .local \/ sc.names.lookup x = some .cell \/ sc.names.lookup x = some .free
def Loc (sc : Scope) (x : Str) : Prop := sc.names.lookup x = some .local \/ sc.names.lookup x = some .cell
def Look (env : Env) (h : Heap) (m : Str -> Option Value) (x : Str) (u : Value) : Prop :=
 (env.kindOf x = some .local /\ m x = some u) \/ ((env.kindOf x = some .cell \/ env.kindOf x = some .free) /\ ∃ c, env.cells.lookup x = some c /\ h.IsCell c (some u))
structure Cx.Ok (X : Cx) : Prop where
 mod : Mod X.K X.mg X.base
 kind : X.env.scope.kind = .function
 glob : X.env.globals = mainGlobals
 blt : X.env.builtins = builtinsNs
 above : X.s₀.heap.objs.size <= X.env.locals
 inj : ∀ x y c, X.env.cells.lookup x = some c -> X.env.cells.lookup y = some c -> x = y
 has : ∀ x, (X.env.kindOf x = some .cell \/ X.env.kindOf x = some .free) -> ∃ c, X.env.cells.lookup x = some c
 cab : ∀ x c, X.fn x = true -> X.env.cells.lookup x = some c -> X.s₀.heap.objs.size <= c
 hd : X.calm = true -> X.A.handled = none
 frames : X.A.frames = some X.stack
 stk : X.stack = X.outer \/ (X.stack = X.env :: X.outer /\ X.env.frame = some X.env.locals)
 exf : ∀ b ∈ X.ex, b ≠ X.env.locals /\ ∀ x c, X.env.cells.lookup x = some c -> c ≠ b
 bs : ∀ b o, X.base.get? b = some o -> X.s₀.heap.get? b = some o /\ X.H₀ b = none
 bsz : X.base.objs.size <= X.s₀.heap.objs.size
 noex : ∀ b o, X.base.get? b = some o -> b ∉ X.ex
 exfs : ∀ b ∈ X.ex, b ∉ X.fs
 funs : X.s₀.heap.FunFrames X.base X.outer
 frf : ∀ b ∈ X.fs, X.H₀ b = none
structure Inv (X : Cx) (pins : List (Addr × Obj)) (σ : List (Option V)) (H : Hp) (s : Shared) : Prop where
 ok : X.Ok
 os : s.os = X.s₀.os
 bare : AllBare s.gens
 base : Un X.fs X.ex X.H₀ H X.s₀.heap s.heap
 loc : ∃ m, s.heap.Ns X.env.locals m /\ ∀ (i : Nat) (x : Str) (v : V), X.N[i]? = some x -> σ[i]? = some (some v) -> Vis X.env.scope x -> ∃ u, RelV v u /\ Look X.env s.heap m x u
 cell : ∀ x c, X.env.cells.lookup x = some c -> ∃ v, s.heap.IsCell c v
 free : H X.env.locals = none
 freeC : ∀ x c, X.env.cells.lookup x = some c -> H c = none
 pin : ∀ p ∈ X.pn ++ pins, s.heap.get? p.1 = some p.2 /\ H p.1 = none /\ p.1 ≠ X.env.locals /\ p.1 ∉ X.fs /\ ∀ v, p.2.data ≠ .cell v
 hok : HOk X.prog X.w H s.heap
 len : σ.length = X.N.length
section
variable {X : Cx} {pins : List (Addr × Obj)} {σ : List (Option V)} {H H' : Hp} {s : Shared} {h' : Heap}
theorem Cx.Ok.nofr (ok : X.Ok) {b : Addr} {o : Obj} (e : X.base.get? b = some o) : b ∉ X.fs := fun hb => by
 have := (ok.funs.mem hb).1
 rw [e] at this; cases this
theorem Inv.bs (I : Inv X pins σ H s) : ∀ b o, X.base.get? b = some o -> s.heap.get? b = some o /\ H b = none := fun b o e =>
 ⟨I.base.keep b o (I.ok.bs b o e).1 (I.ok.bs b o e).2 (I.ok.nofr e) (I.ok.noex b o e), I.base.free b o (I.ok.bs b o e).1 (I.ok.bs b o e).2 (I.ok.noex b o e)⟩
theorem Inv.bk (I : Inv X pins σ H s) : ∀ b o, X.base.get? b = some o -> s.heap.get? b = some o := fun b o e => (I.bs b o e).1
theorem Inv.mod (I : Inv X pins σ H s) : Mod X.K X.mg X.base := I.ok.mod
theorem Inv.kIn (I : Inv X pins σ H s) : X.K.In s.heap := I.ok.mod.kin.keeps I.bk
theorem Inv.fr (I : Inv X pins σ H s) : ∃ m, Fr X.base X.env.locals s.heap m :=
 let ⟨m, hn, _⟩ := I.loc
 ⟨m, hn, I.bk, Nat.le_trans I.ok.bsz I.ok.above⟩
theorem Inv.lt (I : Inv X pins σ H s) : X.env.locals < s.heap.objs.size := let ⟨_, hn, _⟩ := I.loc; hn.lt
theorem Inv.sz (I : Inv X pins σ H s) : X.s₀.heap.objs.size <= s.heap.objs.size := Nat.le_trans I.ok.above (Nat.le_of_lt I.lt)
theorem Inv.nofs (I : Inv X pins σ H s) {a : Addr} (h : s.heap.objs.size <= a) : a ∉ X.fs := fun hb => by
 obtain ⟨_, o, ho, _⟩ := I.ok.funs.mem hb
 exact absurd (Nat.lt_of_lt_of_le (Heap.lt_size ho) (Nat.le_trans I.sz h)) (Nat.lt_irrefl _)
theorem Inv.cne (I : Inv X pins σ H s) : ∀ x c, X.env.cells.lookup x = some c -> c ≠ X.env.locals := fun x c e z => by
 obtain ⟨v, o, ho, hd⟩ := I.cell x c e
 obtain ⟨m, ⟨o', es, ep, ho', hd', _⟩, _⟩ := I.loc
 rw [z, ho'] at ho; cases ho; rw [hd'] at hd; cases hd
theorem Inv.funs (I : Inv X pins σ H s) : s.heap.FunFrames X.base X.outer := by
 have all : ∀ (l : List Env), (∀ b ∈ frs l, b ∈ X.fs) -> X.s₀.heap.FunFrames X.base l -> s.heap.FunFrames X.base l := by
  intro l
  induction l with
  | nil => intro _ _; trivial
  | cons env r ih =>
   intro hs hl
   obtain ⟨hk, ⟨L, o, hf, hn, ho, hd⟩, hr⟩ := hl
   have hL : L ∈ X.fs := hs L (by unfold frs; rw [List.filterMap_cons, hf]; exact List.mem_cons_self)
   obtain ⟨sl, e⟩ := I.base.slot L o ho (I.ok.frf L hL) hL fun z => I.ok.exfs L z hL
   exact ⟨hk, ⟨L, _, hf, hn, e, hd⟩, ih (fun b hb => hs b (by unfold frs; rw [List.filterMap_cons, hf]; exact List.mem_cons_of_mem _ hb)) hr⟩
 exact all X.outer (fun _ hb => hb) I.ok.funs
theorem Inv.stack (I : Inv X pins σ H s) : s.heap.FunFrames X.base X.stack := by
 rcases I.ok.stk with e | ⟨e, hf⟩
 ·rw [e]; exact I.funs
 ·rw [e]
  obtain ⟨m, hn, _⟩ := I.loc
  refine .cons (by rw [I.ok.kind]; decide) hf hn ?_ I.funs
  exact Heap.get?_none_of_le (Nat.le_trans I.ok.bsz I.ok.above)
theorem Inv.stkSub (I : Inv X pins σ H s) : ∀ b ∈ frs X.stack, b ∈ X.env.locals :: X.fs := fun b hb => by
 rcases I.ok.stk with e | ⟨e, hf⟩
 ·rw [e] at hb; exact List.mem_cons_of_mem _ hb
 ·rw [e] at hb
  unfold frs at hb
  rw [List.filterMap_cons, hf] at hb
  exact hb
theorem Inv.stkFree (I : Inv X pins σ H s) : ∀ b ∈ frs X.stack, H b = none := fun b hb => by
 rcases List.mem_cons.mp (I.stkSub b hb) with e | hb
 ·rw [e]; exact I.free
 ·obtain ⟨_, o, ho, _⟩ := I.ok.funs.mem hb
  exact I.base.free b o ho (I.ok.frf b hb) fun z => I.ok.exfs b z hb
theorem Inv.step {g' : Array GenState} {t' : Nat} {d' : Drawn} {ch : List Addr} (I : Inv X pins σ H s)
  (hch : ∀ b ∈ ch, (b ∈ X.ex \/ X.s₀.heap.objs.size <= b) /\ b ≠ X.env.locals /\ (∀ x c, X.env.cells.lookup x = some c -> c ≠ b) /\ ∀ p ∈ X.pn ++ pins, p.1 ≠ b)
  (keep : ∀ b o, b ≠ X.env.locals -> b ∉ X.fs -> b ∉ ch -> s.heap.get? b = some o -> H b = none -> h'.get? b = some o)
  (slot : ∀ b o, b ≠ X.env.locals -> b ∈ X.fs -> b ∉ ch -> s.heap.get? b = some o -> H b = none -> ∃ sl, h'.get? b = some { o with slots := sl }) (free : ∀ b o, b ∉ ch -> s.heap.get? b = some o -> H b = none -> H' b = none)
  (there : ∀ b o, b ∉ ch -> s.heap.get? b = some o -> ∃ o', h'.get? b = some o')
  (tups : ∀ b xs, H b = some (.tup xs) -> H' b = some (.tup xs)) (frzs : ∀ b o u, H b = some (.frz o u) -> H' b = some (.frz o u)) (tbls : ∀ b ps, H b = some (.tbl ps) -> ∃ more, H' b = some (.tbl (ps ++ more)))
  (ns : ∀ m, s.heap.Ns X.env.locals m -> h'.Ns X.env.locals m) (hok : HOk X.prog X.w H' h') (hg : AllBare g') :
  Inv X pins σ H' { s with heap := h', gens := g', drawn := d', toks := t' } := by
 have neL : ∀ b o, X.s₀.heap.get? b = some o -> b ≠ X.env.locals := fun b o e => Nat.ne_of_lt (Nat.lt_of_lt_of_le (Heap.lt_size e) I.ok.above)
 have neC : ∀ b o, X.s₀.heap.get? b = some o -> b ∉ X.ex -> b ∉ ch := fun b o e hx hb => by
  rcases (hch b hb).1 with z | z
  ·exact hx z
  ·exact absurd (Nat.lt_of_lt_of_le (Heap.lt_size e) z) (Nat.lt_irrefl _)
 have cellK : ∀ x c, X.env.cells.lookup x = some c -> ∀ v, s.heap.IsCell c v -> h'.IsCell c v := fun x c e v ⟨o, ho, hd⟩ => by
  have nch : c ∉ ch := fun z => (hch c z).2.2.1 x c e rfl
  by_cases hc : c ∈ X.fs
  ·obtain ⟨sl, q⟩ := slot c o (I.cne x c e) hc nch ho (I.freeC x c e)
   exact ⟨_, q, hd⟩
  ·exact ⟨o, keep c o (I.cne x c e) hc nch ho (I.freeC x c e), hd⟩
 refine ⟨I.ok, I.os, hg, ⟨fun b o e n hb hx => ?_, fun b o e n hb hx => ?_, fun b o e n hx => ?_, fun b o e hx => ?_, fun b xs e => tups b xs (I.base.tups b xs e), fun b o xs e => frzs b o xs (I.base.frzs b o xs e), fun b ps e => ?_⟩, ?_, fun x c e => ?_, ?_, fun x c e => ?_, fun p hp => ?_, hok, I.len⟩
 ·exact keep b o (neL b o e) hb (neC b o e hx) (I.base.keep b o e n hb hx) (I.base.free b o e n hx)
 ·obtain ⟨sl, e1⟩ := I.base.slot b o e n hb hx
  obtain ⟨sl', e2⟩ := slot b _ (neL b o e) hb (neC b o e hx) e1 (I.base.free b o e n hx)
  exact ⟨sl', e2⟩
 ·obtain ⟨o', e1⟩ := I.base.there b o e hx
  exact free b o' (neC b o e hx) e1 (I.base.free b o e n hx)
 ·obtain ⟨o', e1⟩ := I.base.there b o e hx
  exact there b o' (neC b o e hx) e1
 ·obtain ⟨m1, e1⟩ := I.base.tbls b ps e
  obtain ⟨m2, e2⟩ := tbls b _ e1
  exact ⟨m1 ++ m2, by rw [e2, Array.append_assoc]⟩
 ·obtain ⟨m, hn, hl⟩ := I.loc
  refine ⟨m, ns m hn, fun i x v e1 e2 e3 => ?_⟩
  obtain ⟨u, r, l⟩ := hl i x v e1 e2 e3
  refine ⟨u, r, ?_⟩
  rcases l with l | ⟨k, c, e, z⟩
  ·exact .inl l
  ·exact .inr ⟨k, c, e, cellK x c e _ z⟩
 ·obtain ⟨v, z⟩ := I.cell x c e
  exact ⟨v, cellK x c e v z⟩
 ·obtain ⟨m, ⟨o, _, _, ho, _⟩, _⟩ := I.loc
  exact free _ o (fun z => (hch _ z).2.1 rfl) ho I.free
 ·obtain ⟨v, o, ho, hd⟩ := I.cell x c e
  exact free c o (fun z => (hch c z).2.2.1 x c e rfl) ho (I.freeC x c e)
 ·obtain ⟨e, n, ne, nf, d⟩ := I.pin p hp
  have nch : p.1 ∉ ch := fun z => (hch p.1 z).2.2.2 p hp rfl
  exact ⟨keep p.1 p.2 ne nf nch e n, free p.1 p.2 nch e n, ne, nf, d⟩
theorem Inv.un {t' : Nat} (I : Inv X pins σ H s) (u : Un X.fs [] H H' s.heap h') (hok : HOk X.prog X.w H' h') : Inv X pins σ H' { s with heap := h', toks := t' } := by
 obtain ⟨m, ⟨o, es, ep, ho, r⟩, _⟩ := id I.loc
 obtain ⟨sl, hL⟩ := u.any ho I.free (by simp)
 exact I.step (g' := s.gens) (d' := s.drawn) (ch := []) (fun _ z => nomatch z) (fun b o _ hb _ e n => u.keep b o e n hb (by simp)) (fun b o _ hb _ e n => u.slot b o e n hb (by simp)) (fun b o _ e n => u.free b o e n (by simp)) (fun b o _ e => u.there b o e (by simp)) u.tups u.frzs u.tbls (fun m' hm => by
  obtain ⟨o', es', ep', ho', r'⟩ := hm
  rw [ho] at ho'; cases ho'
  exact ⟨_, es', ep', hL, r'⟩) hok I.bare
theorem Inv.call {g' : Array GenState} {t' : Nat} {d' : Drawn} {ch : List Addr} (I : Inv X pins σ H s) (u : Un (frs X.stack) ch H H' s.heap h') (hok : HOk X.prog X.w H' h') (hg : AllBare g')
  (hch : ∀ b ∈ ch, (b ∈ X.ex \/ X.s₀.heap.objs.size <= b) /\ b ≠ X.env.locals /\ (∀ x c, X.env.cells.lookup x = some c -> c ≠ b) /\ ∀ p ∈ X.pn ++ pins, p.1 ≠ b) :
  Inv X pins σ H' { s with heap := h', gens := g', drawn := d', toks := t' } := by
 obtain ⟨m, ⟨o, es, ep, ho, r⟩, _⟩ := id I.loc
 obtain ⟨sl, hL⟩ := u.any ho I.free fun z => (hch _ z).2.1 rfl
 exact I.step (ch := ch) hch (fun b o hL hb hc e n => u.keep b o e n (fun z => (List.mem_cons.mp (I.stkSub b z)).elim hL hb) hc) (fun b o _ _ hc e n => u.any e n hc) (fun b o hc e n => u.free b o e n hc) (fun b o hc e => u.there b o e hc) u.tups u.frzs u.tbls (fun m' hm => by
  obtain ⟨o', es', ep', ho', r'⟩ := hm
  rw [ho] at ho'; cases ho'
  exact ⟨_, es', ep', hL, r'⟩) hok hg
theorem Inv.turned {t' : Nat} {it : Addr} (I : Inv X pins σ H s) (k : ∀ b o, b ≠ it -> s.heap.get? b = some o -> h'.get? b = some o) (hn : H it = none) (hL : it ≠ X.env.locals)
  (h1 : it ∈ X.ex \/ X.s₀.heap.objs.size <= it) (h2 : ∀ x c, X.env.cells.lookup x = some c -> c ≠ it) (h3 : ∀ p ∈ X.pn ++ pins, p.1 ≠ it) : Inv X pins σ H { s with heap := h', toks := t' } := by
 have nit : ∀ b u, H b = some u -> b ≠ it := fun b u e z => by rw [z, hn] at e; cases e
 refine I.step (g' := s.gens) (d' := s.drawn) (ch := [it]) (fun b hb => ?_) (fun b o _ _ hc e _ => k b o (fun z => hc (by simp [z])) e) (fun b o _ _ hc e _ => ⟨o.slots, k b o (fun z => hc (by simp [z])) e⟩) (fun _ _ _ _ n => n)
  (fun b o hc e => ⟨o, k b o (fun z => hc (by simp [z])) e⟩) (fun _ _ e => e) (fun _ _ _ e => e) (fun b ps e => ⟨#[], by rw [e]; simp⟩) (fun m hm => ?_) (fun b u e => ?_) I.bare
 ·have e : b = it := by simpa using hb
  subst e
  exact ⟨h1, hL, h2, h3⟩
 ·obtain ⟨o, es, ep, ho, r⟩ := hm
  exact ⟨o, es, ep, k _ o (Ne.symm hL) ho, r⟩
 ·refine (I.hok b u e).stay (fun c v hc q => k c v ?_ q) (fun _ q => q) fun _ _ q => q
  rcases hc with z | z
  ·rw [z]; exact nit b u e
  ·exact nit c _ z
theorem Inv.tok (I : Inv X pins σ H s) (t : Nat) : Inv X pins σ H { s with toks := t } := I.un (h' := s.heap) (t' := t) Un.refl I.hok
theorem Inv.kept {t' : Nat} (I : Inv X pins σ H s) (k : ∀ b u, s.heap.get? b = some u -> h'.get? b = some u) : Inv X pins σ H { s with heap := h', toks := t' } := I.un (Un.kept k) (I.hok.kept k)
theorem Inv.laid {a : Addr} {o : HO} {t' : Nat} (I : Inv X pins σ H s) (k : ∀ b u, s.heap.get? b = some u -> h'.get? b = some u) (hp : s.heap.objs.size <= a) (new : bp X.prog X.w (upd H a o) h' a o) :
  Inv X pins σ (upd H a o) { s with heap := h', toks := t' } := I.un (Un.laid k hp (I.hok.fresh hp)) (I.hok.laid k hp new)
theorem Inv.write {x e : Addr} {o : HO} {t' : Nat} (I : Inv X pins σ H s) (mu : Mut (H x)) (he : e = x \/ H e = some (.own x)) (k : ∀ b u, b ≠ e -> s.heap.get? b = some u -> h'.get? b = some u) (heo : ∃ u, h'.get? e = some u)
  (new : bp X.prog X.w (upd H x o) h' x o) : Inv X pins σ (upd H x o) { s with heap := h', toks := t' } := I.un (Un.write mu he k heo) (I.hok.write mu he k heo new)
theorem Inv.weak {σ' : List (Option V)} (I : Inv X pins σ H s) (hl : σ'.length = σ.length) (w : ∀ (i : Nat) v, σ'[i]? = some (some v) -> σ[i]? = some (some v)) : Inv X pins σ' H s :=
 ⟨I.ok, I.os, I.bare, I.base, let ⟨m, hn, hl'⟩ := I.loc; ⟨m, hn, fun i x v e1 e2 e3 => hl' i x v e1 (w i v e2) e3⟩, I.cell, I.free, I.freeC, I.pin, I.hok, hl.trans I.len⟩
theorem Inv.pins_of {pins' : List (Addr × Obj)} (I : Inv X pins σ H s) (h : ∀ p ∈ pins', s.heap.get? p.1 = some p.2 /\ H p.1 = none /\ p.1 ≠ X.env.locals /\ p.1 ∉ X.fs /\ ∀ v, p.2.data ≠ .cell v) : Inv X pins' σ H s :=
 ⟨I.ok, I.os, I.bare, I.base, I.loc, I.cell, I.free, I.freeC, fun p hp => (List.mem_append.mp hp).elim (fun z => I.pin p (List.mem_append_left _ z)) (h p), I.hok, I.len⟩
theorem gU {N : List Str} (hN : N.Nodup) {i j : Nat} {x : Str} (a : N[i]? = some x) (b : N[j]? = some x) : i = j := by
 obtain ⟨h1, e1⟩ := List.getElem?_eq_some_iff.mp a
 obtain ⟨h2, e2⟩ := List.getElem?_eq_some_iff.mp b
 exact (List.getElem_inj hN).mp (e1.trans e2.symm)
theorem eI {M : Model} {A : Around} {E : Value -> Shared -> Prop} {i : Nat} {x : Str} {v : V} {u : Value} {Q : Unit -> Shared -> Prop} (I : Inv X pins σ H s) (hN : X.N.Nodup) (hi : X.N[i]? = some x) (hx : Loc X.env.scope x) (r : RelV v u)
  (h : ∀ s', Inv X pins (σ.set i (some v)) H s' -> (∃ a, Heap.SameBut a s.heap s'.heap /\ (a = X.env.locals \/ X.env.cells.lookup x = some a)) -> Q () s') (hf : X.fn x = true \/ X.env.scope.names.lookup x = some .local := by first | exact .inl rfl | exact .inr rfl | assumption) : wpAny M A (storeName X.env x u) Q E s := by
 obtain ⟨m, hn, hl⟩ := id I.loc
 have hcls : (X.env.scope.kind == .class || (X.env.scope.kind == .module && X.env.locals != X.env.globals)) = false := by rw [I.ok.kind]; rfl
 have hiσ : i < σ.length := by rw [I.len]; exact (List.getElem?_eq_some_iff.mp hi).1
 have cne := I.cne
 have tracked : ∀ {a : Addr} {h' : Heap}, (∃ o, s.heap.get? a = some o /\ H a = none) -> Heap.SameBut a s.heap h' -> HOk X.prog X.w H h' := fun {a h'} ha hs b ob e => by
  obtain ⟨_, _, hfree⟩ := ha
  refine (I.hok b ob e).stay (fun c w' hc q => (hs.2 c ?_).trans q) (fun _ q => q) fun _ _ q => q
  rintro rfl
  rcases hc with rfl | hc
  ·rw [hfree] at e; cases e
  ·rw [hfree] at hc; cases hc
 rcases hx with hk | hk
 ·refine wpAny_storeName_local hk hn (fun h' hn' hs => ?_) hcls
  obtain ⟨oL, _, _, hoL, _⟩ := id hn
  refine h _ ⟨I.ok, I.os, I.bare, ⟨fun b o e n hb hx => ?_, fun b o e n hb hx => ?_, I.base.free, fun b o e hx => ?_, I.base.tups, I.base.frzs, I.base.tbls⟩, ⟨_, hn', fun j y v' e1 e2 e3 => ?_⟩, fun y c e => ?_, I.free, I.freeC, fun p hp => ?_, tracked ⟨oL, hoL, I.free⟩ hs, by simpa using I.len⟩ ⟨_, hs, .inl rfl⟩
  ·exact (hs.2 b (Nat.ne_of_lt (Nat.lt_of_lt_of_le (Heap.lt_size e) I.ok.above))).trans (I.base.keep b o e n hb hx)
  ·obtain ⟨sl, e1⟩ := I.base.slot b o e n hb hx
   exact ⟨sl, (hs.2 b (Nat.ne_of_lt (Nat.lt_of_lt_of_le (Heap.lt_size e) I.ok.above))).trans e1⟩
  ·obtain ⟨o', e1⟩ := I.base.there b o e hx
   exact ⟨o', (hs.2 b (Nat.ne_of_lt (Nat.lt_of_lt_of_le (Heap.lt_size e) I.ok.above))).trans e1⟩
  ·by_cases hj : j = i
   ·subst hj
    rw [hi] at e1; cases e1
    rw [List.getElem?_set_self hiσ] at e2
    cases e2
    exact ⟨u, r, .inl ⟨hk, by simp⟩⟩
   ·rw [List.getElem?_set_ne (Ne.symm hj)] at e2
    obtain ⟨u', r', q⟩ := hl j y v' e1 e2 e3
    refine ⟨u', r', ?_⟩
    rcases q with ⟨k, e⟩ | ⟨k, c, e, z⟩
    ·refine .inl ⟨k, ?_⟩
     have : y ≠ x := fun e => hj (gU hN e1 (e ▸ hi))
     simp [this, e]
    ·exact .inr ⟨k, c, e, z.sameBut hs (cne y c e)⟩
  ·obtain ⟨w', z⟩ := I.cell y c e
   exact ⟨w', z.sameBut hs (cne y c e)⟩
  ·obtain ⟨e, n, ne, nf, d⟩ := I.pin p hp
   exact ⟨(hs.2 p.1 ne).trans e, n, ne, nf, d⟩
 ·have hfn : X.fn x = true := by
   rcases hf with z | z
   ·exact z
   ·rw [z] at hk; cases hk
  obtain ⟨c, hc⟩ := I.ok.has x (.inl hk)
  obtain ⟨w', z⟩ := I.cell x c hc
  refine wpAny_storeName_cell I.ok.kind hk hc z (fun h' hc' hs => ?_)
  obtain ⟨oc, hoc, hocd⟩ := id z
  refine h { s with heap := h' } ⟨I.ok, I.os, I.bare, ⟨fun b o e n hb hx => ?_, fun b o e n hb hx => ?_, I.base.free, fun b o e hx => ?_, I.base.tups, I.base.frzs, I.base.tbls⟩, ⟨m, hn.sameBut hs (Ne.symm (cne x c hc)), fun j y v' e1 e2 e3 => ?_⟩, fun y c' e => ?_, I.free, I.freeC, fun p hp => ?_, tracked ⟨oc, hoc, I.freeC x c hc⟩ hs, by simpa using I.len⟩ ⟨c, hs, .inr hc⟩
  ·exact (hs.2 b (Nat.ne_of_lt (Nat.lt_of_lt_of_le (Heap.lt_size e) (I.ok.cab x c hfn hc)))).trans (I.base.keep b o e n hb hx)
  ·obtain ⟨sl, e1⟩ := I.base.slot b o e n hb hx
   exact ⟨sl, (hs.2 b (Nat.ne_of_lt (Nat.lt_of_lt_of_le (Heap.lt_size e) (I.ok.cab x c hfn hc)))).trans e1⟩
  ·obtain ⟨o', e1⟩ := I.base.there b o e hx
   exact ⟨o', (hs.2 b (Nat.ne_of_lt (Nat.lt_of_lt_of_le (Heap.lt_size e) (I.ok.cab x c hfn hc)))).trans e1⟩
  ·by_cases hj : j = i
   ·subst hj
    rw [hi] at e1; cases e1
    rw [List.getElem?_set_self hiσ] at e2
    cases e2
    exact ⟨u, r, .inr ⟨.inl hk, c, hc, hc'⟩⟩
   ·rw [List.getElem?_set_ne (Ne.symm hj)] at e2
    obtain ⟨u', r', q⟩ := hl j y v' e1 e2 e3
    refine ⟨u', r', ?_⟩
    rcases q with q | ⟨k, c', e, z'⟩
    ·exact .inl q
    ·refine .inr ⟨k, c', e, z'.sameBut hs ?_⟩
     rintro rfl
     exact hj (gU hN e1 (I.ok.inj _ _ _ e hc ▸ hi))
  ·by_cases hcc : c' = c
   ·subst hcc; exact ⟨_, hc'⟩
   ·obtain ⟨w2, z2⟩ := I.cell y c' e
    exact ⟨w2, z2.sameBut hs hcc⟩
  ·obtain ⟨e, n, ne, nf, d⟩ := I.pin p hp
   refine ⟨(hs.2 p.1 ?_).trans e, n, ne, nf, d⟩
   intro q
   rw [q, hoc] at e
   have q' : oc = p.2 := Option.some.inj e
   exact d w' (by rw [<- q']; exact hocd)
theorem dt {M : Model} {A : Around} {E : Value -> Shared -> Prop} {i : Nat} {x : Str} {v : V} {u : Value} {Q : Unit -> Shared -> Prop} (I : Inv X pins σ H s) (hN : X.N.Nodup) (hi : X.N[i]? = some x) (hx : Loc X.env.scope x) (r : RelV v u)
  (h : ∀ s', Inv X pins (σ.set i (some v)) H s' -> Q () s') (hf : X.fn x = true \/ X.env.scope.names.lookup x = some .local := by first | exact .inl rfl | exact .inr rfl | assumption) : wpAny M A (storeName X.env x u) Q E s :=
 eI I hN hi hx r (fun s' I' _ => h s' I') hf
theorem Inv.call' {s' : Shared} {ch : List Addr} (I : Inv X pins σ H s) (ho : s'.os = s.os) (u : Un (frs X.stack) ch H H' s.heap s'.heap) (hok : HOk X.prog X.w H' s'.heap) (hg : AllBare s'.gens)
  (hch : ∀ b ∈ ch, (b ∈ X.ex \/ X.s₀.heap.objs.size <= b) /\ b ≠ X.env.locals /\ (∀ x c, X.env.cells.lookup x = some c -> c ≠ b) /\ ∀ p ∈ X.pn ++ pins, p.1 ≠ b) : Inv X pins σ H' s' := by
 obtain ⟨h', g', d', t', o'⟩ := s'
 have e : o' = s.os := ho
 subst e
 exact I.call (g' := g') (t' := t') (d' := d') u hok hg hch
end
abbrev XK := Value -> Option Addr -> Hp -> Prop
abbrev St := List (Option V)
abbrev VK := V -> Hp -> Prop
abbrev TE := St -> Hp -> VK -> Prop
abbrev TT := St -> Hp -> (Bool -> Hp -> Prop) -> Prop
abbrev TA := St -> Hp -> (List V -> Hp -> Prop) -> Prop
structure Ends where
 nx : St -> Hp -> Prop
 rt : VK
 bk : St -> Hp -> Prop := fun _ _ => False
 ct : St -> Hp -> Prop := fun _ _ => False
abbrev TS := Ends -> St -> Hp -> Prop
def EP (X : Cx) (pins : List (Addr × Obj)) (σ : St) (Q : VK) (u : Value) (s' : Shared) : Prop := ∃ v H', Inv X pins σ H' s' /\ RelV v u /\ Q v H'
def TP (X : Cx) (pins : List (Addr × Obj)) (σ : St) (Q : Bool -> Hp -> Prop) (b : Bool) (s' : Shared) : Prop := ∃ H', Inv X pins σ H' s' /\ Q b H'
def AP (X : Cx) (pins : List (Addr × Obj)) (σ : St) (Q : List V -> Hp -> Prop) (us : List Value) (s' : Shared) : Prop := ∃ vs H', Inv X pins σ H' s' /\ Vals vs us /\ Q vs H'
def SP (X : Cx) (pins : List (Addr × Obj)) (D : Ends) (f : Flow) (s' : Shared) : Prop :=
 match f with
 | .next => ∃ σ' H', Inv X pins σ' H' s' /\ D.nx σ' H'
 | .brk => ∃ σ' H', Inv X pins σ' H' s' /\ D.bk σ' H'
 | .cont => ∃ σ' H', Inv X pins σ' H' s' /\ D.ct σ' H'
 | .ret u => ∃ v σ' H', Inv X pins σ' H' s' /\ RelV v u /\ D.rt v H'
def PE (X : Cx) (e : Expr) (t : TE) : Prop :=
 ∀ (pins : List (Addr × Obj)) (s : Shared) (σ : St) (H : Hp) (Q : VK), Inv X pins σ H s -> t σ H Q -> wpAny (model X.prog X.w) X.A (eval e X.env) (EP X pins σ Q) X.xe s
def PT (X : Cx) (e : Expr) (t : TT) : Prop :=
 ∀ (pins : List (Addr × Obj)) (s : Shared) (σ : St) (H : Hp) (Q : Bool -> Hp -> Prop), Inv X pins σ H s -> t σ H Q -> wpAny (model X.prog X.w) X.A (isTrue e X.env (eval e X.env)) (TP X pins σ Q) X.xe s
def PW (X : Cx) (e : Expr) (t : TT) : Prop :=
 ∀ (whole : Sem Value) (pins : List (Addr × Obj)) (s : Shared) (σ : St) (H : Hp) (Q : Bool -> Hp -> Prop), Inv X pins σ H s -> t σ H Q -> wpAny (model X.prog X.w) X.A (isTrue e X.env whole) (TP X pins σ Q) X.xe s
theorem PW.pt {X : Cx} {e : Expr} {t : TT} (h : PW X e t) : PT X e t := h _
def PA (X : Cx) (es : List Expr) (t : TA) : Prop :=
 ∀ (pos : Pos) (pins : List (Addr × Obj)) (s : Shared) (σ : St) (H : Hp) (Q : List V -> Hp -> Prop), Inv X pins σ H s -> t σ H Q -> wpAny (model X.prog X.w) X.A (spliced (backTo pos (starEach es X.env))) (AP X pins σ Q) X.xe s
def PS (X : Cx) (st : Stmt) (t : TS) : Prop :=
 ∀ (pins : List (Addr × Obj)) (s : Shared) (σ : St) (H : Hp) (D : Ends), Inv X pins σ H s -> t D σ H -> wpAny (model X.prog X.w) X.A (exec st X.env) (SP X pins D) X.xe s
def PSs (X : Cx) (st : List Stmt) (t : TS) : Prop :=
 ∀ (pins : List (Addr × Obj)) (s : Shared) (σ : St) (H : Hp) (D : Ends), Inv X pins σ H s -> t D σ H -> wpAny (model X.prog X.w) X.A (execs st X.env) (SP X pins D) X.xe s
theorem thn {α : Type} {t : Sem α} {Q Q' : α -> Shared -> Prop} {M : Model} {A : Around} {E : Value -> Shared -> Prop} {s : Shared} (h : wpAny M A t Q E s) (hQ : ∀ a s, Q a s -> Q' a s) : wpAny M A t Q' E s := wpAny_mono h hQ fun _ _ x => x
end L2
namespace L2
open PySem PySem.Spec PyProof.Rows
section
variable {X : Cx}
def di (i : Nat) : TE := fun σ H Q => ∃ v, σ[i]? = some (some v) /\ Q v H
def tC (v : V) : TE := fun _ H Q => Q v H
theorem mf {i : Nat} {x : Str} {pos : Pos} (hN : X.N[i]? = some x) (hv : Vis X.env.scope x) (hd : (x == ("__debug__" : Str)) = false := by decide) (hcd : (x == ("__classdict__" : Str)) = false := by decide) : PE X (.Name x pos) (di i) := by
 intro pins s σ H Q I h
 obtain ⟨v, e, h⟩ := h
 obtain ⟨m, hn, hl⟩ := I.loc
 obtain ⟨u, r, l⟩ := hl i x v hN e hv
 have fin : EP X pins σ Q u s := ⟨v, H, I, r, h⟩
 rcases l with ⟨hk, hm⟩ | ⟨hk, c, hc, hcell⟩
 ·exact wpAny_Name (wpAny_loadName_local I.ok.kind hk hn hm fin) hd
 ·rcases hk with hk | hk
  ·exact wpAny_Name (wpAny_loadName_cell I.ok.kind hk hc hcell fin) hd
  ·exact wpAny_Name (wpAny_loadName_free I.ok.kind hk hc hcell fin hcd) hd
theorem xO {i j pos} : PE X (.Constant (.int i) j pos) (tC (.int i)) := fun _ _ _ H _ I h => wpAny_Constant_int ⟨.int i, H, I.tok _, ⟨_, rfl⟩, h⟩
theorem AK {b j pos} : PE X (.Constant (.bool b) j pos) (tC (.bl b)) := fun _ _ _ H _ I h => Constant_bool ⟨.bl b, H, I, rfl, h⟩
theorem xP {j pos} : PE X (.Constant .none j pos) (tC .non) := fun _ _ _ H _ I h => Constant_none ⟨.non, H, I, rfl, h⟩
theorem pX {x j pos} : PE X (.Constant (.str x) j pos) (tC (.str x)) := fun _ _ _ H _ I h => Calls.Constant_str ⟨.str x, H, I.tok _, ⟨_, rfl⟩, h⟩
def Gl (X : Cx) (x : Str) : Prop := X.env.kindOf x = some .globalImplicit
theorem fv {E : Value -> Shared -> Prop} {pins : List (Addr × Obj)} {s : Shared} {σ : St} {H : Hp} {x : Str} {u : Value} {pos : Pos} {Q : Value -> Shared -> Prop} (I : Inv X pins σ H s) (hg : Gl X x) (hm : X.mg x = some u) (h : Q u s)
  (hd : (x == ("__debug__" : Str)) = false := by decide) : wpAny (model X.prog X.w) X.A (eval (.Name x pos) X.env) Q E s :=
 Calls.Name_function_global I.ok.kind hg (Calls.loadGlobal_global (by rw [I.ok.glob]; exact I.mod.glob.keeps I.bk) hm h) hd
theorem gV {E : Value -> Shared -> Prop} {pins : List (Addr × Obj)} {s : Shared} {σ : St} {H : Hp} {x : Str} {u : Value} {pos : Pos} {Q : Value -> Shared -> Prop} (I : Inv X pins σ H s) (hg : Gl X x) (hm : X.mg x = none) (hv : bootBuiltins x = some u) (h : Q u s)
  (hn : x ≠ "__name__" := by decide) (hd : (x == ("__debug__" : Str)) = false := by decide) : wpAny (model X.prog X.w) X.A (eval (.Name x pos) X.env) Q E s := by
 obtain ⟨mb, h1, h2⟩ := I.mod.blt
 exact Calls.Name_function_global I.ok.kind hg (Calls.loadGlobal_builtin (by rw [I.ok.glob]; exact I.mod.glob.keeps I.bk) hm (by rw [I.ok.blt]; exact h1.keeps I.bk) ((h2 x hn).trans hv) h) hd
theorem cy {x : Str} {v : V} {u : Value} {pos : Pos} (hg : Gl X x) (hm : X.mg x = some u) (r : RelV v u) (hd : (x == ("__debug__" : Str)) = false := by decide) : PE X (.Name x pos) (tC v) :=
 fun _ _ _ H _ I h => fv I hg hm ⟨v, H, I, r, h⟩ hd
theorem bZ {x : Str} {v : V} {u : Value} {pos : Pos} (hg : Gl X x) (hm : X.mg x = none) (hv : bootBuiltins x = some u) (r : RelV v u) (hn : x ≠ "__name__" := by decide) (hd : (x == ("__debug__" : Str)) = false := by decide) : PE X (.Name x pos) (tC v) :=
 fun _ _ _ H _ I h => gV I hg hm hv ⟨v, H, I, r, h⟩ hn hd
variable {a b : Expr} {ta tb : TE} {pos : Pos}
def tB (t : TE) : TT := fun σ H Q => t σ H fun x H1 => ∃ c, x = .bl c /\ Q c H1
theorem xQ {e : Expr} {t : TE} (h : PE X e t) (he : ∀ whole, isTrue e X.env whole = (do let v <- whole; standAt e.pos; holding [v] (truthy v)) := by intro _; rfl) : PT X e (tB t) := by
 intro pins s σ H Q I hw
 refine isTrue_plain (thn (h pins s σ H _ I hw) fun v s1 zr1 => ?_) (he _)
 obtain ⟨x, H1, I1, r1, q1⟩ := zr1
 obtain ⟨d, rfl, q⟩ := q1
 cases r1
 exact wpAny_truthy_bool ⟨H1, I1, q⟩
variable {tA tB' : TT} {rest : List Expr}
def tOr (t u : TT) : TT := fun σ H Q => t σ H fun c H1 => if c = true then Q true H1 else u σ H1 Q
def AL (t : TT) : TT := fun σ H Q => t σ H fun c H1 => Q (!c) H1
theorem xR (ha : PT X a tA) : PW X (.BoolOp .Or [a] pos) tA := by
 intro wh pins s σ H Q I h
 refine isTrue_or (thn (ha pins s σ H Q I h) fun c s1 e => ?_)
 cases c with
 | false => exact isTrue_or_nil e
 | true => exact e
theorem AM (ha : PT X a tA) (hb : PW X (.BoolOp .Or (b :: rest) pos) tB') : PW X (.BoolOp .Or (a :: b :: rest) pos) (tOr tA tB') := by
 intro wh pins s σ H Q I h
 refine isTrue_or (thn (ha pins s σ H _ I h) fun c s1 zr1 => ?_)
 obtain ⟨H1, I1, q1⟩ := zr1
 cases c with
 | true => exact ⟨H1, I1, q1⟩
 | false => exact hb wh pins s1 σ H1 Q I1 q1
theorem xS (ha : PT X a tA) : PT X (.UnaryOp .Not a pos) (AL tA) := by
 intro pins s σ H Q I h
 exact isTrue_not (ha pins s σ H (fun c H1 => Q (!c) H1) I h)
def wy (ta tb : TE) : TE := fun σ H Q => ta σ H fun x H1 => ∃ c, x = .bl c /\ if c = true then tb σ H1 Q else Q (.bl false) H1
def wz (ta : TE) : TE := fun σ H Q => ta σ H fun x H1 => ∃ c, x = .bl c /\ Q (.bl (!c)) H1
theorem xT {op} {t : TE} (h : PE X a t) : PE X (.BoolOp op [a] pos) t := fun pins s σ H Q I hw => BoolOp_one (h pins s σ H Q I hw)
theorem xU (ha : PE X a ta) (hb : PE X (.BoolOp .And (b :: rest) pos) tb) : PE X (.BoolOp .And (a :: b :: rest) pos) (wy ta tb) := by
 intro pins s σ H Q I h
 refine BoolOp_and (thn (ha pins s σ H _ I h) fun v s1 zr1 => ?_)
 obtain ⟨x, H1, I1, r1, q1⟩ := zr1
 obtain ⟨c, rfl, q1⟩ := q1
 cases r1
 refine wpAny_truthy_bool ?_
 cases c with
 | true => exact hb pins s1 σ H1 Q I1 q1
 | false => exact ⟨.bl false, H1, I1, rfl, q1⟩
theorem xV (ha : PE X a ta) : PE X (.UnaryOp .Not a pos) (wz ta) := by
 intro pins s σ H Q I h
 refine UnaryOp_ (thn (ha pins s σ H _ I h) fun v s1 zr1 => ?_)
 obtain ⟨x, H1, I1, r1, q1⟩ := zr1
 obtain ⟨c, rfl, q1⟩ := q1
 cases r1
 exact not_of (wpAny_truthy_bool ⟨.bl (!c), H1, I1, rfl, q1⟩)
def tIf (t : TT) (ta tb : TE) : TE := fun σ H Q => t σ H fun c H1 => if c = true then ta σ H1 Q else tb σ H1 Q
theorem pY {c : Expr} (hc : PT X c tA) (ha : PE X a ta) (hb : PE X b tb) : PE X (.IfExp c a b pos) (tIf tA ta tb) := by
 intro pins s σ H Q I h
 refine wpAny_IfExp (thn (hc pins s σ H _ I h) fun d s1 zr1 => ?_)
 obtain ⟨H1, I1, q1⟩ := zr1
 cases d with
 | true => exact ha pins s1 σ H1 Q I1 q1
 | false => exact hb pins s1 σ H1 Q I1 q1
end
end L2
namespace L2
open PySem PySem.Spec PyProof.Rows
def SqL (K : PySem.W.Frag) (H : Hp) (a : Addr) (xs : List V) : Prop :=
 Rd H a (.lst xs) \/
  ∃ (o : Obj) (its : Array Value) (n : Nat), K.lookup a = some o /\ o.cls = .type "list" /\ o.dict = none /\ o.data = .seq its n /\ its.size <= sizeLine /\ Vals xs its.toList
def SqT (K : PySem.W.Frag) (H : Hp) (a : Addr) (xs : List V) : Prop :=
 Rd H a (.tup xs) \/
  ∃ (o : Obj) (its : Array Value) (n : Nat), K.lookup a = some o /\ o.cls = .type "tuple" /\ o.data = .seq its n /\ its.size <= sizeLine /\ Vals xs its.toList
def Dd : Value -> Option V
 | .none => some .non
 | .bool b => some (.bl b)
 | .int i _ => some (.int i)
 | .str x _ => some (.str x)
 | .bytes b _ => some (.byt b)
 | .float b _ => some (.flt b)
 | .ref a => some (.ref a)
 | .type n => some (.ty n)
 | _ => none
theorem RelV.abs {x : V} {u : Value} (r : RelV x u) : Dd u = some x := by
 cases x with
 | non => cases r; rfl
 | bl _ => cases r; rfl
 | int _ => obtain ⟨t, rfl⟩ := r; rfl
 | str _ => obtain ⟨t, rfl⟩ := r; rfl
 | byt _ => obtain ⟨t, rfl⟩ := r; rfl
 | flt _ => obtain ⟨t, rfl⟩ := r; rfl
 | ref _ => cases r; rfl
 | ty _ => cases r; rfl
theorem RelV.inj {x y : V} {u : Value} (r : RelV x u) (q : RelV y u) : x = y := Option.some.inj (r.abs.symm.trans q.abs)
theorem Vals.inj : ∀ {xs ys : List V} {us : List Value}, Vals xs us -> Vals ys us -> xs = ys
 | _, _, _, .nil, .nil => rfl
 | _, _, _, .cons r t, .cons r' t' => by rw [r.inj r', Vals.inj t t']
section
variable {X : Cx} {pins : List (Addr × Obj)} {σ : St} {H : Hp} {s : Shared} {a : Addr} {xs ys : List V}
theorem Inv.list (I : Inv X pins σ H s) (h : SqL X.K H a xs) : ∃ its : List Value, Vals xs its /\ PlainL s.heap a its.toArray /\ xs.length <= sizeLine := by
 rcases h with h | ⟨o, its, n, hk, hc, hd, hs, hz, r⟩
 ·obtain ⟨z, its, n, r, e⟩ := h.ok I.hok
  exact ⟨its, r, ⟨_, n, e, rfl, rfl, rfl⟩, z⟩
 ·refine ⟨its.toList, r, ⟨o, n, I.kIn a o hk, hc, hd, by simpa using hs⟩, ?_⟩
  have e := r.length
  simp only [Array.length_toList] at e
  omega
theorem Inv.tuple (I : Inv X pins σ H s) (h : SqT X.K H a xs) : ∃ its : List Value, Vals xs its /\ IsTup s.heap a its.toArray /\ xs.length <= sizeLine := by
 rcases h with h | ⟨o, its, n, hk, hc, hs, hz, r⟩
 ·obtain ⟨z, its, r, p⟩ := h.ok I.hok
  exact ⟨its, r, p, z⟩
 ·refine ⟨its.toList, r, ⟨o, I.kIn a o hk, hc, n, by simpa using hs⟩, ?_⟩
  have e := r.length
  simp only [Array.length_toList] at e
  omega
theorem Inv.list_inj (I : Inv X pins σ H s) (h : SqL X.K H a xs) (h' : SqL X.K H a ys) : xs = ys := by
 obtain ⟨its, r, ⟨o, n, e, _, _, d⟩, _⟩ := I.list h
 obtain ⟨its', r', ⟨o', n', e', _, _, d'⟩, _⟩ := I.list h'
 rw [e] at e'; cases e'
 rw [d] at d'
 injection d' with d1 _
 have : its = its' := by simpa using congrArg Array.toList d1
 subst this
 exact r.inj r'
theorem Inv.tuple_inj (I : Inv X pins σ H s) (h : SqT X.K H a xs) (h' : SqT X.K H a ys) : xs = ys := by
 obtain ⟨its, r, ⟨o, e, _, n, d⟩, _⟩ := I.tuple h
 obtain ⟨its', r', ⟨o', e', _, n', d'⟩, _⟩ := I.tuple h'
 rw [e] at e'; cases e'
 rw [d] at d'
 injection d' with d1 _
 have : its = its' := by simpa using congrArg Array.toList d1
 subst this
 exact r.inj r'
end
abbrev Cx.wish (X : Cx) (E : Value -> Shared -> Prop) : Cx := { X with xe := E }
abbrev Cx.nox (X : Cx) : Cx := X.wish fun _ _ => False
theorem Cx.Ok.wish {X : Cx} (ok : X.Ok) (E : Value -> Shared -> Prop) : (X.wish E).Ok :=
 ⟨ok.mod, ok.kind, ok.glob, ok.blt, ok.above, ok.inj, ok.has, ok.cab, ok.hd, ok.frames, ok.stk, ok.exf, ok.bs, ok.bsz, ok.noex, ok.exfs, ok.funs, ok.frf⟩
theorem Cx.Ok.unwish {X : Cx} {E : Value -> Shared -> Prop} (ok : (X.wish E).Ok) : X.Ok :=
 ⟨ok.mod, ok.kind, ok.glob, ok.blt, ok.above, ok.inj, ok.has, ok.cab, ok.hd, ok.frames, ok.stk, ok.exf, ok.bs, ok.bsz, ok.noex, ok.exfs, ok.funs, ok.frf⟩
section
variable {X : Cx} {pins : List (Addr × Obj)} {σ : St} {H : Hp} {s : Shared} {E : Value -> Shared -> Prop}
theorem Inv.wish (I : Inv X pins σ H s) (E : Value -> Shared -> Prop) : Inv (X.wish E) pins σ H s := ⟨I.ok.wish E, I.os, I.bare, I.base, I.loc, I.cell, I.free, I.freeC, I.pin, I.hok, I.len⟩
theorem Inv.unwish (I : Inv (X.wish E) pins σ H s) : Inv X pins σ H s := ⟨I.ok.unwish, I.os, I.bare, I.base, I.loc, I.cell, I.free, I.freeC, I.pin, I.hok, I.len⟩
theorem SP.unwish {D : Ends} {f : Flow} {s' : Shared} (h : SP (X.wish E) pins D f s') : SP X pins D f s' := by
 cases f with
 | next => obtain ⟨σ', H', I, q⟩ := h; exact ⟨σ', H', I.unwish, q⟩
 | brk => obtain ⟨σ', H', I, q⟩ := h; exact ⟨σ', H', I.unwish, q⟩
 | cont => obtain ⟨σ', H', I, q⟩ := h; exact ⟨σ', H', I.unwish, q⟩
 | ret u => obtain ⟨v, σ', H', I, r, q⟩ := h; exact ⟨v, σ', H', I.unwish, r, q⟩
theorem PSs.nox {st : List Stmt} {t : TS} (h : PSs X.nox st t) : PSs X st t := fun pins s σ H D I hw =>
 wpAny_mono (h pins s σ H D (I.wish _) hw) (fun _ _ q => q.unwish) fun _ _ z => False.elim z
end
section
variable {X : Cx} {st : Stmt} {rest : List Stmt} {t u : TS} {e : Expr} {te : TE} {pos : Pos}
def d8 : TS := fun D σ H => D.nx σ H
def gW (t u : TS) : TS := fun D σ H => t { D with nx := u D } σ H
theorem eJ : PSs X [] d8 := fun _ _ σ H _ I h => wpAny_execs_nil ⟨σ, H, I, h⟩
theorem cA (h1 : PS X st t) (h2 : PSs X rest u) : PSs X (st :: rest) (gW t u) := by
 intro pins s σ H D I h
 refine wpAny_execs_cons (thn (h1 pins s σ H { D with nx := u D } I h) fun f s1 q => ?_)
 cases f with
 | next =>
  obtain ⟨σ', H', I', q⟩ := q
  exact h2 pins s1 σ' H' D I' q
 | ret v => exact q
 | brk => exact q
 | cont => exact q
theorem jL (h1 : PS X st t) : PSs X [st] t := by
 intro pins s σ H D I h
 refine wpAny_execs_cons (thn (h1 pins s σ H D I h) fun f s1 q => ?_)
 cases f with
 | next => exact wpAny_execs_nil q
 | ret v => exact q
 | brk => exact q
 | cont => exact q
theorem Inv.quiet {pins : List (Addr × Obj)} {σ : St} {H : Hp} {s : Shared} (I : Inv X pins σ H s) : interactive X.env = false := by simp [interactive, I.ok.kind]
def wC (te : TE) : TS := fun D σ H => te σ H fun _ H1 => D.nx σ H1
theorem tX (he : PE X e te) (hs : swapsWith e none pos.line X.env = pure false := by rfl) : PS X (.Expr e pos) (wC te) := by
 intro pins s σ H D I h
 exact wpAny_Expr_any (thn (he pins s σ H _ I h) fun v s1 zt1 => by obtain ⟨x, H1, I1, r1, q1⟩ := zt1; exact ⟨σ, H1, I1, q1⟩) I.quiet hs
def AN (te : TE) : TS := fun D σ H => te σ H D.rt
theorem xW (he : PE X e te) : PS X (.Return (some e) pos) (AN te) := by
 intro pins s σ H D I h
 exact wpAny_Return_some (thn (he pins s σ H _ I h) fun v s1 zt1 => by obtain ⟨x, H1, I1, r1, q1⟩ := zt1; exact ⟨x, σ, H1, I1, r1, q1⟩)
def kM (c : TT) (t u : TS) : TS := fun D σ H => c σ H fun b H1 => if b = true then t D σ H1 else u D σ H1
theorem m4 {c : Expr} {a b : List Stmt} {tc : TT} (hc : PT X c tc) (ha : PSs X a t) (hb : PSs X b u) : PS X (.If c a b pos) (kM tc t u) := by
 intro pins s σ H D I h
 refine wpAny_If (thn (hc pins s σ H _ I h) fun d s1 zr1 => ?_)
 obtain ⟨H1, I1, q1⟩ := zr1
 cases d with
 | true => exact ha pins s1 σ H1 D I1 q1
 | false => exact hb pins s1 σ H1 D I1 q1
def jM : TS := fun _ _ _ => False
theorem pZ : PS X st jM := fun _ _ _ _ _ _ h => h.elim
theorem oQ {sts : List Stmt} : PSs X sts jM := fun _ _ _ _ _ _ h => h.elim
end
abbrev TG := V -> St -> Hp -> (St -> Hp -> Prop) -> Prop
abbrev TGs := List V -> St -> Hp -> (St -> Hp -> Prop) -> Prop
def PG (X : Cx) (target : Expr) (t : TG) : Prop :=
 ∀ (pins : List (Addr × Obj)) (s : Shared) (σ : St) (H : Hp) (v : V) (u : Value) (Q : St -> Hp -> Prop), Inv X pins σ H s -> RelV v u -> t v σ H Q ->
  wpAny (model X.prog X.w) X.A (assign target X.env u) (fun _ s' => ∃ σ' H', Inv X pins σ' H' s' /\ Q σ' H') X.xe s
def PGs (X : Cx) (ts : List Expr) (t : TGs) : Prop :=
 ∀ (pins : List (Addr × Obj)) (s : Shared) (σ : St) (H : Hp) (vs : List V) (us : List Value) (Q : St -> Hp -> Prop), Inv X pins σ H s -> Vals vs us -> t vs σ H Q ->
  wpAny (model X.prog X.w) X.A (assignInOrder ((assignEach ts X.env).map (·.2)) us) (fun _ s' => ∃ σ' H', Inv X pins σ' H' s' /\ Q σ' H') X.xe s
abbrev xX := V -> V -> V -> Hp -> (Hp -> Prop) -> Prop
def AO (X : Cx) (t : xX) : Prop :=
 ∀ (pins : List (Addr × Obj)) (s : Shared) (σ : St) (H : Hp) (o i v : V) (ov iv u : Value) (Q : Hp -> Prop), Inv X pins σ H s -> RelV o ov -> RelV i iv -> RelV v u -> t o i v H Q ->
  wpAny (model X.prog X.w) X.A (setItem ov iv u) (fun _ s' => ∃ H', Inv X pins σ H' s' /\ Q H') X.xe s
section
variable {X : Cx} {pos : Pos}
def bq (i : Nat) : TG := fun v σ H Q => Q (σ.set i (some v)) H
theorem aw {i : Nat} {x : Str} (hN : X.N.Nodup) (hi : X.N[i]? = some x) (hx : Loc X.env.scope x) (hf : X.fn x = true \/ X.env.scope.names.lookup x = some .local := by first | exact .inl rfl | exact .inr rfl | assumption) : PG X (.Name x pos) (bq i) := by
 intro pins s σ H v u Q I r h
 exact wpAny_assign_Name (dt I hN hi hx r (fun s' I' => ⟨_, H, I', h⟩) hf)
def xY : TGs := fun vs σ H Q => vs = [] /\ Q σ H
def m5 (t : TG) (u : TGs) : TGs := fun vs σ H Q => ∃ v r, vs = v :: r /\ t v σ H fun σ' H' => u r σ' H' Q
theorem tY : PGs X [] xY := by
 intro pins s σ H vs us Q I r h
 obtain ⟨e, h⟩ := h
 subst e
 cases r
 exact assignInOrder_nil ⟨σ, H, I, h⟩
theorem p5 {e : Expr} {es : List Expr} {t : TG} {u : TGs} (h1 : PG X e t) (h2 : PGs X es u)
  (hs : (assignEach (e :: es) X.env).map (·.2) = assign e X.env :: (assignEach es X.env).map (·.2) := by rfl) : PGs X (e :: es) (m5 t u) := by
 intro pins s σ H vs us Q I r h
 obtain ⟨v, vr, e1, h⟩ := h
 subst e1
 cases r with
 | cons r rr =>
  rw [hs]
  refine assignInOrder_cons (thn (h1 pins s σ H _ _ _ I r h) fun _ s1 zr1 => ?_)
  obtain ⟨σ1, H1, I1, q1⟩ := zr1
  exact h2 pins s1 σ1 H1 _ _ Q I1 rr q1
def xZ (K : PySem.W.Frag) (n : Nat) (t : TGs) : TG := fun v σ H Q => ∃ a xs, v = .ref a /\ SqT K H a xs /\ xs.length = n /\ t xs σ H Q
theorem x3 {es : List Expr} {k : Nat} {t : TGs} {n : Nat} (hc : X.calm = true) (h : PGs X es t)
  (hn : (assignEach es X.env).length = n := by rfl) (hst : (assignEach es X.env).findIdx? (·.1) = none := by rfl) : PG X (.Tuple es k pos) (xZ X.K n t) := by
 intro pins s σ H v u Q I r hw
 obtain ⟨a, xs, e1, hq, hl, hw⟩ := hw
 subst e1
 cases r
 obtain ⟨its, rv, ht, hz⟩ := I.tuple hq
 refine assign_Tuple_tuple (I.ok.hd hc) ht (by simp [hn, <- hl, rv.length]) hst fun h' hx => ?_
 have I1 : Inv X pins σ H { s with heap := h' } := I.kept (t' := s.toks) fun b o e => hx b o (Nat.ne_of_lt (Heap.lt_size e)) e
 exact h pins _ σ H xs _ Q I1 (by simpa using rv) hw
def p6 (to ti : TE) (t : xX) : TG := fun v σ H Q => to σ H fun o H1 => ti σ H1 fun i H2 => t o i v H2 fun H3 => Q σ H3
theorem p8 {o i : Expr} {to ti : TE} {t : xX} (ho : PE X o to) (hi : PE X i ti) (hs : AO X t)
  (ha : ∀ v, assign (.Subscript o i pos) X.env v = (do
   let ov <- holding [v] (eval o X.env)
   let iv <- holding [v, ov] (eval i X.env)
   standAt pos
   holding [v, ov, iv] (setItem ov iv v)
   release [v, ov, iv] []) := by intro _; rfl) : PG X (.Subscript o i pos) (p6 to ti t) := by
 intro pins s σ H v u Q I r h
 rw [ha]
 refine wpAny_bind (wpAny_holding (thn (ho pins s σ H _ I h) fun ov s1 zr1 => ?_))
 obtain ⟨x, H1, I1, r1, q1⟩ := zr1
 refine wpAny_bind (wpAny_holding (thn (hi pins s1 σ H1 _ I1 q1) fun iv s2 zr1 => ?_))
 obtain ⟨y, H2, I2, r2, q2⟩ := zr1
 refine wpAny_bind (wpAny_standAt (wpAny_bind (wpAny_holding (thn (hs pins s2 σ H2 x y v ov iv u _ I2 r1 r2 r q2) fun _ s3 zr1 => ?_))))
 obtain ⟨H3, I3, q3⟩ := zr1
 exact wpAny_release ⟨σ, H3, I3, q3⟩
def dk (te : TE) (g : TG) : TS := fun D σ H => te σ H fun x H1 => g x σ H1 D.nx
theorem mh {tg e : Expr} {te : TE} {g : TG} (he : PE X e te) (hg : PG X tg g) (hs : swapsWithSole [tg] e pos.line X.env = pure false := by rfl) (hw : swappedStores [tg] e X.env = pure none := by rfl)
  (h1 : (assignEach [tg] X.env).map (·.2) = [assign tg X.env] := by rfl) : PS X (.Assign [tg] e pos) (dk te g) := by
 intro pins s σ H D I h
 refine wpAny_Assign_stores (thn (he pins s σ H _ I h) fun v s1 zr1 => ?_) hs hw
 obtain ⟨x, H1, I1, r1, q1⟩ := zr1
 rw [h1]
 exact thn (hg pins s1 σ H1 x v _ I1 r1 q1) fun _ s2 q => q
theorem gX {i : Nat} {x : Str} {e : Expr} {te : TE} {pos' : Pos} (hN : X.N.Nodup) (hi : X.N[i]? = some x) (hx : Loc X.env.scope x) (he : PE X e te) (hs : swapsWith e (some (.Name x pos')) pos.line X.env = pure false := by rfl) (hf : X.fn x = true \/ X.env.scope.names.lookup x = some .local := by first | exact .inl rfl | exact .inr rfl | assumption) :
  PS X (.Assign [.Name x pos'] e pos) (dk te (bq i)) := by
 intro pins s σ H D I h
 refine wpAny_Assign_Name (thn (he pins s σ H _ I h) fun v s1 zr1 => ?_) hs
 obtain ⟨y, H1, I1, r1, q1⟩ := zr1
 exact dt I1 hN hi hx r1 (fun s2 I2 => ⟨_, H1, I2, q1⟩) hf
def p9 (i j : Nat) (ta : TA) : TS := fun D σ H => ta σ H fun vs H1 => ∃ v w, vs = [v, w] /\ D.nx ((σ.set i (some v)).set j (some w)) H1
theorem x4 {i j : Nat} {x y : Str} {a b : Expr} {ta : TA} {px py pt : Pos} {kt k2 pt2} (hc : X.calm = true) (hN : X.N.Nodup) (hi : X.N[i]? = some x) (hj : X.N[j]? = some y) (hij : i ≠ j)
  (hx : X.env.scope.names.lookup x = some .local) (hy : X.env.scope.names.lookup y = some .local) (ha : PA X [a, b] ta)
  (hw : swappedStores [.Tuple [.Name x px, .Name y py] kt pt] (.Tuple [a, b] k2 pt2) X.env = pure (some [x, y]))
  (hs : swapsWithSole [.Tuple [.Name x px, .Name y py] kt pt] (.Tuple [a, b] k2 pt2) pos.line X.env = pure false := by rfl) :
  PS X (.Assign [.Tuple [.Name x px, .Name y py] kt pt] (.Tuple [a, b] k2 pt2) pos) (p9 i j ta) := by
 intro pins s σ H D I h
 rw [exec_Assign_arm]
 refine wpAny_bind (wpAny_standAt ?_)
 rw [hs]
 refine wpAny_bind (wpAny_pure ?_)
 rw [if_neg (by decide)]
 refine wpAny_bind (Tuple_ (thn (ha _ pins s σ H _ I h) fun us s1 zr1 => ?_))
 obtain ⟨vs, H1, I1, r1, q1⟩ := zr1
 obtain ⟨v, w, e1, q1⟩ := q1
 subst e1
 obtain ⟨u1, u2, rfl, rv, rw'⟩ : ∃ u1 u2, us = [u1, u2] /\ RelV v u1 /\ RelV w u2 := by
  cases r1 with
  | cons p q =>
   cases q with
   | cons p' q' =>
    cases q'
    exact ⟨_, _, rfl, p, p'⟩
 refine wpAny_newObj_type ?_ (by show 2 <= sizeLine; decide)
 have I2 : Inv X pins σ H1 { s1 with heap := s1.heap.push { cls := .type "tuple", data := .seq [u1, u2].toArray } } := I1.kept (t' := s1.toks) fun b o e => Heap.get?_push_of_some _ e
 rw [hw]
 refine wpAny_bind (wpAny_pure ?_)
 show wpAny (model X.prog X.w) X.A (do rule "assign.swapped-stores"; let items <- unpackItems (.ref s1.heap.objs.size) 2 none; assignInOrder [fun v => bindName X.env y v, fun v => bindName X.env x v] items.reverse; pure Flow.next) _ _ _
 refine wpAny_bind (wpAny_rule (wpAny_bind (unpackItems_tuple (items := #[u1, u2]) (I.ok.hd hc) (IsTup.new s1.heap _) fun h' hx' => ?_)))
 have I3 := I2.kept (h' := h') (t' := s1.toks) fun b o e => hx' b o (Nat.ne_of_lt (Heap.lt_size e)) e
 show wpAny _ _ (assignInOrder [fun v => bindName X.env y v, fun v => bindName X.env x v] [u2, u1] >>= fun _ => pure Flow.next) _ _ _
 refine wpAny_bind (assignInOrder_cons (wpAny_bindName (dt I3 hN hj (.inl hy) rw' (fun s2 I4 => ?_) (.inr hy))))
 refine assignInOrder_cons (wpAny_bindName (dt I4 hN hi (.inl hx) rv (fun s3 I5 => assignInOrder_nil (wpAny_pure ?_)) (.inr hx)))
 rw [List.set_comm _ _ (Ne.symm hij)] at I5
 exact ⟨_, H1, I5, q1⟩
end
section
variable {X : Cx} {pos : Pos}
def qa (c : TT) (tb : TS) : TS := fun D σ H => ∃ W : Nat -> St -> Hp -> Prop, (∃ m, W m σ H) /\ ∀ m σ H, W m σ H ->
 c σ H fun b H1 => if b = true then ∃ N : St -> Hp -> Prop, (∀ σ' H', N σ' H' -> ∃ m', m' < m /\ W m' σ' H') /\ tb { D with nx := N, ct := N, bk := D.nx } σ H1 else D.nx σ H1
theorem qb {c : Expr} {body : List Stmt} {tc : TT} {tb : TS} (hp : PassesOwn (model X.prog X.w) X.A X.env X.xe) (hc : PT X c tc) (hb : PSs X body tb) : PS X (.While c body [] pos) (qa tc tb) := by
 intro pins s σ H D I h
 obtain ⟨W, ⟨m0, w0⟩, turn⟩ := h
 refine wpAny_While (codeAny_whileLoop (fun n s' => ∃ σ' H', Inv X pins σ' H' s' /\ W n σ' H') ?_ m0 ⟨σ, H, I, w0⟩)
 rintro n s1 ⟨σ1, H1, I1, w1⟩
 refine wpAny_passesOwn hp (thn (hc pins s1 σ1 H1 _ I1 (turn n σ1 H1 w1)) fun b s2 zr1 => ?_)
 obtain ⟨H2, I2, q2⟩ := zr1
 cases b with
 | true =>
  obtain ⟨N, hN, q2⟩ := q2
  rw [if_pos rfl]
  refine wpAny_passesOwn hp (thn (hb pins s2 σ1 H2 _ I2 q2) fun f s3 q3 => ?_)
  cases f with
  | next =>
   obtain ⟨σ3, H3, I3, n3⟩ := q3
   obtain ⟨m', hm, w3⟩ := hN σ3 H3 n3
   exact ⟨m', hm, σ3, H3, I3, w3⟩
  | cont =>
   obtain ⟨σ3, H3, I3, n3⟩ := q3
   obtain ⟨m', hm, w3⟩ := hN σ3 H3 n3
   exact ⟨m', hm, σ3, H3, I3, w3⟩
  | brk => exact q3
  | ret v => exact q3
 | false =>
  rw [if_neg Bool.false_ne_true]
  exact wpAny_execs_nil ⟨σ1, H2, I2, q2⟩
end
structure It where
 go : Nat -> Hp -> Prop
 yld : Nat -> Hp -> V -> Hp -> Prop
 stop : Nat -> Hp -> Prop
def dY (X : Cx) (pins : List (Addr × Obj)) (H : Hp) (b : Addr) : Prop :=
 H b = none /\ b ≠ X.env.locals /\ b ∉ X.fs /\ (b ∈ X.ex \/ X.s₀.heap.objs.size <= b) /\ (∀ x c, X.env.cells.lookup x = some c -> c ≠ b) /\ ∀ p ∈ X.pn ++ pins, p.1 ≠ b
theorem Inv.fpOk {X : Cx} {pins : List (Addr × Obj)} {σ : St} {H H' : Hp} {s : Shared} {b : Addr} (I : Inv X pins σ H s) (hb : s.heap.objs.size <= b) (hn : H' b = none) : dY X pins H' b := by
 refine ⟨hn, Nat.ne_of_gt (Nat.lt_of_lt_of_le I.lt hb), I.nofs hb, .inr (Nat.le_trans I.sz hb), fun x c e z => ?_, fun p hp z => ?_⟩
 ·obtain ⟨v, q⟩ := I.cell x c e
  exact absurd (Nat.lt_of_lt_of_le q.lt (by rw [z]; exact hb)) (Nat.lt_irrefl _)
 ·exact absurd (Nat.lt_of_lt_of_le (Heap.lt_size (I.pin p hp).1) (by rw [z]; exact hb)) (Nat.lt_irrefl _)
structure Turn (P : Program) (w : World) (K : PySem.W.Frag) (tg : Expr) (J : It) (fp : List Addr) (it : Addr) (tn : Nat -> Heap -> Prop) : Prop where
 mem : it ∈ fp
 obj : ∀ i h, tn i h -> ∀ b ∈ fp, ∃ o, h.get? b = some o /\ ∀ v, o.data ≠ .cell v
 keep : ∀ i h h', tn i h -> (∀ b ∈ fp, ∀ o, h.get? b = some o -> h'.get? b = some o) -> tn i h'
 item : ∀ (X : Cx), X.prog = P -> X.w = w -> X.K = K -> X.calm = true -> ∀ (i : Nat) (pins : List (Addr × Obj)) (s : Shared) (σ : St) (H : Hp) (E : Value -> Shared -> Prop), Inv X pins σ H s -> (∀ b ∈ fp, dY X pins H b) -> tn i s.heap -> J.go i H ->
  wpAny (model P w) X.A (pyNext (.ref it)) (fun r s1 => ∃ u, r = some u /\
   wpAny (model P w) X.A (letOwnedTupleGo tg (.ref it) u) (fun _ s2 => ∃ x H', Inv X pins σ H' s2 /\ RelV x u /\ J.yld i H x H' /\ tn (i + 1) s2.heap /\ ∀ b ∈ fp, H' b = none) E s1) E s
 done : ∀ (X : Cx), X.prog = P -> X.w = w -> X.K = K -> X.calm = true -> ∀ (i : Nat) (pins : List (Addr × Obj)) (s : Shared) (σ : St) (H : Hp) (E : Value -> Shared -> Prop), Inv X pins σ H s -> (∀ b ∈ fp, dY X pins H b) -> tn i s.heap -> J.stop i H ->
  wpAny (model P w) X.A (pyNext (.ref it)) (fun r s1 => r = none /\ Inv X pins σ H s1) E s
 self : ∀ (A : Around) (i : Nat) (s : Shared) (Q : Value -> Shared -> Prop) (E : Value -> Shared -> Prop), tn i s.heap -> Q (.ref it) s -> wpAny (model P w) A (pyIter (.ref it)) Q E s
abbrev TI := St -> Hp -> (It -> Hp -> Prop) -> Prop
def PIE (X : Cx) (pins : List (Addr × Obj)) (σ : St) (tg : Expr) (R : It -> Hp -> Prop) (itv : Value) (s2 : Shared) : Prop :=
 ∃ (it : Addr) (fp : List Addr) (tn : Nat -> Heap -> Prop) (J : It) (H' : Hp), itv = .ref it /\ Inv X pins σ H' s2 /\ Turn X.prog X.w X.K tg J fp it tn /\ tn 0 s2.heap /\ (∀ b ∈ fp, dY X pins H' b) /\ R J H'
def PI (X : Cx) (tg iter : Expr) (wi : TI) : Prop :=
 ∀ (pins : List (Addr × Obj)) (s : Shared) (σ : St) (H : Hp) (R : It -> Hp -> Prop), Inv X pins σ H s -> wi σ H R ->
  wpAny (model X.prog X.w) X.A (eval iter X.env) (fun v s1 => wpAny (model X.prog X.w) X.A (pyIter v) (PIE X pins σ tg R) X.xe s1) X.xe s
theorem m6 {M : Model} {A : Around} {E : Value -> Shared -> Prop} {s : Shared} {tg : Expr} {it : Addr} {u : Value} {o : Obj} {n : String} {vs : Array Value} {Q : Unit -> Shared -> Prop} (ho : s.heap.get? it = some o) (hc : o.cls = .type n) (hd : o.data = .fields vs)
    (hn : ["enumerate", "zip", "dict_itemiterator", "dict_reverseitemiterator", "odict_iterator", "itertools.zip_longest", "itertools.pairwise"].contains n = false) (hQ : Q () s) : wpAny M A (letOwnedTupleGo tg (.ref it) u) Q E s := by
  unfold letOwnedTupleGo
  cases tg <;> first
    | exact wpAny_pure hQ
    | (cases u <;> first
        | exact wpAny_pure hQ
        | (refine wpAny_bind (wpAny_load ho ?_)
           rw [hc, hd]
           show wpAny M A (if (["enumerate", "zip", "dict_itemiterator", "dict_reverseitemiterator", "odict_iterator", "itertools.zip_longest", "itertools.pairwise"].contains n && vs[0]? == some (rawInt _)) = true then _ else _) Q E s
           rw [if_neg (by intro h; rw [hn, Bool.false_and] at h; cases h)]
           exact wpAny_pure hQ))
def Itl (K : PySem.W.Frag) (a : Addr) : It :=
 ⟨fun i H => ∃ xs x, SqL K H a xs /\ xs[i]? = some x, fun i H x H' => H' = H /\ ∀ xs, SqL K H a xs -> xs[i]? = some x, fun i H => ∃ xs, SqL K H a xs /\ xs.length <= i⟩
def Itt (K : PySem.W.Frag) (a : Addr) : It :=
 ⟨fun i H => ∃ xs x, SqT K H a xs /\ xs[i]? = some x, fun i H x H' => H' = H /\ ∀ xs, SqT K H a xs -> xs[i]? = some x, fun i H => ∃ xs, SqT K H a xs /\ xs.length <= i⟩
def Itr (lo : Int) (n : Nat) : It := ⟨fun i _ => i < n, fun i H x H' => H' = H /\ x = .int (lo + i), fun i _ => n <= i⟩
theorem oR {P : Program} {w : World} {K : PySem.W.Frag} {tg : Expr} (a it : Addr) : Turn P w K tg (Itl K a) [it] it (fun i h => h.IsListIter it a i) where
 mem := by simp
 obj := fun i h st b hb => by
  have e : b = it := by simpa using hb
  subst e
  obtain ⟨o, e, c, d⟩ := st
  exact ⟨o, e, fun v z => by rw [d] at z; cases z⟩
 keep := fun i h h' st k => st.at fun o e => k it (by simp) o e
 item := by
  intro X hP hw hK hc i pins s σ H E I hf st hg
  subst hP hw hK
  obtain ⟨xs, x, hq, hx⟩ := hg
  obtain ⟨its, rv, p, hz⟩ := I.list hq
  obtain ⟨u, hu, ru⟩ := rv.get hx
  obtain ⟨f0, f1, f2, f3, f4, f5⟩ := hf it (by simp)
  refine wpAny_pyNext_list_item st p.isList (x := u) (by simpa using hu) fun h' st' sb => ?_
  have I1 : Inv X pins σ H { s with heap := h' } := I.turned (t' := s.toks) (fun b o hb e => (sb.2 b hb).trans e) f0 f1 f3 f4 f5
  obtain ⟨o, e, c, d⟩ := id st'
  exact ⟨u, rfl, m6 (s := { s with heap := h' }) e c d (by decide) ⟨x, H, I1, ru, ⟨rfl, fun ys hy => by rw [I.list_inj hy hq]; exact hx⟩, st', fun b hb => (hf b hb).1⟩⟩
 done := by
  intro X hP hw hK hc i pins s σ H E I hf st hg
  subst hP hw hK
  obtain ⟨xs, hq, hx⟩ := hg
  obtain ⟨its, rv, p, hz⟩ := I.list hq
  obtain ⟨f0, f1, f2, f3, f4, f5⟩ := hf it (by simp)
  have hl := rv.length
  exact wpAny_pyNext_list_end (I.ok.hd hc) st p.isList (by simp; omega) fun h' eb => ⟨rfl, I.turned (t' := s.toks) (fun b o hb e => eb b o hb e) f0 f1 f3 f4 f5⟩
 self := fun _ _ _ _ _ st h => wpAny_pyIter_listiter st h
theorem mi {P : Program} {w : World} {K : PySem.W.Frag} {tg : Expr} (a it : Addr) : Turn P w K tg (Itt K a) [it] it (fun i h => h.IsTupleIter it a i) where
 mem := by simp
 obj := fun i h st b hb => by
  have e : b = it := by simpa using hb
  subst e
  obtain ⟨o, e, c, d⟩ := st
  exact ⟨o, e, fun v z => by rw [d] at z; cases z⟩
 keep := fun i h h' st k => st.at fun o e => k it (by simp) o e
 item := by
  intro X hP hw hK hc i pins s σ H E I hf st hg
  subst hP hw hK
  obtain ⟨xs, x, hq, hx⟩ := hg
  obtain ⟨its, rv, p, hz⟩ := I.tuple hq
  obtain ⟨u, hu, ru⟩ := rv.get hx
  obtain ⟨f0, f1, f2, f3, f4, f5⟩ := hf it (by simp)
  refine wpAny_pyNext_tuple_item st (show s.heap.IsTuple a its.toArray from p) (x := u) (by simpa using hu) fun h' st' sb => ?_
  have I1 : Inv X pins σ H { s with heap := h' } := I.turned (t' := s.toks) (fun b o hb e => (sb.2 b hb).trans e) f0 f1 f3 f4 f5
  obtain ⟨o, e, c, d⟩ := id st'
  exact ⟨u, rfl, m6 (s := { s with heap := h' }) e c d (by decide) ⟨x, H, I1, ru, ⟨rfl, fun ys hy => by rw [I.tuple_inj hy hq]; exact hx⟩, st', fun b hb => (hf b hb).1⟩⟩
 done := by
  intro X hP hw hK hc i pins s σ H E I hf st hg
  subst hP hw hK
  obtain ⟨xs, hq, hx⟩ := hg
  obtain ⟨its, rv, p, hz⟩ := I.tuple hq
  obtain ⟨f0, f1, f2, f3, f4, f5⟩ := hf it (by simp)
  have hl := rv.length
  exact wpAny_pyNext_tuple_end (I.ok.hd hc) st (show s.heap.IsTuple a its.toArray from p) (by simp; omega) fun h' eb => ⟨rfl, I.turned (t' := s.toks) (fun b o hb e => eb b o hb e) f0 f1 f3 f4 f5⟩
 self := fun _ _ _ _ _ st h => wpAny_pyIter_tupleiter st h
theorem mj {P : Program} {w : World} {K : PySem.W.Frag} {tg : Expr} (it : Addr) (lo : Int) (n : Nat) : Turn P w K tg (Itr lo n) [it] it (fun i h => IsRangeIter h it (lo + (i : Nat) * 1) ((n : Int) - (i : Nat)) 1) where
 mem := by simp
 obj := fun i h st b hb => by
  have e : b = it := by simpa using hb
  subst e
  exact ⟨_, st, fun v z => by
   have z' : Data.fields _ = Data.cell v := z
   cases z'⟩
 keep := fun i h h' st k => k it (by simp) _ st
 item := by
  intro X hP hw hK hc i pins s σ H E I hf st hg
  subst hP hw hK
  obtain ⟨f0, f1, f2, f3, f4, f5⟩ := hf it (by simp)
  have W := Walks.range (prog := X.prog) (w := X.w) (I.ok.hd hc) it lo 1 n
  refine W.item i s _ _ hg st fun v h' tk hv st' kk => ?_
  obtain ⟨t, rfl⟩ := hv
  have I1 : Inv X pins σ H { s with heap := h', toks := tk } := I.turned (fun b o hb e => kk b o (by simpa using hb) e) f0 f1 f3 f4 f5
  refine ⟨_, rfl, m6 (s := { s with heap := h', toks := tk }) (n := "range_iterator") st' rfl rfl (by decide) ⟨.int (lo + i), H, I1, ⟨t, ?_⟩, ⟨rfl, rfl⟩, st', fun b hb => (hf b hb).1⟩⟩
  rw [Int.mul_one]
 done := by
  intro X hP hw hK hc i pins s σ H E I hf st hg
  subst hP hw hK
  obtain ⟨f0, f1, f2, f3, f4, f5⟩ := hf it (by simp)
  exact wpAny_pyNext_range_end (I.ok.hd hc) st (by have : n <= i := hg; omega) fun h' eb => ⟨rfl, I.turned (t' := s.toks) (fun b o hb e => eb b o hb e) f0 f1 f3 f4 f5⟩
 self := fun _ _ _ _ _ st h => wpAny_pyIter_rangeiter st h
end L2
namespace L2
open PySem PySem.Spec PyProof.Rows
section
variable {X : Cx} {tg : Expr}
def qc (K : PySem.W.Frag) (tl : TE) : TI := fun σ H R => tl σ H fun x H1 => ∃ a, x = .ref a /\ (∃ xs, SqL K H1 a xs) /\ R (Itl K a) H1
def AQ (K : PySem.W.Frag) (tl : TE) : TI := fun σ H R => tl σ H fun x H1 => ∃ a, x = .ref a /\ (∃ xs, SqT K H1 a xs) /\ R (Itt K a) H1
theorem m7 {l : Expr} {tl : TE} (hl : PE X l tl) : PI X tg l (qc X.K tl) := by
 intro pins s σ H R I h
 refine thn (hl pins s σ H _ I h) fun v s1 zr1 => ?_
 obtain ⟨x, H1, I1, r1, q1⟩ := zr1
 obtain ⟨a, e, ⟨xs, hq⟩, q⟩ := q1
 subst e
 cases r1
 obtain ⟨its, rv, p, hz⟩ := I1.list hq
 refine wpAny_pyIter_list p.isList ?_
 refine ⟨s1.heap.objs.size, [s1.heap.objs.size], _, _, H1, rfl, I1.kept (t' := s1.toks) fun b o e => Heap.get?_push_of_some _ e, oR a _, ⟨_, Heap.get?_push_size _ rfl, rfl, rfl⟩, fun b hb => ?_, q⟩
 have e : b = s1.heap.objs.size := by simpa using hb
 subst e
 exact I1.fpOk (Nat.le_refl _) (I1.hok.fresh (Nat.le_refl _))
theorem x5 {l : Expr} {tl : TE} (hl : PE X l tl) : PI X tg l (AQ X.K tl) := by
 intro pins s σ H R I h
 refine thn (hl pins s σ H _ I h) fun v s1 zr1 => ?_
 obtain ⟨x, H1, I1, r1, q1⟩ := zr1
 obtain ⟨a, e, ⟨xs, hq⟩, q⟩ := q1
 subst e
 cases r1
 obtain ⟨its, rv, p, hz⟩ := I1.tuple hq
 refine wpAny_pyIter_tuple (show s1.heap.IsTuple a its.toArray from p) ?_
 refine ⟨s1.heap.objs.size, [s1.heap.objs.size], _, _, H1, rfl, I1.kept (t' := s1.toks) fun b o e => Heap.get?_push_of_some _ e, mi a _, ⟨_, Heap.get?_push_size _ rfl, rfl, rfl⟩, fun b hb => ?_, q⟩
 have e : b = s1.heap.objs.size := by simpa using hb
 subst e
 exact I1.fpOk (Nat.le_refl _) (I1.hok.fresh (Nat.le_refl _))
theorem qf {pins : List (Addr × Obj)} {σ : St} {H : Hp} {s : Shared} {R : It -> Hp -> Prop} {E : Value -> Shared -> Prop} {lo hi : Int} {t u v : Tok} {tk : Nat} (I : Inv X pins σ H s) (h1 : -(2 ^ 62) <= lo) (h2 : lo < 2 ^ 62) (h3 : -(2 ^ 62) <= hi) (h4 : hi < 2 ^ 62)
  (q : R (Itr lo (hi - lo).toNat) H) : wpAny (model X.prog X.w) X.A (pyIter (.ref s.heap.objs.size)) (PIE X pins σ tg R) E { s with heap := s.heap.push { cls := .type "range", data := .fields #[.int lo t, .int hi u, .int 1 v] }, toks := tk } := by
 refine wpAny_pyIter_range (IsRange.new ..) (small_one h1 h2 h3 h4) ?_
 have I1 : Inv X pins σ H { s with heap := s.heap.push { cls := .type "range", data := .fields #[.int lo t, .int hi u, .int 1 v] }, toks := tk } := I.kept fun b o e => Heap.get?_push_of_some _ e
 refine ⟨(s.heap.push { cls := .type "range", data := .fields #[.int lo t, .int hi u, .int 1 v] }).objs.size, [(s.heap.push { cls := .type "range", data := .fields #[.int lo t, .int hi u, .int 1 v] }).objs.size], _, _, H, rfl,
  I1.kept (t' := tk) fun b o e => Heap.get?_push_of_some _ e, mj _ lo (hi - lo).toNat, ?_, fun b hb => ?_, q⟩
 ·have e1 : lo + ((0 : Nat) : Int) * 1 = lo := by simp
  have e2 : (((hi - lo).toNat : Nat) : Int) - ((0 : Nat) : Int) = Builtin.Range.rangeSize lo hi 1 := by rw [rangeSize_one]; split <;> omega
  show IsRangeIter _ _ (lo + ((0 : Nat) : Int) * 1) ((((hi - lo).toNat : Nat) : Int) - ((0 : Nat) : Int)) 1
  rw [e1, e2]
  exact Heap.get?_push_size _ rfl
 ·have e : b = (s.heap.push { cls := .type "range", data := .fields #[.int lo t, .int hi u, .int 1 v] }).objs.size := by simpa using hb
  subst e
  exact I1.fpOk (Nat.le_refl _) (I1.hok.fresh (Nat.le_refl _))
def wD (ta : TA) : TI := fun σ H R => ta σ H fun vs H1 => ∃ j : Int, vs = [.int j] /\ -(2 ^ 62) <= j /\ j < 2 ^ 62 /\ R (Itr 0 j.toNat) H1
theorem oS {a : Expr} {ta : TA} {p pos : Pos} (hg : Gl X "range") (hm : X.mg "range" = none) (ha : PA X [a] ta) (hs : starEach [a] X.env = [(false, eval a X.env)] := by rfl) : PI X tg (.Call (.Name "range" p) [a] [] pos) (wD ta) := by
 intro pins s σ H R I h
 refine Call_ (gV I hg hm boot_range (PyProof.Rows.callWith_type1 (thn (ha pos pins s σ H _ I h) fun us s1 zr1 => ?_) hs rfl))
 obtain ⟨vs, H1, I1, r1, q1⟩ := zr1
 obtain ⟨j, e, q1, q2, q⟩ := q1
 subst e
 cases r1 with
 | cons r rr =>
  cases rr
  obtain ⟨t, rfl⟩ := r
  exact call_range_1 (qf I1 (by omega) (by omega) q1 q2 (by simpa using q))
def oT (wi : TI) (g : TG) (tb : TS) : TS := fun D σ H => wi σ H fun J H1 => ∃ W : Nat -> Nat -> St -> Hp -> Prop, (∃ m, W 0 m σ H1) /\ ∀ i m σ H, W i m σ H ->
 (J.stop i H /\ D.nx σ H) \/ (J.go i H /\ ∃ N : St -> Hp -> Prop, (∀ σ' H', N σ' H' -> ∃ m', m' < m /\ W (i + 1) m' σ' H') /\ ∀ x H', J.yld i H x H' -> g x σ H' fun σ2 H2 => tb { D with nx := N, ct := N, bk := D.nx } σ2 H2)
def b6 (fp : List Addr) (h : Heap) : List (Addr × Obj) := fp.filterMap fun b => (h.get? b).map fun o => (b, o)
theorem aQ {fp : List Addr} {h : Heap} {b : Addr} {o : Obj} (hb : b ∈ fp) (e : h.get? b = some o) : (b, o) ∈ b6 fp h := List.mem_filterMap.mpr ⟨b, hb, by rw [e]; rfl⟩
theorem fT {fp : List Addr} {h : Heap} {p : Addr × Obj} (hp : p ∈ b6 fp h) : p.1 ∈ fp /\ h.get? p.1 = some p.2 := by
 obtain ⟨b, hb, e⟩ := List.mem_filterMap.mp hp
 cases q : h.get? b with
 | none => rw [q] at e; cases e
 | some o =>
  rw [q] at e
  have e' : (b, o) = p := Option.some.inj e
  subst e'
  exact ⟨hb, q⟩
theorem Inv.pinned {pins : List (Addr × Obj)} {σ : St} {H : Hp} {s : Shared} {fp : List Addr} (I : Inv X pins σ H s) (hf : ∀ b ∈ fp, dY X pins H b) (ho : ∀ b ∈ fp, ∃ o, s.heap.get? b = some o /\ ∀ v, o.data ≠ .cell v) : Inv X (pins ++ b6 fp s.heap) σ H s :=
 I.pins_of fun p hp => (List.mem_append.mp hp).elim (fun z => I.pin p (List.mem_append_right _ z)) fun z => by
  obtain ⟨hb, e⟩ := fT z
  obtain ⟨f0, f1, f2, _⟩ := hf p.1 hb
  obtain ⟨o, e', d⟩ := ho p.1 hb
  rw [e] at e'; cases e'
  exact ⟨e, f0, f1, f2, d⟩
theorem Inv.unpinned {pins pl : List (Addr × Obj)} {σ : St} {H : Hp} {s : Shared} (I : Inv X (pins ++ pl) σ H s) : Inv X pins σ H s := I.pins_of fun p hp => I.pin p (List.mem_append_right _ (List.mem_append_left _ hp))
theorem jN {iter : Expr} {body : List Stmt} {wi : TI} {g : TG} {tb : TS} {pos : Pos} (hp : PassesOwn (model X.prog X.w) X.A X.env X.xe) (hc : X.calm = true) (hi : PI X tg iter wi) (hg : PG X tg g) (hb : PSs X body tb)
  (hs : ∀ x, foldedSetIterable iter X.env x = pure x := by intro _; rfl) : PS X (.For tg iter body [] pos) (oT wi g tb) := by
 intro pins s σ H D I h
 refine wpAny_For (thn (hi pins s σ H _ I h) fun v s1 h1 => thn h1 fun itv s2 h2 => ?_) hs
 obtain ⟨it, fp, tn, J, H2, e, I2, T, st2, f2, W, ⟨m0, w0⟩, turn⟩ := h2
 subst e
 -- what stays true of the iterator's objects through the loop
 have stat : ∀ {H' : Hp}, (∀ b ∈ fp, H' b = none) -> ∀ b ∈ fp, dY X pins H' b := fun hn b hb => ⟨hn b hb, (f2 b hb).2⟩
 refine codeAny_forLoop_any (fun n s' => ∃ i σ' H', Inv X pins σ' H' s' /\ tn i s'.heap /\ (∀ b ∈ fp, H' b = none) /\ W i n σ' H') ?_ m0 ⟨0, σ, H2, I2, st2, fun b hb => (f2 b hb).1, w0⟩
 rintro n s3 ⟨i, σ3, H3, I3, st3, fr3, w3⟩
 rcases turn i n σ3 H3 w3 with ⟨stop, qn⟩ | ⟨go, N, hN, step⟩
 ·refine wpAny_passesOwn hp (thn (T.done X rfl rfl rfl hc i pins s3 σ3 H3 X.xe I3 (stat fr3) st3 stop) fun r s4 zr1 => ?_)
  obtain ⟨hr, I4⟩ := zr1
  subst hr
  exact wpAny_execs_nil ⟨σ3, H3, I4, qn⟩
 ·refine wpAny_passesOwn hp (thn (T.item X rfl rfl rfl hc i pins s3 σ3 H3 X.xe I3 (stat fr3) st3 go) fun r s4 zr1 => ?_)
  obtain ⟨u, hr, h4⟩ := zr1
  subst hr
  refine wpAny_passesOwn hp (thn h4 fun _ s5 zr1 => ?_)
  obtain ⟨x, H5, I5, r5, y5, st5, fr5⟩ := zr1
  have I5' := I5.pinned (stat fr5) (T.obj _ _ st5)
  refine wpAny_passesOwn hp (thn (hg _ s5 σ3 H5 x u _ I5' r5 (step x H5 y5)) fun _ s6 zr1 => ?_)
  obtain ⟨σ6, H6, I6, q6⟩ := zr1
  refine wpAny_passesOwn hp (thn (hb _ s6 σ6 H6 _ I6 q6) fun f s7 q7 => ?_)
  have again : ∀ {σ7 : St} {H7 : Hp}, Inv X (pins ++ b6 fp s5.heap) σ7 H7 s7 -> N σ7 H7 -> ∃ m, m < n /\ ∃ i σ' H', Inv X pins σ' H' s7 /\ tn i s7.heap /\ (∀ b ∈ fp, H' b = none) /\ W i m σ' H' := fun {σ7 H7} I7 n7 => by
   obtain ⟨m', hm, w7⟩ := hN σ7 H7 n7
   refine ⟨m', hm, i + 1, σ7, H7, I7.unpinned, T.keep _ _ _ st5 fun b hb o e => (I7.pin (b, o) (List.mem_append_right _ (List.mem_append_right _ (aQ hb e)))).1, fun b hb => ?_, w7⟩
   obtain ⟨o, e, d⟩ := T.obj _ _ st5 b hb
   exact (I7.pin (b, o) (List.mem_append_right _ (List.mem_append_right _ (aQ hb e)))).2.1
  cases f with
  | next => obtain ⟨σ7, H7, I7, n7⟩ := q7; exact again I7 n7
  | cont => obtain ⟨σ7, H7, I7, n7⟩ := q7; exact again I7 n7
  | brk => obtain ⟨σ7, H7, I7, q7⟩ := q7; exact ⟨σ7, H7, I7.unpinned, q7⟩
  | ret v => obtain ⟨x7, σ7, H7, I7, r7, q7⟩ := q7; exact ⟨x7, σ7, H7, I7.unpinned, r7, q7⟩
end
end L2
namespace L2
open PySem PySem.Spec PyProof.Rows
abbrev R2 := V -> V -> Hp -> VK -> Prop
def OpR (X : Cx) (f : Value -> Value -> Sem Value) (r : R2) : Prop :=
 ∀ (pins : List (Addr × Obj)) (s : Shared) (σ : St) (H : Hp) (x y : V) (v u : Value) (Q : VK), Inv X pins σ H s -> RelV x v -> RelV y u -> r x y H Q ->
  wpAny (model X.prog X.w) X.A (f v u) (EP X pins σ Q) X.xe s
def bW (X : Cx) (f : Value) (r : List V -> Hp -> VK -> Prop) : Prop :=
 ∀ (pins : List (Addr × Obj)) (s : Shared) (σ : St) (H : Hp) (xs : List V) (us : List Value) (Q : VK), Inv X pins σ H s -> Vals xs us -> r xs H Q ->
  wpAny (model X.prog X.w) X.A (call f us) (EP X pins σ Q) X.xe s
def De (X : Cx) (r : V -> Hp -> (Bool -> Hp -> Prop) -> Prop) : Prop :=
 ∀ (pins : List (Addr × Obj)) (s : Shared) (σ : St) (H : Hp) (x : V) (v : Value) (Q : Bool -> Hp -> Prop), Inv X pins σ H s -> RelV x v -> r x H Q ->
  wpAny (model X.prog X.w) X.A (truthy v) (TP X pins σ Q) X.xe s
def tOp (r : R2) (ta tb : TE) : TE := fun σ H Q => ta σ H fun x H1 => tb σ H1 fun y H2 => r x y H2 Q
def rI (C : Int -> Int -> Prop) (g : Int -> Int -> V) : R2 := fun x y H Q => ∃ i j, x = .int i /\ y = .int j /\ C i j /\ Q (g i j) H
def rI0 (g : Int -> Int -> V) : R2 := fun x y H Q => ∃ i j, x = .int i /\ y = .int j /\ Q (g i j) H
section
variable {X : Cx} {a b c : Expr} {ta tb tc : TE} {pos : Pos}
theorem x6 (ha : PE X a ta) (hb : PE X b tb) {pins : List (Addr × Obj)} {s : Shared} {σ : St} {H : Hp} {R : V -> V -> Hp -> Prop} (I : Inv X pins σ H s)
  (h : ta σ H fun x H1 => tb σ H1 fun y H2 => R x y H2) {Q : Value -> Shared -> Prop} {f : Value -> Value -> Sem Value}
  (hf : ∀ v u s2 x y H2, Inv X pins σ H2 s2 -> RelV x v -> RelV y u -> R x y H2 -> wpAny (model X.prog X.w) X.A (f v u) Q X.xe s2) :
  wpAny (model X.prog X.w) X.A (eval a X.env) (fun v s₁ => wpAny (model X.prog X.w) X.A (eval b X.env) (fun u s₂ => wpAny (model X.prog X.w) X.A (f v u) Q X.xe s₂) X.xe s₁) X.xe s := by
 refine thn (ha pins s σ H _ I h) fun v s1 zr1 => ?_
 obtain ⟨x, H1, I1, r1, q1⟩ := zr1
 refine thn (hb pins s1 σ H1 _ I1 q1) fun u s2 zr1 => ?_
 obtain ⟨y, H2, I2, r2, q2⟩ := zr1
 exact hf v u s2 x y H2 I2 r1 r2 q2
theorem wF {op : Operator} {r : R2} (ho : OpR X (binaryOp op) r) (ha : PE X a ta) (hb : PE X b tb) : PE X (.BinOp a op b pos) (tOp r ta tb) := by
 intro pins s σ H Q I h
 exact wpAny_BinOp (x6 ha hb I h fun v u s2 x y H2 I2 rx ry q => ho pins s2 σ H2 x y v u Q I2 rx ry q)
theorem opI {f : Value -> Value -> Sem Value} {C : Int -> Int -> Prop} {g : Int -> Int -> Int}
  (rule : ∀ (i j : Int) (t u : Tok) (s : Shared) (Q : Value -> Shared -> Prop) (E : Value -> Shared -> Prop), C i j -> Q (.int (g i j) s.toks) { s with toks := s.toks + 1 } -> wpAny (model X.prog X.w) X.A (f (.int i t) (.int j u)) Q E s) :
  OpR X f (rI C fun i j => .int (g i j)) := by
 intro pins s σ H x y v u Q I rx ry h
 obtain ⟨i, j, rfl, rfl, hc, q⟩ := h
 obtain ⟨t, rfl⟩ := rx
 obtain ⟨t', rfl⟩ := ry
 exact rule i j t t' s _ _ hc ⟨.int (g i j), H, I.tok _, ⟨_, rfl⟩, q⟩
theorem AR {f : Value -> Value -> Sem Value} {g : Int -> Int -> Int}
  (rule : ∀ (i j : Int) (t u : Tok) (s : Shared) (Q : Value -> Shared -> Prop) (E : Value -> Shared -> Prop), Q (.int (g i j) s.toks) { s with toks := s.toks + 1 } -> wpAny (model X.prog X.w) X.A (f (.int i t) (.int j u)) Q E s) :
  OpR X f (rI0 fun i j => .int (g i j)) := by
 intro pins s σ H x y v u Q I rx ry h
 obtain ⟨i, j, rfl, rfl, q⟩ := h
 obtain ⟨t, rfl⟩ := rx
 obtain ⟨t', rfl⟩ := ry
 exact rule i j t t' s _ _ ⟨.int (g i j), H, I.tok _, ⟨_, rfl⟩, q⟩
theorem tZ {f : Value -> Value -> Sem Value} {g : Int -> Int -> Bool}
  (rule : ∀ (i j : Int) (t u : Tok) (s : Shared) (Q : Value -> Shared -> Prop) (E : Value -> Shared -> Prop), Q (.bool (g i j)) s -> wpAny (model X.prog X.w) X.A (f (.int i t) (.int j u)) Q E s) :
  OpR X f (rI0 fun i j => .bl (g i j)) := by
 intro pins s σ H x y v u Q I rx ry h
 obtain ⟨i, j, rfl, rfl, q⟩ := h
 obtain ⟨t, rfl⟩ := rx
 obtain ⟨t', rfl⟩ := ry
 exact rule i j t t' s _ _ ⟨.bl (g i j), H, I, rfl, q⟩
def Df (i j : Int) : Prop := 0 < j /\ j < 1073741824
def Dg (i j : Int) : Prop := 0 <= j /\ j <= 1000000 /\ i.natAbs < 2 ^ 64
def x8 (i j : Int) : Prop := (-(2 ^ 64) < i /\ i < 2 ^ 64) \/ (-(2 ^ 64) < j /\ j < 2 ^ 64)
theorem x8.ok {i j : Int} (h : x8 i j) : IntMulOk i j := by
 rcases h with ⟨h1, h2⟩ | ⟨h1, h2⟩
 ·exact .of_left (intBits_le_64 h1 h2)
 ·exact .of_right (intBits_le_64 h1 h2)
theorem aW : OpR X (binaryOp .Add) (rI0 fun i j => .int (i + j)) := AR fun _ _ _ _ _ _ _ q => add_int q
theorem bK : OpR X (binaryOp .Sub) (rI0 fun i j => .int (i - j)) := AR fun _ _ _ _ _ _ _ q => sub_int q
theorem dm : OpR X (binaryOp .Mult) (rI x8 fun i j => .int (i * j)) := opI fun _ _ _ _ _ _ _ hc q => mul_int q hc.ok
theorem gK : OpR X (binaryOp .FloorDiv) (rI Df fun i j => .int (i / j)) := opI fun i j _ _ _ _ _ hc q => by
 have h1 : (0 : Int) < j := hc.1
 have h2 : j < 1073741824 := hc.2
 exact floordiv_int (by omega) (by rw [Int.fdiv_eq_ediv_of_nonneg i (by omega)]; exact q) (.inl (PyProof.noPylong_small (by omega)))
theorem cP : OpR X (binaryOp .Mod) (rI (fun _ j => 0 < j) fun i j => .int (i % j)) := opI fun i j _ _ _ _ _ hc q => by
 have h1 : (0 : Int) < j := hc
 exact mod_int' (by omega) (by rw [Int.fmod_eq_emod_of_nonneg i (by omega)]; exact q)
theorem cG : OpR X (binaryOp .Pow) (rI Dg fun i j => .int (i ^ j.toNat)) := opI fun _ _ _ _ _ _ _ hc q => pow_int_small hc.1 hc.2.1 hc.2.2 q
end
def t4 : V -> V -> Bool
 | .non, .non => true | .non, .int _ => true | .int _, .non => true | .non, .bl _ => true | .bl _, .non => true | .non, .str _ => true | .str _, .non => true
 | .int _, .int _ => true | .bl _, .bl _ => true | .str _, .str _ => true | .byt _, .byt _ => true
 | .int _, .str _ => true | .str _, .int _ => true | .bl _, .str _ => true | .str _, .bl _ => true
 | _, _ => false
def rEq : R2 := fun x y H Q => t4 x y = true /\ Q (.bl (decide (x = y))) H
def rNe : R2 := fun x y H Q => t4 x y = true /\ Q (.bl (!decide (x = y))) H
theorem m8 {i j : Int} : decide (V.int i = V.int j) = (i == j) := by
 rw [Bool.eq_iff_iff]
 simp
theorem qg {i j : Bool} : decide (V.bl i = V.bl j) = (i == j) := by
 rw [Bool.eq_iff_iff]
 simp
theorem m9 {i j : Str} : decide (V.str i = V.str j) = (i == j) := by
 rw [Bool.eq_iff_iff]
 simp
theorem ng {i j : Array UInt8} : decide (V.byt i = V.byt j) = (i.toList == j.toList) := by
 rw [Bool.eq_iff_iff]
 cases i
 cases j
 simp
section
variable {X : Cx} {a b c : Expr} {ta tb tc : TE} {pos : Pos}
theorem aR {pins : List (Addr × Obj)} {σ : St} {H : Hp} {s : Shared} {Q : VK} {k k' : Bool} (I : Inv X pins σ H s) (q : Q (.bl k) H) (e : k = k') : EP X pins σ Q (.bool k') s := by
 subst e
 exact ⟨.bl k, H, I, rfl, q⟩
theorem eU : OpR X (compareOp .Eq) rEq := by
 intro pins s σ H x y v u Q I rx ry h
 obtain ⟨hs, q⟩ := h
 cases x with
 | non =>
  cases rx
  cases y with
  | non => cases ry; exact PySem.EqNone.eq_none_none (aR I q (by simp))
  | bl j => cases ry; exact PySem.EqNone.eq_none_bool (aR I q (by simp))
  | int j => obtain ⟨t', rfl⟩ := ry; exact PySem.EqNone.eq_none_int (aR I q (by simp))
  | str j => obtain ⟨t', rfl⟩ := ry; exact PySem.EqNone.eq_none_str (aR I q (by simp))
  | _ => exact absurd (show false = true from hs) Bool.false_ne_true
 | bl i =>
  cases rx
  cases y with
  | non => cases ry; exact PySem.EqNone.eq_bool_none (aR I q (by simp))
  | bl j => cases ry; exact eq_bool (aR I q qg)
  | str j => obtain ⟨t', rfl⟩ := ry; exact PySem.EqMixed.eq_bool_str (aR I q (by simp))
  | _ => exact absurd (show false = true from hs) Bool.false_ne_true
 | int i =>
  obtain ⟨t, rfl⟩ := rx
  cases y with
  | non => cases ry; exact PySem.EqNone.eq_int_none (aR I q (by simp))
  | int j => obtain ⟨t', rfl⟩ := ry; exact eq_int (aR I q m8)
  | str j => obtain ⟨t', rfl⟩ := ry; exact PySem.EqMixed.eq_int_str (aR I q (by simp))
  | _ => exact absurd (show false = true from hs) Bool.false_ne_true
 | str i =>
  obtain ⟨t, rfl⟩ := rx
  cases y with
  | non => cases ry; exact PySem.EqNone.eq_str_none (aR I q (by simp))
  | bl j => cases ry; exact PySem.EqMixed.eq_str_bool (aR I q (by simp))
  | int j => obtain ⟨t', rfl⟩ := ry; exact PySem.EqMixed.eq_str_int (aR I q (by simp))
  | str j => obtain ⟨t', rfl⟩ := ry; exact eq_str (aR I q m9)
  | _ => exact absurd (show false = true from hs) Bool.false_ne_true
 | byt i =>
  obtain ⟨t, rfl⟩ := rx
  cases y with
  | byt j => obtain ⟨t', rfl⟩ := ry; exact PySem.W.eq_bytes (aR I q ng)
  | _ => exact absurd (show false = true from hs) Bool.false_ne_true
 | _ => cases y <;> exact absurd (show false = true from hs) Bool.false_ne_true
theorem je : OpR X (compareOp .NotEq) rNe := by
 intro pins s σ H x y v u Q I rx ry h
 obtain ⟨hs, q⟩ := h
 cases x with
 | non =>
  cases rx
  cases y with
  | non => cases ry; exact PySem.EqNone.ne_none_none (aR I q (by simp))
  | bl j => cases ry; exact PySem.EqNone.ne_none_bool (aR I q (by simp))
  | int j => obtain ⟨t', rfl⟩ := ry; exact PySem.EqNone.ne_none_int (aR I q (by simp))
  | str j => obtain ⟨t', rfl⟩ := ry; exact PySem.EqNone.ne_none_str (aR I q (by simp))
  | _ => exact absurd (show false = true from hs) Bool.false_ne_true
 | bl i =>
  cases rx
  cases y with
  | non => cases ry; exact PySem.EqNone.ne_bool_none (aR I q (by simp))
  | bl j => cases ry; exact ne_bool (aR I q (congrArg not qg))
  | str j => obtain ⟨t', rfl⟩ := ry; exact PySem.EqMixed.ne_bool_str (aR I q (by simp))
  | _ => exact absurd (show false = true from hs) Bool.false_ne_true
 | int i =>
  obtain ⟨t, rfl⟩ := rx
  cases y with
  | non => cases ry; exact PySem.EqNone.ne_int_none (aR I q (by simp))
  | int j => obtain ⟨t', rfl⟩ := ry; exact ne_int (aR I q (congrArg not m8))
  | str j => obtain ⟨t', rfl⟩ := ry; exact PySem.EqMixed.ne_int_str (aR I q (by simp))
  | _ => exact absurd (show false = true from hs) Bool.false_ne_true
 | str i =>
  obtain ⟨t, rfl⟩ := rx
  cases y with
  | non => cases ry; exact PySem.EqNone.ne_str_none (aR I q (by simp))
  | bl j => cases ry; exact PySem.EqMixed.ne_str_bool (aR I q (by simp))
  | int j => obtain ⟨t', rfl⟩ := ry; exact PySem.EqMixed.ne_str_int (aR I q (by simp))
  | str j => obtain ⟨t', rfl⟩ := ry; exact ne_str (aR I q (congrArg not m9))
  | _ => exact absurd (show false = true from hs) Bool.false_ne_true
 | byt i =>
  obtain ⟨t, rfl⟩ := rx
  cases y with
  | byt j => obtain ⟨t', rfl⟩ := ry; exact PySem.W.ne_bytes (aR I q (congrArg not ng))
  | _ => exact absurd (show false = true from hs) Bool.false_ne_true
 | _ => cases y <;> exact absurd (show false = true from hs) Bool.false_ne_true
theorem kN : OpR X (compareOp .Lt) (rI0 fun i j => .bl (decide (i < j))) := tZ fun _ _ _ _ _ _ _ q => lt_int q
theorem wG : OpR X (compareOp .LtE) (rI0 fun i j => .bl (decide (i <= j))) := tZ fun _ _ _ _ _ _ _ q => le_int q
theorem d9 : OpR X (compareOp .Gt) (rI0 fun i j => .bl (decide (j < i))) := tZ fun _ _ _ _ _ _ _ q => gt_int q
theorem AS : OpR X (compareOp .GtE) (rI0 fun i j => .bl (decide (j <= i))) := tZ fun _ _ _ _ _ _ _ q => ge_int q
theorem jf : OpR X (compareOp .In) (fun x y H Q => ∃ i j, x = .str i /\ y = .str j /\ Q (.bl (!(Builtin.Str.occurrences j i 0 j.length 1).isEmpty)) H) := by
 intro pins s σ H x y v u Q I rx ry h
 obtain ⟨i, j, rfl, rfl, q⟩ := h
 obtain ⟨t, rfl⟩ := rx
 obtain ⟨t', rfl⟩ := ry
 exact in_str (aR I q rfl)
theorem ml : OpR X (compareOp .Is) (fun x y H Q => y = .non /\ Q (.bl (decide (x = .non))) H) := by
 intro pins s σ H x y v u Q I rx ry h
 obtain ⟨rfl, q⟩ := h
 cases ry
 refine is_none_gen (aR I q ?_)
 cases x <;> first
  | (cases rx; rfl)
  | (obtain ⟨t, rfl⟩ := rx; rfl)
theorem aF (b : Expr) {op : CmpOp} (h : op ≠ .In := by decide) (h2 : op ≠ .NotIn := by decide) : behindInMarks op b = false := by
 have e1 : (op == CmpOp.In) = false := by cases op <;> first | rfl | exact absurd rfl h
 have e2 : (op == CmpOp.NotIn) = false := by cases op <;> first | rfl | exact absurd rfl h2
 cases b <;> simp [behindInMarks, e1, e2]
theorem t5 {op : CmpOp} {r : R2} (ho : OpR X (compareOp op) r) (ha : PE X a ta) (hb : PE X b tb) (hm : behindInMarks op b = false) : PE X (.Compare a [op] [b] pos) (tOp r ta tb) := by
 intro pins s σ H Q I h
 exact wpAny_Compare1 (x6 ha hb I h fun v u s2 x y H2 I2 rx ry q => ho pins s2 σ H2 x y v u Q I2 rx ry q) hm
def kO (t : TE) : TT := fun σ H Q => t σ H fun x H' => ∃ k, x = .bl k /\ Q k H'
theorem t6 {op : CmpOp} {r : R2} (ho : OpR X (compareOp op) r) (ha : PE X a ta) (hb : PE X b tb) (hm : behindInMarks op b = false) : PT X (.Compare a [op] [b] pos) (kO (tOp r ta tb)) := by
 intro pins s σ H Q I h
 refine wpAny_isTrue_Compare1 (thn (ha pins s σ H _ I h) fun v s1 ⟨x, H1, I1, r1, q1⟩ => thn (hb pins s1 σ H1 _ I1 q1) fun u s2 ⟨y, H2, I2, r2, q2⟩ =>
  thn (ho pins s2 σ H2 x y v u _ I2 r1 r2 q2) fun c s3 ⟨z, H3, I3, r3, k, e, q3⟩ => ?_) hm
 subst e
 cases r3
 exact wpAny_truthy_bool ⟨H3, I3, q3⟩
def mn (r r' : R2) (ta tb tc : TE) : TE := fun σ H Q => ta σ H fun x H1 => tb σ H1 fun y H2 => r x y H2 fun z H3 => ∃ k, z = .bl k /\
 (if k = true then tc σ H3 fun w' H4 => r' y w' H4 Q else Q (.bl false) H3)
theorem qh {op op' : CmpOp} {r r' : R2} (ho : OpR X (compareOp op) r) (ho' : OpR X (compareOp op') r') (ha : PE X a ta) (hb : PE X b tb) (hc : PE X c tc)
  (hm : lastMarks [op, op'] [b, c] = false := by with_unfolding_all rfl) : PT X (.Compare a [op, op'] [b, c] pos) (kO (mn r r' ta tb tc)) := by
 intro pins s σ H Q I h
 refine isTrue_chain (thn (ha pins s σ H _ I h) fun v s1 ⟨x, H1, I1, r1, q1⟩ => test_link (thn (hb pins s1 σ H1 _ I1 q1) fun u s2 ⟨y, H2, I2, r2, q2⟩ =>
  thn (ho pins s2 σ H2 x y v u _ I2 r1 r2 q2) fun d s3 ⟨z, H3, I3, r3, k, e, q3⟩ => ?_)) hm
 subst e
 cases r3
 refine wpAny_truthy_bool ?_
 cases k with
 | false =>
  obtain ⟨k', e', q'⟩ := q3
  cases e'
  exact ite_ff ⟨H3, I3, q'⟩
 | true =>
  refine ite_tt (test_last (thn (hc pins s3 σ H3 _ I3 q3) fun w' s4 ⟨z', H4, I4, r4, q4⟩ => thn (ho' pins s4 σ H4 y z' u w' _ I4 r2 r4 q4) fun d' s5 zr1 => ?_))
  obtain ⟨z2, H5, I5, r5, k2, e2, q5⟩ := zr1
  subst e2
  cases r5
  exact wpAny_truthy_bool ⟨H5, I5, q5⟩
def TruV (K : PySem.W.Frag) (x : V) (H : Hp) (k : Bool) : Prop :=
 match x with
 | .non => k = false
 | .bl b => k = b
 | .int i => k = (i != 0)
 | .str y => y.length <= sizeLine /\ k = ((y.length : Int) != 0)
 | .byt y => y.size <= sizeLine /\ k = ((y.size : Int) != 0)
 | .ref p => (∃ xs, SqL K H p xs /\ k = !xs.isEmpty) \/ (∃ xs, SqT K H p xs /\ k = !xs.isEmpty) \/ ∃ kvs, H p = some (.dK kvs) /\ k = !kvs.isEmpty
 | _ => False
theorem mq {κ : Type} {kvs : List (κ × V)} {vs : List (κ × Value)} (r : KV kvs vs) : (!vs.isEmpty) = !kvs.isEmpty := by
 cases r <;> rfl
theorem gY {xs : List V} {its : List Value} (r : Vals xs its) : (!its.toArray.isEmpty) = !xs.isEmpty := by
 cases r <;> simp
theorem eZ : (sizeLine : Nat) < 2 ^ 63 := by rw [sizeLine_eq]; decide
theorem x9 : De X (fun x H Q => ∃ k, TruV X.K x H k /\ Q k H) := by
 intro pins s σ H x v Q I rx h
 obtain ⟨k, e, q⟩ := h
 have hl := eZ
 have hs : sizeLine = 16777216 := sizeLine_eq
 cases x with
 | non =>
  cases rx
  have e' : k = false := e
  subst e'
  exact truthy_none ⟨H, I, q⟩
 | bl b =>
  cases rx
  have e' : k = b := e
  subst e'
  exact wpAny_truthy_bool ⟨H, I, q⟩
 | int i =>
  obtain ⟨t, rfl⟩ := rx
  have e' : k = (i != 0) := e
  subst e'
  exact PySem.P.truthy_int ⟨H, I, q⟩
 | str y =>
  obtain ⟨t, rfl⟩ := rx
  obtain ⟨hy, e'⟩ : y.length <= sizeLine /\ k = ((y.length : Int) != 0) := e
  subst e'
  exact PySem.P.truthy_str (by omega) ⟨H, I.tok _, q⟩
 | byt y =>
  obtain ⟨t, rfl⟩ := rx
  obtain ⟨hy, e'⟩ : y.size <= sizeLine /\ k = ((y.size : Int) != 0) := e
  subst e'
  exact PySem.W.truthy_bytes (by omega) ⟨H, I.tok _, q⟩
 | ref p =>
  cases rx
  have e' : (∃ xs, SqL X.K H p xs /\ k = !xs.isEmpty) \/ (∃ xs, SqT X.K H p xs /\ k = !xs.isEmpty) \/ ∃ kvs, H p = some (.dK kvs) /\ k = !kvs.isEmpty := e
  rcases e' with ⟨xs, hx, e'⟩ | ⟨xs, hx, e'⟩ | ⟨kvs, hx, e'⟩
  ·subst e'
   obtain ⟨its, r, pl, hz⟩ := I.list hx
   have hlen := r.length
   exact wpAny_truthy_list pl.isList (by simp only [List.size_toArray]; omega) ⟨H, I.tok _, by rw [gY r]; exact q⟩
  ·subst e'
   obtain ⟨its, r, pl, hz⟩ := I.tuple hx
   have hlen := r.length
   exact truthy_tuple pl (by simp only [List.size_toArray]; omega) ⟨H, I.tok _, by rw [gY r]; exact q⟩
  ·subst e'
   obtain ⟨hz, hS, vs, r, m⟩ : kvs.length <= sizeLine /\ (p == sysModules) = false /\ ∃ vs, KV kvs vs /\ s.heap.DictOf (jJ X.prog X.w) p vs := I.hok p _ hx
   have hlen : kvs.length = vs.length := Paired.length r
   exact wpAny_truthy_dict hS m (by omega) ⟨H, I.tok _, by rw [mq r]; exact q⟩
 | _ => exact (show False from e).elim
theorem qj (ha : PE X a ta) (he : ∀ whole, isTrue a X.env whole = (do let v <- whole; standAt a.pos; holding [v] (truthy v))) :
  PT X a (fun σ H Q => ta σ H fun x H' => ∃ k, TruV X.K x H' k /\ Q k H') := by
 intro pins s σ H Q I h
 exact isTrue_plain (thn (ha pins s σ H _ I h) fun v s1 zt1 => by obtain ⟨x, H1, I1, r1, q1⟩ := zt1; exact x9 pins s1 σ H1 x v Q I1 r1 q1) (he _)
theorem bD : OpR X (binaryOp .Add) (fun x y H Q => ∃ i j, x = .str i /\ y = .str j /\ i.length + j.length <= sizeLine /\ Q (.str (i ++ j)) H) := by
 intro pins s σ H x y v u Q I rx ry h
 obtain ⟨i, j, rfl, rfl, hz, q⟩ := h
 obtain ⟨t, rfl⟩ := rx
 obtain ⟨t', rfl⟩ := ry
 exact add_str (fun t' tk => ⟨.str (i ++ j), H, I.tok _, ⟨_, rfl⟩, q⟩) hz
theorem vals1 {x : V} {us : List Value} (r : Vals [x] us) : ∃ u, us = [u] /\ RelV x u := by
 cases r with
 | cons r1 r2 => cases r2; exact ⟨_, rfl, r1⟩
theorem vals2 {x y : V} {us : List Value} (r : Vals [x, y] us) : ∃ u w', us = [u, w'] /\ RelV x u /\ RelV y w' := by
 cases r with
 | cons r1 r2 =>
  cases r2 with
  | cons r3 r4 => cases r4; exact ⟨_, _, rfl, r1, r3⟩
theorem gZ : bW X (.builtin "abs") (fun xs H Q => ∃ i, xs = [.int i] /\ Q (.int (if i < 0 then -i else i)) H) := by
 intro pins s σ H xs us Q I r h
 obtain ⟨i, rfl, q⟩ := h
 obtain ⟨u, rfl, t, rfl⟩ := vals1 r
 exact call_abs_int fun u tk => ⟨.int (if i < 0 then -i else i), H, I.tok _, ⟨_, rfl⟩, q⟩
theorem oU (hc : X.calm = true) : bW X (.builtin "min") (fun xs H Q => ∃ i j, xs = [.int i, .int j] /\ Q (.int (if j < i then j else i)) H) := by
 intro pins s σ H xs us Q I r h
 obtain ⟨i, j, rfl, q⟩ := h
 obtain ⟨u, w', rfl, ⟨t, rfl⟩, ⟨t', rfl⟩⟩ := vals2 r
 refine min_two_ints (I.ok.hd hc) fun h' tk k => ⟨_, H, I.kept k, ?_, q⟩
 by_cases hj : j < i
 ·rw [if_pos hj, if_pos hj]; exact ⟨_, rfl⟩
 ·rw [if_neg hj, if_neg hj]; exact ⟨_, rfl⟩
theorem jg : bW X (.type "int") (fun xs H Q => (∃ i, xs = [.int i] /\ Q (.int i) H) \/ ∃ k, xs = [.bl k] /\ Q (.int (if k then 1 else 0)) H) := by
 intro pins s σ H xs us Q I r h
 rcases h with ⟨i, rfl, q⟩ | ⟨k, rfl, q⟩
 ·obtain ⟨u, rfl, t, rfl⟩ := vals1 r
  exact call_int_int ⟨.int i, H, I, ⟨_, rfl⟩, q⟩
 ·obtain ⟨u, rfl, r1⟩ := vals1 r
  cases r1
  exact call_int_bool ⟨.int (if k then 1 else 0), H, I.tok _, ⟨_, rfl⟩, q⟩
theorem jO : bW X (.type "str") (fun xs H Q => ∃ i, xs = [.int i] /\ i.natAbs.log2 < 1920 /\ Q (.str (toString i)) H) := by
 intro pins s σ H xs us Q I r h
 obtain ⟨i, rfl, hz, q⟩ := h
 obtain ⟨u, rfl, t, rfl⟩ := vals1 r
 exact PySem.P.str_of_int hz ⟨.str _, H, I.tok _, ⟨_, rfl⟩, q⟩
end
end L2
namespace L2
open PySem PySem.Spec PyProof.Rows
structure ObjM (h : Heap) (x dx C : Addr) (mA : Str -> Option Value) : Prop where
 obj : h.get? x = some (PySem.W.instObj C dx)
 ns : h.Ns1 dx mA
 ne : dx ≠ x
theorem oV {h : Heap} {dx : Addr} {mA : Str -> Option Value} (n : h.Ns1 dx mA) : ∃ od, h.get? dx = some od /\ ∀ name, PySem.W.lookIn name od = some (mA name) := by
 obtain ⟨o, es, ep, ho, hd, hk, _, hm⟩ := n
 refine ⟨o, ho, fun name => ?_⟩
 have e := hm name
 unfold nsFind findBy at e
 rw [<- Array.find?_toList] at e
 unfold PySem.W.lookIn
 rw [hd]
 dsimp only
 split
 ·rename_i y q
  rw [q] at e
  exact congrArg some e
 ·rename_i q
  rw [q] at e
  have a : es.toList.any (·.refKey) = false := by
   rw [List.any_eq_false]
   intro y hy
   obtain ⟨z, t, hkey⟩ := hk y (Array.mem_toList_iff.mp hy)
   simp [DictEntry.refKey, hkey]
  have a' : ¬ es.toList.any (·.refKey) = true := by rw [a]; exact Bool.false_ne_true
  rw [if_neg a']
  exact congrArg some e
theorem ObjM.look {h : Heap} {x dx C : Addr} {mA : Str -> Option Value} (I : ObjM h x dx C mA) : ∃ od, PySem.W.InstAt h x (PySem.W.instObj C dx) C (some od) /\ ∀ name, PySem.W.lookIn name od = some (mA name) :=
 let ⟨od, ho, hl⟩ := oV I.ns
 ⟨od, ⟨I.obj, rfl, rfl, ho⟩, hl⟩
section
variable {P : Program} {w : World} {H H' : Hp} {h h' : Heap} {a C dx : Addr} {fs fs' : List (Str × V)}
theorem t7 (hok : HOk P w H h) (e : H a = some (.ins C dx fs)) : ∃ mA, ObjM h a dx C mA /\ (∀ f, RelO (fs.lookup f) (mA f)) /\ PySem.Within mA (fs.map (·.1)) /\ fs.length <= 1000 /\ H dx = some (.own a) := by
 obtain ⟨d, z, ne, ob, mA, n, r, q⟩ := (show bp P w H h a (.ins C dx fs) from hok a _ e)
 exact ⟨mA, ⟨ob, n, ne⟩, r, q, z, d⟩
end
structure Cls (K : PySem.W.Frag) (C : Addr) : Prop where
 pg : PySem.W.plainGet K C Str.empty = true
 hd : PySem.W.hasDictIn K C = true
 po : PySem.W.plainOver K C = true
 sa : PySem.W.findIn K (.ref C) "__setattr__" = some (some (.builtin "object.__setattr__"))
theorem Cls.get {K : PySem.W.Frag} {C : Addr} (c : Cls K C) (f : Str) : PySem.W.plainGet K C f = true := c.pg
section
variable {X : Cx} {pins : List (Addr × Obj)} {σ : St} {H : Hp} {s : Shared} {A : Around} {E : Value -> Shared -> Prop} {Q : Value -> Shared -> Prop} {c : Value} {b : Bool}
inductive gB (K : PySem.W.Frag) (H : Hp) : V -> Value -> Prop where
 | non : gB K H .non (.type "NoneType")
 | bl (x : Bool) : gB K H (.bl x) (.type "bool")
 | int (i : Int) : gB K H (.int i) (.type "int")
 | str (x : Str) : gB K H (.str x) (.type "str")
 | flt (x : UInt64) : gB K H (.flt x) (.type "float")
 | lst {a : Addr} {xs : List V} (e : H a = some (.lst xs)) : gB K H (.ref a) (.type "list")
 | frz {a : Addr} {o : Obj} {xs : List V} (e : H a = some (.frz o (.lst xs))) : gB K H (.ref a) (.type "list")
 | tup {a : Addr} {xs : List V} (e : H a = some (.tup xs)) : gB K H (.ref a) (.type "tuple")
 | dK {a : Addr} {kvs : List (Key × V)} (e : H a = some (.dK kvs)) : gB K H (.ref a) (.type "dict")
 | dT {a : Addr} {kvs : List (List Key × V)} (e : H a = some (.dT kvs)) : gB K H (.ref a) (.type "dict")
 | ins {a C dx : Addr} {fs : List (Str × V)} (e : H a = some (.ins C dx fs)) (cl : Cls K C) (ha : PySem.W.findIn K (.ref C) "__class__" = some (some (.builtin "object.__class__")))
   (hn : PySem.W.specialIn K (.builtin "object.__class__") "__get__" = some (some (.builtin "getset_descriptor.__get__"))) (htk : PySem.W.takesIn K (.builtin "object.__class__") = some true)
   (hm : PySem.W.mroIn K C (.type "object") = some true) : gB K H (.ref a) (.ref C)
theorem cO {x : V} {u t : Value} (I : Inv X pins σ H s) (rx : RelV x u) (ty : gB X.K H x t) (e : PySem.W.kitOne X.K t c = some b) (h : ∀ tk, Q (.bool b) { s with toks := tk }) :
  wpAny (model X.prog X.w) A (call (.builtin "isinstance") [u, c]) Q E s := by
 cases ty with
 | non => cases (show u = Value.none from rx); exact PySem.W.kia_one PySem.W.kitx_none I.kIn True.intro e (fun z => nomatch z) h
 | bl y => cases (show u = Value.bool y from rx); exact PySem.W.kia_one PySem.W.kitx_bool I.kIn True.intro e (fun z => nomatch z) h
 | int i => obtain ⟨t, q⟩ := (show ∃ t, u = Value.int i t from rx); cases q; exact PySem.W.kia_one PySem.W.kitx_int I.kIn True.intro e (fun z => nomatch z) h
 | str y => obtain ⟨t, q⟩ := (show ∃ t, u = Value.str y t from rx); cases q; exact PySem.W.kia_one PySem.W.kitx_str I.kIn True.intro e (fun z => nomatch z) h
 | flt y => obtain ⟨t, q⟩ := (show ∃ t, u = Value.float y t from rx); cases q; exact PySem.W.kia_one PySem.W.kitx_float I.kIn True.intro e (fun z => nomatch z) h
 | @lst a xs ea =>
  cases (show u = Value.ref a from rx)
  obtain ⟨_, _, n, _, h1⟩ := (show bp X.prog X.w H s.heap a (.lst xs) from I.hok a _ ea)
  exact PySem.W.kia_one PySem.W.kitx_list I.kIn ⟨_, h1, rfl⟩ e (fun z => nomatch z) h
 | @frz a ob xs ea =>
  cases (show u = Value.ref a from rx)
  obtain ⟨_, _, _, n, _, h1⟩ := (show bp X.prog X.w H s.heap a (.frz ob (.lst xs)) from I.hok a _ ea)
  exact PySem.W.kia_one PySem.W.kitx_list I.kIn ⟨_, h1, rfl⟩ e (fun z => nomatch z) h
 | @tup a xs ea =>
  cases (show u = Value.ref a from rx)
  obtain ⟨_, _, _, p⟩ := (show bp X.prog X.w H s.heap a (.tup xs) from I.hok a _ ea)
  obtain ⟨o, h1, h2, _⟩ := p
  exact PySem.W.kia_one PySem.W.kitx_tuple I.kIn ⟨o, h1, h2⟩ e (fun z => nomatch z) h
 | @dK a kvs ea =>
  cases (show u = Value.ref a from rx)
  obtain ⟨_, _, vs, _, p⟩ := (show bp X.prog X.w H s.heap a (.dK kvs) from I.hok a _ ea)
  obtain ⟨o, es, ep, h1, h2, _⟩ := p
  exact PySem.W.kia_one PySem.W.kitx_dict I.kIn ⟨o, h1, h2.1⟩ e (fun z => nomatch z) h
 | @dT a kvs ea =>
  cases (show u = Value.ref a from rx)
  obtain ⟨_, _, xs, _, o, es, ep, h1, h2, _⟩ := (show bp X.prog X.w H s.heap a (.dT kvs) from I.hok a _ ea)
  exact PySem.W.kia_one PySem.W.kitx_dict I.kIn ⟨o, h1, h2.1⟩ e (fun z => nomatch z) h
 | @ins a C dx fs ea cl ha hn htk hm =>
  cases (show u = Value.ref a from rx)
  obtain ⟨mA, O, _⟩ := t7 I.hok ea
  obtain ⟨od, J, _⟩ := O.look
  exact PySem.W.kia_one (PySem.W.kitx_own (cl.get _) cl.hd ha hn htk hm) I.kIn J e (fun z => nomatch z) h
end
end L2
namespace L2
open PySem PySem.Spec PyProof.Rows
structure cj (k : Nat) (A : Around) : Prop where
 hd : A.handled = none
 dp : A.depth + 3 * k + 5 < recursionLimit
 un : A.units + 16 * k + 200 < cLine
 gd : A.guards = some []
theorem cj.mono {j k : Nat} {A : Around} (r : cj k A) (h : j <= k) : cj j A := ⟨r.hd, by have := r.dp; omega, by have := r.un; omega, r.gd⟩
theorem cj.deeper {k : Nat} {A : Around} (r : cj (k + 1) A) (env : Env) : cj k (A.deeper env) :=
 ⟨r.hd, by have := r.dp; show A.depth + 1 + 3 * k + 5 < _; omega, by have := r.un; show A.units + 3 + 16 * k + 200 < _; omega, r.gd⟩
theorem cj.depth {k : Nat} {A : Around} (r : cj k A) : A.depth < recursionLimit := by have := r.dp; omega
theorem cj.units {k : Nat} {A : Around} (r : cj k A) : A.units + 64 < cLine := by have := r.un; omega
def fU : TA := fun _ H Q => Q [] H
def cQ (ta : TE) (tr : TA) : TA := fun σ H Q => ta σ H fun x H1 => tr σ H1 fun xs H2 => Q (x :: xs) H2
section
variable {X : Cx} {e : Expr} {es : List Expr} {te : TE} {t : TA} {pos : Pos}
theorem dq : PA X [] fU := fun _ _ _ _ H Q I h => Calls.spliced_nil ⟨[], H, I, .nil, h⟩
theorem bR (ha : PE X e te) (hr : PA X es t) (hs : starEach (e :: es) X.env = (false, eval e X.env) :: starEach es X.env := by rfl) : PA X (e :: es) (cQ te t) := by
 intro pos pins s σ H Q I h
 rw [hs]
 show wpAny _ _ (spliced ((false, eval e X.env) :: backTo pos (starEach es X.env))) _ _ s
 refine Calls.spliced_cons (thn (ha pins s σ H _ I h) fun u s1 zr1 => ?_)
 obtain ⟨x, H1, I1, r1, q1⟩ := zr1
 exact thn (hr pos pins s1 σ H1 _ I1 q1) fun us s2 zt1 => by obtain ⟨xs, H2, I2, r2, q2⟩ := zt1; exact ⟨x :: xs, H2, I2, .cons r1 r2, q2⟩
def yd (t : TA) : TE := fun σ H Q => t σ H fun xs H1 => xs.length <= sizeLine /\ ∀ p, H1 p = none -> Q (.ref p) (upd H1 p (.tup xs))
def AT (t : TA) : TE := fun σ H Q => t σ H fun xs H1 => xs.length <= sizeLine /\ ∀ p, H1 p = none -> Q (.ref p) (upd H1 p (.lst xs))
theorem qk {x1} (h : PA X es t) : PE X (.Tuple es x1 pos) (yd t) := by
 intro pins s σ H Q I hq
 refine wpAny_Tuple_spliced (thn (h pos pins s σ H _ I hq) fun us s1 ⟨xs, H1, I1, r, z, q⟩ => ⟨by rw [<- r.length]; exact z, ?_⟩)
 have hf : H1 s1.heap.objs.size = none := I1.hok.fresh (Nat.le_refl _)
 refine ⟨.ref s1.heap.objs.size, upd H1 s1.heap.objs.size (.tup xs), I1.laid (t' := s1.toks) (fun b u e => Heap.get?_push_of_some _ e) (Nat.le_refl _) ?_, rfl, q _ hf⟩
 exact ⟨z, us, r, ⟨_, Heap.get?_push_size _ rfl, rfl, _, rfl⟩⟩
theorem ye (h : PA X es t) : PE X (.List es pos) (AT t) := by
 intro pins s σ H Q I hq
 refine wpAny_List_spliced (thn (h pos pins s σ H _ I hq) fun us s1 ⟨xs, H1, I1, r, z, q⟩ => ⟨by rw [<- r.length]; exact z, ?_⟩)
 have hf : H1 s1.heap.objs.size = none := I1.hok.fresh (Nat.le_refl _)
 refine ⟨.ref s1.heap.objs.size, upd H1 s1.heap.objs.size (.lst xs), I1.laid (t' := s1.toks) (fun b u e => Heap.get?_push_of_some _ e) (Nat.le_refl _) ?_, rfl, q _ hf⟩
 exact ⟨z, us, 0, r, Heap.get?_push_size _ rfl⟩
end
abbrev Sp := List V -> Hp -> VK -> XK -> Prop
abbrev CXT := List Env -> Hp -> Shared -> XK -> Value -> Shared -> Prop
structure Env0 (P : Program) (w : World) (K : PySem.W.Frag) (mg : Str -> Option Value) (base : Heap) (A : Around) (outer : List Env) (s : Shared) (H : Hp) : Prop where
 frames : A.frames = some outer
 mod : Mod K mg base
 bs : ∀ b o, base.get? b = some o -> s.heap.get? b = some o /\ H b = none
 bsz : base.objs.size <= s.heap.objs.size
 funs : s.heap.FunFrames base outer
 frf : ∀ b ∈ frs outer, H b = none
 hok : HOk P w H s.heap
 bare : AllBare s.gens
def CE (outer : List Env) (P : Program) (w : World) (H : Hp) (s : Shared) (Q : VK) (u : Value) (s' : Shared) : Prop :=
 ∃ v H', s'.os = s.os /\ AllBare s'.gens /\ Un (frs outer) [] H H' s.heap s'.heap /\ HOk P w H' s'.heap /\ RelV v u /\ Q v H'
def CR (CX : CXT) (outer : List Env) (P : Program) (w : World) (H : Hp) (s : Shared) (Q : VK) (E : XK) (r : Result) (s' : Shared) : Prop :=
 match r with
 | .ok (.ret u) => CE outer P w H s Q u s'
 | .ok _ => False
 | .error e => CX outer H s E e s'
structure gC (P : Program) (w : World) (K : PySem.W.Frag) (mg : Str -> Option Value) (base : Heap) (CX : CXT) (k : Nat) (f : Addr) (fd : FuncData) (ps : List Str) (sp : Sp) : Prop where
 len : ∀ vs H Q E, sp vs H Q E -> vs.length = ps.length
 run : ∀ (A : Around) (outer : List Env) (s : Shared) (H : Hp) (args : Args) (us : List Value) (vs : List V) (Q : VK) (E : XK), cj k A -> Env0 P w K mg base A outer s H -> BindsTo s fd args (ps.zip us) -> Vals vs us -> sp vs H Q E ->
  codeAny (model P w) A (.call (.ref f) args) (CR CX outer P w H s Q E) s
section
variable {X : Cx} {pins : List (Addr × Obj)} {σ : St} {H : Hp} {s s' : Shared}
theorem Inv.env0 (I : Inv X pins σ H s) : Env0 X.prog X.w X.K X.mg X.base X.A X.stack s H :=
 ⟨I.ok.frames, I.ok.mod, I.bs, Nat.le_trans I.ok.bsz I.sz, I.stack, I.stkFree, I.hok, I.bare⟩
theorem Inv.after {Q : VK} {u : Value} (I : Inv X pins σ H s) (h : CE X.stack X.prog X.w H s Q u s') : EP X pins σ Q u s' := by
 obtain ⟨v, H', os, bare, un, hok, r, q⟩ := h
 obtain ⟨hh, g, d, t, os'⟩ := s'
 obtain rfl : os' = s.os := os
 exact ⟨v, H', I.call (h' := hh) (g' := g) (d' := d) (t' := t) (ch := []) un hok bare (fun b z => absurd z (by simp)), r, q⟩
end
def jh (sp : Sp) (dvs : List V) (E : XK) (t : TA) : TE := fun σ H Q => t σ H fun vs H1 => sp (vs ++ dvs) H1 Q E
def Binds (K : PySem.W.Frag) (fd : FuncData) (ps : List Str) (ds : List Value) : Prop :=
 ∀ (s : Shared) (us : List Value), K.In s.heap -> (us ++ ds).length = ps.length -> BindsTo s fd ⟨us, []⟩ (ps.zip (us ++ ds))
theorem Binds.all {K : PySem.W.Frag} {fd : FuncData} {ps : List Str} (h : ∀ us : List Value, us.length = ps.length -> bindArgs fd ⟨us, []⟩ = pure (ps.zip us)) : Binds K fd ps [] := fun s us _ hl => by
 rw [List.append_nil] at hl ⊢
 exact .of_eq (h us hl)
def mr (CX : CXT) (X : Cx) (E : XK) : Prop := ∀ (pins : List (Addr × Obj)) (σ : St) (H : Hp) (s : Shared) (e : Value) (s' : Shared), Inv X pins σ H s -> CX X.stack H s E e s' -> X.xe e s'
section
variable {X : Cx} {CX : CXT} {k : Nat} {f C : Addr} {fd : FuncData} {ps : List Str} {sp : Sp} {dvs : List V} {ds : List Value} {E : XK} {x m : Str} {p pos apos : Pos} {e o : Expr} {es : List Expr} {ta : TE} {t : TA}
theorem yf {pins : List (Addr × Obj)} {σ : St} {H : Hp} {s : Shared} {Q : VK} {us : List Value} {vs : List V} (F : gC X.prog X.w X.K X.mg X.base CX k f fd ps sp) (hr : cj k X.A) (hb : Binds X.K fd ps ds) (hd : Vals dvs ds) (hx : mr CX X E)
  (I : Inv X pins σ H s) (r : Vals vs us) (h : sp (vs ++ dvs) H Q E) : wpAny (model X.prog X.w) X.A (call (.ref f) us) (EP X pins σ Q) X.xe s := by
 have r2 : Vals (vs ++ dvs) (us ++ ds) := r.append hd
 have hl : (us ++ ds).length = ps.length := by rw [<- r2.length]; exact F.len _ _ _ _ h
 refine wpAny_call (codeAny_mono (F.run X.A X.stack s H ⟨us, []⟩ (us ++ ds) (vs ++ dvs) Q E hr I.env0 (hb s us I.kIn hl) r2 h) fun r s' hq => ?_)
 cases r with
 | error e => exact hx pins σ H s e s' I hq
 | ok fl =>
  cases fl with
  | ret u => exact I.after hq
  | next => exact False.elim hq
  | brk => exact False.elim hq
  | cont => exact False.elim hq
theorem t8 (F : gC X.prog X.w X.K X.mg X.base CX k f fd ps sp) (hr : cj k X.A) (hg : Gl X x) (hm : X.mg x = some (.ref f)) (hk : PySem.W.keepIn X.K (.ref f) = true) (hb : Binds X.K fd ps ds) (hd : Vals dvs ds) (hx : mr CX X E)
  (ha : PA X (e :: es) t) (hdb : (x == ("__debug__" : Str)) = false := by decide) (he : starEach (e :: es) X.env = (false, eval e X.env) :: starEach es X.env := by rfl) (hpl : (backTo pos (starEach es X.env)).any (·.1) = false := by rfl) :
  PE X (.Call (.Name x p) (e :: es) [] pos) (jh sp dvs E t) := by
 intro pins s σ H Q I h
 refine wpAny_Call_Name_kw (fv I hg hm ?_ hdb)
 refine PySem.W.callWith_K (h₀ := X.base) I.ok.mod.kin hk (thn (ha pos pins s σ H _ I h) fun us s1 ⟨vs, H1, I1, r, q⟩ => ⟨I1.kIn, ?_⟩) he hpl
 exact yf F hr hb hd hx I1 r q
end
structure aK (N P : List Str) (sc : Scope) : Prop where
 kind : sc.kind = .function
 co : sc.isCoroutine = false
 gen : sc.isGenerator = false
 nd : N.Nodup
 pre : N.take P.length = P
 par : ∀ x ∈ P, sc.names.lookup x = some .local \/ sc.names.lookup x = some .cell
 nofree : ∀ y ∈ sc.names, y.2 ≠ .free
theorem ji {kindOf : Str -> Option NameKind} {x : Str} : ∀ {binds : List (Str × Value)} {m : Str -> Option Value}, (∀ v, (x, v) ∉ binds) -> bindL kindOf binds m x = m x
 | [], _, _ => rfl
 | (n, v) :: r, m, h => by
  unfold bindL
  rw [ji fun w hw => h w (List.mem_cons_of_mem _ hw)]
  split
  ·have : x ≠ n := by rintro rfl; exact h v List.mem_cons_self
   simp [this]
  ·rfl
theorem jk {kindOf : Str -> Option NameKind} {x : Str} : ∀ {binds : List (Str × Value)} {m : Str -> Option Value}, (∀ v, (x, v) ∉ binds) -> bindC kindOf binds m x = m x
 | [], _, _ => rfl
 | (n, v) :: r, m, h => by
  unfold bindC
  rw [jk fun w hw => h w (List.mem_cons_of_mem _ hw)]
  split
  ·rfl
  ·have : x ≠ n := by rintro rfl; exact h v List.mem_cons_self
   simp [this]
theorem jm {kindOf : Str -> Option NameKind} {x : Str} {v : Value} : ∀ {P : List Str} {vs : List Value} {i : Nat} {m : Str -> Option Value}, P.Nodup -> P[i]? = some x -> vs[i]? = some v -> kindOf x = some .local ->
  bindL kindOf (P.zip vs) m x = some v
 | [], _, _, _, _, h, _, _ => by simp at h
 | _ :: _, [], _, _, _, _, h, _ => by simp at h
 | p :: P, w :: vs, 0, m, nd, h1, h2, hk => by
  simp at h1 h2; subst h1; subst h2
  show bindL kindOf ((p, w) :: P.zip vs) m p = _
  unfold bindL
  rw [ji fun v hv => (List.nodup_cons.mp nd).1 (List.of_mem_zip hv).1, if_pos hk]
  simp
 | p :: P, w :: vs, i + 1, m, nd, h1, h2, hk => by
  show bindL kindOf ((p, w) :: P.zip vs) m x = _
  unfold bindL
  exact jm (i := i) (List.nodup_cons.mp nd).2 (by simpa using h1) (by simpa using h2) hk
theorem jo {kindOf : Str -> Option NameKind} {x : Str} {v : Value} : ∀ {P : List Str} {vs : List Value} {i : Nat} {m : Str -> Option Value}, P.Nodup -> P[i]? = some x -> vs[i]? = some v -> kindOf x ≠ some .local ->
  bindC kindOf (P.zip vs) m x = some v
 | [], _, _, _, _, h, _, _ => by simp at h
 | _ :: _, [], _, _, _, _, h, _ => by simp at h
 | p :: P, w :: vs, 0, m, nd, h1, h2, hk => by
  simp at h1 h2; subst h1; subst h2
  show bindC kindOf ((p, w) :: P.zip vs) m p = _
  unfold bindC
  rw [jk fun v hv => (List.nodup_cons.mp nd).1 (List.of_mem_zip hv).1, if_neg hk]
  simp
 | p :: P, w :: vs, i + 1, m, nd, h1, h2, hk => by
  show bindC kindOf ((p, w) :: P.zip vs) m x = _
  unfold bindC
  exact jo (i := i) (List.nodup_cons.mp nd).2 (by simpa using h1) (by simpa using h2) hk
def start (N : List Str) (vs : List V) : St := vs.map some ++ List.replicate (N.length - vs.length) none
def gE (CX : CXT) (P : Program) (w : World) (K : PySem.W.Frag) (mg : Str -> Option Value) (base : Heap) (N : List Str) (qual : Str) (scope : Scope) (f : Addr) (cd : Value) (A : Around) (outer : List Env) (s : Shared) (H : Hp) (E : XK) : Cx where
 prog := P
 w := w
 K := K
 mg := mg
 base := base
 A := A.deeper (envOfC qual scope s.heap.objs.size f cd)
 N := N
 s₀ := s
 H₀ := H
 env := envOfC qual scope s.heap.objs.size f cd
 outer := outer
 stack := envOfC qual scope s.heap.objs.size f cd :: outer
 ex := []
 calm := true
 fn := fun _ => true
 pn := []
 xe := fun e s' => wpAny (model P w) (A.deeper (envOfC qual scope s.heap.objs.size f cd)) (leaving (envOfC qual scope s.heap.objs.size f cd) e) (fun _ s'' => CX outer H s E e s'') (fun e' s'' => CX outer H s E e' s'') s'
theorem kQ {sc : Scope} {n : Nat} {x : Str} (h : sc.names.lookup x = some .cell) : ∃ c, (cellsFrom n sc.names []).lookup x = some c := by
 have q := PySem.W.cellsFrom_some sc.names n [] (.inl h)
 exact Option.isSome_iff_exists.mp q
theorem oW {CX : CXT} {P : Program} {w : World} {K : PySem.W.Frag} {mg : Str -> Option Value} {base : Heap} {N ps : List Str} {qual : Str} {scope : Scope} {f : Addr} {cd : Value} {A : Around} {outer : List Env} {s s1 : Shared} {H : Hp} {E : XK} {us : List Value} {vs : List V}
  (S : aK N ps scope) (hd : A.handled = none) (e0 : Env0 P w K mg base A outer s H) (hl : vs.length = ps.length) (r : Vals vs us)
  (x : InCallC s s.heap.objs.size (bindL (envOfC qual scope s.heap.objs.size f cd).kindOf (ps.zip us) fun _ => none) (cellsFrom (s.heap.objs.size + 1) scope.names []) (bindC (envOfC qual scope s.heap.objs.size f cd).kindOf (ps.zip us) fun _ => none) s1) :
  Inv (gE CX P w K mg base N qual scope f cd A outer s H E) [] (start N vs) H s1 := by
 have hpl : ps.length <= N.length := by have := congrArg List.length S.pre; rw [List.length_take] at this; omega
 obtain ⟨h1, tk, rfl, hk⟩ := x.done
 have noA : ∀ b : Addr, b ∉ (gE CX P w K mg base N qual scope f cd A outer s H E).ex := fun b z => absurd (show b ∈ ([] : List Addr) from z) (by simp)
 refine ⟨⟨e0.mod, S.kind, rfl, rfl, Nat.le_refl _, fun y z c h1 h2 => ?_, fun y hy => ?_, fun y c _ h => ?_, fun _ => hd, Around.frames_deeper e0.frames, .inr ⟨rfl, rfl⟩, fun b z => absurd z (noA b), e0.bs, e0.bsz, fun b _ _ => noA b, fun b z => absurd z (noA b), e0.funs, e0.frf⟩,
  rfl, e0.bare, Un.kept hk, ⟨_, x.toInCall.ns, fun i y v h1 h2 h3 => ?_⟩, fun y c h => ⟨_, x.cell y c h⟩, e0.hok.fresh (Nat.le_refl _), fun y c h => ?_, fun p hp => absurd (show p ∈ ([] : List (Addr × Obj)) from hp) (by simp), e0.hok.kept hk, ?_⟩
 ·exact name_of_addr x.apart (PySem.mem_of_lookup h1) (PySem.mem_of_lookup h2)
 ·have hy : scope.names.lookup y = some .cell \/ scope.names.lookup y = some .free := hy
  rcases hy with hy | hy
  ·exact kQ hy
  ·exact absurd rfl (S.nofree _ (PySem.mem_of_lookup hy))
 ·exact Nat.le_of_lt (x.above y c (PySem.mem_of_lookup h))
 ·have hi : i < vs.length := by
   unfold start at h2
   by_cases hi : i < vs.length
   ·exact hi
   ·rw [List.getElem?_append_right (by simpa using hi)] at h2
    rw [List.getElem?_replicate] at h2
    split at h2 <;> cases h2
  have ha : vs[i]? = some v := by
   unfold start at h2
   rw [List.getElem?_append_left (by simpa using hi), List.getElem?_map] at h2
   cases e : vs[i]? with
   | none => rw [e] at h2; cases h2
   | some a => rw [e] at h2; cases h2; rfl
  obtain ⟨u, hu, rv⟩ := r.get ha
  have hp : ps[i]? = some y := by
   rw [<- S.pre, List.getElem?_take_of_lt (by omega)]; exact h1
  have ndP : ps.Nodup := by rw [<- S.pre]; exact S.nd.sublist (List.take_sublist _ _)
  refine ⟨u, rv, ?_⟩
  rcases S.par y (List.mem_of_getElem? hp) with k | k
  ·exact .inl ⟨k, jm ndP hp hu k⟩
  ·obtain ⟨c, e⟩ := kQ (n := s.heap.objs.size + 1) k
   refine .inr ⟨.inl k, c, e, ?_⟩
   have q := x.cell y c e
   rw [jo ndP hp hu (by show scope.names.lookup y ≠ _; rw [k]; decide)] at q
   exact q
 ·exact e0.hok.fresh (Nat.le_of_lt (x.above y c (PySem.mem_of_lookup h)))
 ·unfold start
  show _ = N.length
  rw [List.length_append, List.length_map, List.length_replicate]
  omega
theorem wH {CX : CXT} {P : Program} {w : World} {K : PySem.W.Frag} {mg : Str -> Option Value} {base : Heap} {k : Nat} {f : Addr} {name qual : Str} {params : Arguments} {body : List Stmt} {scope : Scope} {dV kV doc pm cdv ct oc : Value} {an od : Option Addr}
  {osl : Array (Option Value)} {N ps : List Str} {sp : Sp} (lk : K.lookup f = some ⟨oc, od, .func (PySem.W.fnOf name qual params body scope dV kV doc pm an cdv ct), osl⟩) (hcd : PySem.W.codeIn K cdv qual = true) (S : aK N ps scope)
  (len : ∀ vs H Q E, sp vs H Q E -> vs.length = ps.length)
  (hbody : ∀ (A : Around) (outer : List Env) (s : Shared) (H : Hp) (vs : List V) (Q : VK) (E : XK), cj k (A.deeper (envOfC qual scope s.heap.objs.size f cdv)) -> sp vs H Q E ->
   ∃ t, PSs (gE CX P w K mg base N qual scope f cdv A outer s H E) body t /\ t { nx := fun _ H' => Q .non H', rt := Q } (start N vs) H) :
  gC P w K mg base CX (k + 1) f (PySem.W.fnOf name qual params body scope dV kV doc pm an cdv ct) ps sp := by
 refine ⟨len, fun A outer s H args us vs Q E hr e0 hb r hsp => ?_⟩
 have hl := len _ _ _ _ hsp
 have KX : K.In s.heap := e0.mod.kin.keeps fun b o e => (e0.bs b o e).1
 have lim : s.heap.NoLimit := e0.mod.nolimit.keeps fun b o e => (e0.bs b o e).1
 have hkind : ∀ y ∈ ps.zip us, scope.names.lookup y.1 = some .local \/ (scope.names.lookup y.1 = some .cell /\ ((cellsFrom (s.heap.objs.size + 1) scope.names []).lookup y.1).isSome = true) := fun ⟨n, v⟩ hy => by
  rcases S.par n (List.of_mem_zip hy).1 with q | q
  ·exact .inl q
  ·exact .inr ⟨q, PySem.W.cellsFrom_some _ _ _ (.inl q)⟩
 refine codeAny_call_function hr.depth (KX _ _ lk) rfl S.co S.gen rfl (PySem.W.codeRec_of KX hcd) (hb _ _ _ _ ?_)
 refine wpAny_newFunctionEnv_cells S.kind hkind fun env he s1 x => ?_
 subst he
 refine ⟨lim.keeps x.toInCall.keep, codeAny_func ?_⟩
 obtain ⟨t, ht, hq⟩ := hbody A outer s H vs Q E (hr.deeper _) hsp
 have I : Inv (gE CX P w K mg base N qual scope f cdv A outer s H E) [] (start N vs) H s1 := oW S hr.hd e0 hl r x
 refine wpAny_mono (ht [] s1 (start N vs) H _ I hq) (fun fl s' hs => ?_) fun e s' hs => hs
 have fin : ∀ {σ' : St} {H' : Hp} {v : V} {u : Value}, Inv (gE CX P w K mg base N qual scope f cdv A outer s H E) [] σ' H' s' -> RelV v u -> Q v H' -> CE outer P w H s Q u s' :=
  fun {σ' H' v u} J rv q => ⟨v, H', J.os, J.bare, J.base, J.hok, rv, q⟩
 cases fl with
 | ret u =>
  obtain ⟨v, σ', H', J, rv, q⟩ := hs
  exact fin J rv q
 | next =>
  obtain ⟨σ', H', J, q⟩ := hs
  exact fin (v := V.non) (u := Value.none) J rfl q
 | brk =>
  obtain ⟨_, _, _, q⟩ := hs
  exact False.elim q
 | cont =>
  obtain ⟨_, _, _, q⟩ := hs
  exact False.elim q
end L2
namespace L2
open PySem PySem.Spec PyProof.Rows
section
variable {X : Cx} {x : Str} {p pos : Pos} {e : Expr} {es : List Expr} {t : TA} {id T : String} {r : List V -> Hp -> VK -> Prop}
def tCB (r : List V -> Hp -> VK -> Prop) (t : TA) : TE := fun σ H Q => t σ H fun vs H1 => r vs H1 Q
theorem fw (hc : bW X (.builtin id) r) (hg : Gl X x) (hm : X.mg x = none) (hv : bootBuiltins x = some (.builtin id)) (ha : PA X (e :: es) t) (hn : x ≠ "__name__" := by decide) (hdb : (x == ("__debug__" : Str)) = false := by decide)
  (he : starEach (e :: es) X.env = (false, eval e X.env) :: starEach es X.env := by rfl) (hpl : (backTo pos (starEach es X.env)).any (·.1) = false := by rfl) : PE X (.Call (.Name x p) (e :: es) [] pos) (tCB r t) := by
 intro pins s σ H Q I h
 refine wpAny_Call_Name_kw (gV I hg hm hv ?_ hn hdb)
 exact PyProof.Rows.callWith_builtin1 (thn (ha pos pins s σ H _ I h) fun us s1 zt1 => by obtain ⟨vs, H1, I1, r1, q1⟩ := zt1; exact hc pins s1 σ H1 vs us Q I1 r1 q1) he hpl
theorem jq (hc : bW X (.type T) r) (hg : Gl X x) (hm : X.mg x = none) (hv : bootBuiltins x = some (.type T)) (ha : PA X (e :: es) t) (hn : x ≠ "__name__" := by decide) (hdb : (x == ("__debug__" : Str)) = false := by decide)
  (he : starEach (e :: es) X.env = (false, eval e X.env) :: starEach es X.env := by rfl) (hpl : (backTo pos (starEach es X.env)).any (·.1) = false := by rfl) : PE X (.Call (.Name x p) (e :: es) [] pos) (tCB r t) := by
 intro pins s σ H Q I h
 refine wpAny_Call_Name_kw (gV I hg hm hv ?_ hn hdb)
 exact PyProof.Rows.callWith_type1 (thn (ha pos pins s σ H _ I h) fun us s1 zt1 => by obtain ⟨vs, H1, I1, r1, q1⟩ := zt1; exact hc pins s1 σ H1 vs us Q I1 r1 q1) he hpl
end
end L2
namespace HT
open PySem PyProof.Rows
def lexLt : List Int -> List Int -> Bool
 | [], [] => false
 | [], _ :: _ => true
 | _ :: _, [] => false
 | x :: xs, y :: ys => if x = y then lexLt xs ys else decide (x < y)
theorem cq (x y : Int) (xs ys : List Int) : lexLt (x :: xs) (y :: ys) = if x = y then lexLt xs ys else decide (x < y) := rfl
theorem i7 : lexLt [] [] = false := rfl
theorem g0 (y : Int) (ys : List Int) : lexLt [] (y :: ys) = true := rfl
theorem g9 (x : Int) (xs : List Int) : lexLt (x :: xs) [] = false := rfl
theorem ql (A : Around) (s : Shared) (a : Int) (t : Tok) (c : Int) (u : Tok) : ∃ e, SeqAt.EqAt A s (.int a t) (.int c u) e /\ (e = true ↔ a = c) :=
 ⟨(a == c), SeqAt.EqAt.int_int a t c u, by simp⟩
theorem qm (A : Around) (s : Shared) (a : Int) (t : Tok) (c : Int) (u : Tok) (prog : Program) (w : World) (E : Value -> Shared -> Prop) (Q : Value -> Shared -> Prop) (h : Q (.bool (decide (a < c))) s) :
  wpAny (model prog w) A (richCompare .Lt (.int a t) (.int c u)) Q E s :=
 (PyProof.Rows.lt_int h : wpAny (model prog w) A (compareOp .Lt (.int a t) (.int c u)) Q E s)
section
open PySem.SeqAt
open PySem.AutoSeq1 (wpAny_loadPart')
open PySem.MeetsSeq PySem.MeetsSeq2 PySem.MeetsSeq3
theorem i8 (l b : Addr) (items items2 : Array Value) (n n2 : Nat) (dd dd2 : Option Addr) (sl sl2 : Array (Option Value)) (ns ms : List Int) (hi : IntsAre items.toList ns) (hj : IntsAre items2.toList ms) :
  Meets (Builtin.«tuple.__lt__» ⟨[.ref l, .ref b], []⟩)
   (fun _ R s => s.heap.get? l = some { cls := .type "tuple", dict := dd, data := .seq items n, slots := sl } /\ s.heap.get? b = some { cls := .type "tuple", dict := dd2, data := .seq items2 n2, slots := sl2 } /\
    R (.ok (.ret (.bool (lexLt ns ms)))) s) :=
 .of_wp fun prog w A R s h => by
  obtain ⟨hp, g, d, tk, os⟩ := s; obtain ⟨hl, hb, h⟩ := h
  have f2 := AutoSeq1.sub_tuple_tuple
  have z1 : items.size = ns.length := by rw [<- hi.length]; simp
  have z2 : items2.size = ms.length := by rw [<- hj.length]; simp
  wp_walk using wpAny_loadPart' hl, wpAny_loadPart' hb, wpAny_forIn_list _ (fun rest b s' => b.1 = none /\ s' = ⟨hp, g, d, tk, os⟩ /\ ∃ (vs ws : List Value) (ns' ms' : List Int), rest = vs.zip ws /\
   IntsAre vs ns' /\ IntsAre ws ms' /\ ns'.length + items2.size = ms'.length + items.size /\ R (.ok (.ret (.bool (lexLt ns' ms')))) ⟨hp, g, d, tk, os⟩) _
  case turn =>
   rintro ⟨y, x⟩ rest b s' ⟨hb', rfl, vs, ws, ns', ms', hz, hvi, hwi, hlen, hR⟩
   cases hvi with
   | nil => rw [List.zip_nil_left] at hz; cases hz
   | cons a t hvi' =>
    cases hwi with
    | nil => rw [List.zip_nil_right] at hz; cases hz
    | cons c u hwi' =>
     rw [List.zip_cons_cons] at hz
     injection hz with hyx hrest
     injection hyx with hy hx
     subst hy hx
     rw [cq] at hR
     simp only [List.length_cons] at hlen
     obtain ⟨e, he, hiff⟩ := ql A.in1 ⟨hp, g, d, tk, os⟩ a t c u
     refine wpAny_bind (he prog w _ _ ?_)
     cases e with
     | true =>
      rw [if_pos (hiff.mp rfl)] at hR
      wp_walk
      exact ⟨rfl, rfl, _, _, _, _, hrest, hvi', hwi', by omega, hR⟩
     | false =>
      rw [if_neg (fun q => absurd (hiff.mpr q) Bool.false_ne_true)] at hR
      have hri := qm A.in1 ⟨hp, g, d, tk, os⟩ a t c u prog w
      wp_walk using hri
      exact ⟨_, rfl, by simpa using hR⟩
  case fin =>
   rintro ⟨b1, b2⟩ s' ⟨hb', rfl, vs, ws, ns', ms', hz, hvi, hwi, hlen, hR⟩
   simp only at hb'
   subst hb'
   have hv : lexLt ns' ms' = decide (items.size < items2.size) := by
    cases hvi with
    | nil =>
     cases hwi with
     | nil =>
      simp only [List.length_nil] at hlen
      rw [i7]
      exact (decide_eq_false (by omega)).symm
     | cons c u hw =>
      simp only [List.length_nil, List.length_cons] at hlen
      rw [g0]
      exact (decide_eq_true (by omega)).symm
    | cons a t hv =>
     cases hwi with
     | nil =>
      simp only [List.length_nil, List.length_cons] at hlen
      rw [g9]
      exact (decide_eq_false (by omega)).symm
     | cons c u hw =>
      rw [List.zip_cons_cons] at hz
      cases hz
   rw [hv] at hR
   wp_walk
   exact ⟨_, rfl, by simpa [Builtin.Tuple.tupleCompareSizes] using hR⟩
  case h =>
   exact ⟨rfl, rfl, items.toList, items2.toList, ns, ms, rfl, hi, hj, by omega, h⟩
end
section
variable {prog : Program} {w : World} {A : Around} {E : Value -> Shared -> Prop} {s : Shared}
theorem mw {l b : Addr} {items items2 : Array Value} {ns ms : List Int} {Q : Value -> Shared -> Prop} (hl : IsTup s.heap l items) (hb : IsTup s.heap b items2) (hi : IntsAre items.toList ns) (hj : IntsAre items2.toList ms)
  (hu : A.units < cLine) (h : Q (.bool (lexLt ns ms)) s) : wpAny (model prog w) A (compareOp .Lt (.ref l) (.ref b)) Q E s := by
 obtain ⟨⟨cls, dd, data, sl⟩, ho, hc, n, hd⟩ := id hl
 obtain ⟨⟨cls2, dd2, data2, sl2⟩, ho2, hc2, n2, hd2⟩ := id hb
 simp only at hc hd hc2 hd2
 subst hc hd hc2 hd2
 exact richCompare_meets_room (op := .Lt) ⟨_, ho, rfl⟩ ⟨_, ho2, rfl⟩ PySem.F.slot_tuple_lt PySem.F.entry_tuple_lt (PySem.F.args_tuple_lt_2 _ _) (i8 l b items items2 n n2 dd dd2 sl sl2 ns ms hi hj)
  ⟨ho, ho2, show Value.bool (lexLt ns ms) ≠ Value.notImplemented /\ Q (.bool (lexLt ns ms)) s from ⟨(fun x => nomatch x), h⟩⟩ hu
def sIx (n d : Nat) : Option Int -> Nat
 | none => d
 | some v => if v < 0 then (v + (n : Int)).toNat else min v.toNat n
theorem qp (n d : Nat) : sIx n d none = d := rfl
theorem t9 (n d k : Nat) : sIx n d (some (k : Int)) = min k n := by
 show (if (k : Int) < 0 then ((k : Int) + (n : Int)).toNat else min (k : Int).toNat n) = min k n
 rw [if_neg (by omega), Int.toNat_natCast]
end
end HT
namespace L2
open PySem PySem.Spec PyProof.Rows
abbrev TO := St -> Hp -> (Option Int -> Hp -> Prop) -> Prop
def PO (X : Cx) (e : Option Expr) (t : TO) : Prop :=
 ∀ (pins : List (Addr × Obj)) (s : Shared) (σ : St) (H : Hp) (Q : Option Int -> Hp -> Prop), Inv X pins σ H s -> t σ H Q ->
  wpAny (model X.prog X.w) X.A (evalPart e X.env) (fun u s' => ∃ o H', Inv X pins σ H' s' /\ IsPart u o /\ Q o H') X.xe s
def nh : TO := fun _ H Q => Q none H
def wJ (t : TE) : TO := fun σ H Q => t σ H fun x H1 => ∃ i, x = .int i /\ Q (some i) H1
theorem intsAre_of {ns : List Int} : ∀ {us : List Value}, Vals (ns.map V.int) us -> IntsAre us ns := by
 induction ns with
 | nil => intro us r; rw [List.map_nil] at r; cases r; exact .nil
 | cons n ns ih =>
  intro us r
  rw [List.map_cons] at r
  cases r with
  | cons r1 r2 =>
   obtain ⟨t, e⟩ := r1
   subst e
   exact .cons n t (ih r2)
section
variable {X : Cx} {e : Expr} {te : TE} {lo hi : Option Expr} {tl th : TO} {pos p2 : Pos}
theorem ua : PO X none nh := by
 intro pins s σ H Q I h
 rw [evalPart_none]
 exact wpAny_pure ⟨none, H, I, .none, h⟩
theorem ub (h : PE X e te) : PO X (some e) (wJ te) := by
 intro pins s σ H Q I hw
 rw [evalPart_some]
 refine thn (h pins s σ H _ I hw) fun u s1 zr1 => ?_
 obtain ⟨x, H1, I1, r1, q1⟩ := zr1
 obtain ⟨i, rfl, q⟩ := q1
 obtain ⟨t, rfl⟩ := r1
 exact ⟨some i, H1, I1, .int i t, q⟩
def SlR (X : Cx) (r : V -> Option Int -> Option Int -> Hp -> VK -> Prop) : Prop :=
 ∀ (pins : List (Addr × Obj)) (s : Shared) (σ : St) (H : Hp) (x : V) (v vl vu : Value) (lo hi : Option Int) (sl : Addr) (Q : VK), Inv X pins σ H s -> RelV x v -> s.heap.IsSliceOf sl vl vu .none -> IsPart vl lo -> IsPart vu hi -> r x lo hi H Q ->
  ∃ T id, typeLookup (.type T) "__getitem__" = pure (some (.builtin id)) /\ s.TypeIs v T /\ wpAny (model X.prog X.w) X.A (getItem v (.ref sl)) (EP X pins σ Q) X.xe s
def tSl (r : V -> Option Int -> Option Int -> Hp -> VK -> Prop) (te : TE) (tl th : TO) : TE := fun σ H Q => te σ H fun x H1 => tl σ H1 fun l H2 => th σ H2 fun u H3 => r x l u H3 Q
theorem qq {r : V -> Option Int -> Option Int -> Hp -> VK -> Prop} (hr : SlR X r) (he : PE X e te) (hl : PO X lo tl) (hu : PO X hi th) : PE X (.Subscript e (.Slice lo hi none p2) pos) (tSl r te tl th) := by
 intro pins s σ H Q I h
 refine Subscript_ (thn (he pins s σ H _ I h) fun v s1 zr1 => ?_)
 obtain ⟨x, H1, I1, r1, q1⟩ := zr1
 refine wpAny_Slice (thn (hl pins s1 σ H1 _ I1 q1) fun vl s2 ⟨l, H2, I2, pl, q2⟩ => thn (hu pins s2 σ H2 _ I2 q2) fun vu s3 zr1 => ?_)
 obtain ⟨u, H3, I3, pu, q3⟩ := zr1
 rw [evalPart_none]
 refine wpAny_pure ?_
 have I4 : Inv X pins σ H3 { s3 with heap := s3.heap.push { cls := .type "slice", data := .fields #[vl, vu, .none] } } := I3.kept (t' := s3.toks) fun b ob q => Heap.get?_push_of_some _ q
 obtain ⟨T, id, hT, ht, hg⟩ := hr pins { s3 with heap := s3.heap.push { cls := .type "slice", data := .fields #[vl, vu, .none] } } σ H3 x v vl vu l u s3.heap.objs.size Q I4 r1 (Heap.IsSliceOf.new ..) pl pu q3
 show wpAny (model X.prog X.w) X.A (subscriptTail e (.Slice lo hi none p2) v (.ref s3.heap.objs.size)) (EP X pins σ Q) X.xe { s3 with heap := s3.heap.push { cls := .type "slice", data := .fields #[vl, vu, .none] } }
 exact tail_any (ops := [.ref s3.heap.objs.size, v]) ht hT hg (by with_unfolding_all rfl)
def oX (xs : List V) (lo hi : Option Int) : List V := (xs.drop (HT.sIx xs.length 0 lo)).take (HT.sIx xs.length xs.length hi - HT.sIx xs.length 0 lo)
theorem kR (xs : List V) (lo hi : Option Int) : (oX xs lo hi).length <= xs.length := by
 unfold oX
 rw [List.length_take, List.length_drop]
 omega
def yg (K : PySem.W.Frag) : R2 := fun x y H Q => ∃ a b ns ms, x = .ref a /\ y = .ref b /\ SqT K H a (ns.map V.int) /\ SqT K H b (ms.map V.int) /\ Q (.bl (HT.lexLt ns ms)) H
theorem yh (hu : X.A.units < cLine) : OpR X (compareOp .Lt) (yg X.K) := by
 intro pins s σ H x y v u Q I rx ry h
 obtain ⟨a, b, ns, ms, rfl, rfl, ha, hb, q⟩ := h
 cases rx
 cases ry
 obtain ⟨its, r1, p1, _⟩ := I.tuple ha
 obtain ⟨its2, r2, p2, _⟩ := I.tuple hb
 have i1 : IntsAre its.toArray.toList ns := intsAre_of r1
 have i2 : IntsAre its2.toArray.toList ms := intsAre_of r2
 exact HT.mw p1 p2 i1 i2 hu ⟨.bl (HT.lexLt ns ms), H, I, rfl, q⟩
end
end L2
namespace L2
open PySem PySem.Spec PyProof.Rows
def ixN (n : Nat) (i : Int) : Option Nat := if 0 <= i then (if i < n then some i.toNat else none) else if -(n : Int) <= i then some (i + n).toNat else none
def atI {α : Type} (xs : List α) (i : Int) : Option α := (ixN xs.length i).bind fun j => xs[j]?
theorem ni {n : Nat} {i : Int} {j : Nat} (h : ixN n i = some j) : seqIndex? i n = some j /\ j < n /\ -(n : Int) <= i /\ i < n := by
 unfold ixN at h
 by_cases h0 : 0 <= i
 ·rw [if_pos h0] at h
  by_cases h1 : i < n
  ·rw [if_pos h1] at h
   have e : i.toNat = j := Option.some.inj h
   exact ⟨by rw [seqIndex_of h0 h1, e], by omega, by omega, h1⟩
  ·rw [if_neg h1] at h; cases h
 ·rw [if_neg h0] at h
  by_cases h1 : -(n : Int) <= i
  ·rw [if_pos h1] at h
   have e : (i + n).toNat = j := Option.some.inj h
   exact ⟨by rw [seqIndex_neg (by omega) h1, e], by omega, h1, by omega⟩
  ·rw [if_neg h1] at h; cases h
theorem jP {α : Type} {xs : List α} {i : Int} {v : α} (h : atI xs i = some v) : ∃ j, seqIndex? i xs.length = some j /\ xs[j]? = some v /\ j < xs.length /\ -(xs.length : Int) <= i /\ i < xs.length := by
 unfold atI at h
 cases e : ixN xs.length i with
 | none => rw [e] at h; cases h
 | some j =>
  rw [e] at h
  obtain ⟨h1, h2, h3, h4⟩ := ni e
  exact ⟨j, h1, h, h2, h3, h4⟩
theorem jQ {α : Type} {xs : List α} {j : Nat} {v : α} (h : xs[j]? = some v) : atI xs (j : Int) = some v := by
 have hj : j < xs.length := (List.getElem?_eq_some_iff.mp h).1
 have e : ixN xs.length (j : Int) = some j := by
  unfold ixN
  rw [if_pos (by omega), if_pos (by omega)]; simp
 unfold atI; rw [e]; exact h
def gL (b : Expr) : Prop := ∀ o i, subscripted b false o i = operate [o, i] (getItem o i)
def IxR (X : Cx) (r : R2) : Prop :=
 ∀ (value slice : Expr) (pins : List (Addr × Obj)) (s : Shared) (σ : St) (H : Hp) (x y : V) (v u : Value) (Q : VK), Inv X pins σ H s -> RelV x v -> RelV y u -> r x y H Q ->
  subscripted slice false v u = operate [v, u] (getItem v u) -> wpAny (model X.prog X.w) X.A (subscriptTail value slice v u) (EP X pins σ Q) X.xe s
def MtR (X : Cx) (id : String) (r : V -> List V -> Hp -> VK -> Prop) : Prop :=
 ∀ (pins : List (Addr × Obj)) (s : Shared) (σ : St) (H : Hp) (x : V) (xs : List V) (v : Value) (us : List Value) (Q : VK), Inv X pins σ H s -> RelV x v -> Vals xs us -> r x xs H Q ->
  wpAny (model X.prog X.w) X.A (call (.builtin id) (v :: us)) (EP X pins σ Q) X.xe s
section
variable {X : Cx} {a b : Expr} {ta tb : TE} {pos : Pos}
theorem IxR.or {r r' : R2} (h : IxR X r) (h' : IxR X r') : IxR X (fun x y H Q => r x y H Q \/ r' x y H Q) := by
 intro value slice pins s σ H x y v u Q I rx ry q hs
 rcases q with q | q
 ·exact h value slice pins s σ H x y v u Q I rx ry q hs
 ·exact h' value slice pins s σ H x y v u Q I rx ry q hs
theorem qr {r : R2} (hr : IxR X r) (ha : PE X a ta) (hb : PE X b tb) (hs : gL b) : PE X (.Subscript a b pos) (tOp r ta tb) := by
 intro pins s σ H Q I h
 exact Subscript_ (x6 ha hb I h fun v u s2 x y H2 I2 rx ry q => hr a b pins s2 σ H2 x y v u Q I2 rx ry q (hs _ _))
def uc (K : PySem.W.Frag) : R2 := fun x y H Q => ∃ p xs i v, x = .ref p /\ y = .int i /\ SqL K H p xs /\ atI xs i = some v /\ Q v H
def AU (K : PySem.W.Frag) : R2 := fun x y H Q => ∃ p xs i v, x = .ref p /\ y = .int i /\ SqT K H p xs /\ atI xs i = some v /\ Q v H
def AV : R2 := fun x y H Q => ∃ z i c, x = .str z /\ y = .int i /\ z.length <= sizeLine /\ atI z.cps.toList i = some c /\ Q (.str ⟨#[c]⟩) H
theorem nj : IxR X (uc X.K) := by
 intro value slice pins s σ H x y v u Q I rx ry h hs
 obtain ⟨p, xs, i, z, rfl, rfl, hq, he, q⟩ := h
 cases rx
 obtain ⟨t, rfl⟩ := ry
 obtain ⟨its, r, pl, hz⟩ := I.list hq
 obtain ⟨j, h1, h2, h3, h4, h5⟩ := jP he
 obtain ⟨w, ew, rw'⟩ := r.get h2
 have hl := r.length
 have hn := eZ
 have fin : EP X pins σ Q w s := ⟨z, H, I, rw', q⟩
 by_cases h0 : 0 <= i
 ·have hj : i.toNat = j := by
   rw [seqIndex_of h0 h5] at h1
   exact Option.some.inj h1
  exact item_listR pl.isList h0 (by omega) (by rw [hj]; simpa using ew) fin hs
 ·have hj : (i + (its.toArray.size : Int)).toNat = j := by
   rw [seqIndex_neg (by omega) h4] at h1
   rw [List.size_toArray, <- hl]
   exact Option.some.inj h1
  exact subscriptTail_builtinR (x := w) pl.isList.typeIs slot_list_getitem.lookup
   (wpAny_getItem_list_neg (Q := fun r s' => r = w /\ EP X pins σ Q r s') pl.isList (by omega) (by rw [List.size_toArray] <;> omega) (by omega) (by rw [hj]; simpa using ew) ⟨rfl, fin⟩) hs
theorem yi : IxR X (AU X.K) := by
 intro value slice pins s σ H x y v u Q I rx ry h hs
 obtain ⟨p, xs, i, z, rfl, rfl, hq, he, q⟩ := h
 cases rx
 obtain ⟨t, rfl⟩ := ry
 obtain ⟨its, r, pl, hz⟩ := I.tuple hq
 obtain ⟨j, h1, h2, h3, h4, h5⟩ := jP he
 obtain ⟨w, ew, rw'⟩ := r.get h2
 have hl := r.length
 have hn := eZ
 have fin : EP X pins σ Q w s := ⟨z, H, I, rw', q⟩
 exact subscriptTail_builtinR (x := w) pl.typeIs slot_tuple_getitem.lookup
  (getItem_tuple (j := j) (Q := fun r s' => r = w /\ EP X pins σ Q r s') pl (by omega) (by omega) (by rw [List.size_toArray, <- hl]; exact h1) (by simpa using ew) ⟨rfl, fin⟩) hs
theorem yj : IxR X AV := by
 intro value slice pins s σ H x y v u Q I rx ry h hs
 obtain ⟨z, i, c, rfl, rfl, hz, he, q⟩ := h
 obtain ⟨t, rfl⟩ := rx
 obtain ⟨t', rfl⟩ := ry
 obtain ⟨j, h1, h2, h3, h4, h5⟩ := jP he
 have hl : z.cps.toList.length = z.length := by simp [Str.length]
 rw [hl] at h1 h4 h5
 have hn := eZ
 exact tail_any (typeIs_str s z t) slot_str_getitem.lookup (getItem_str (c := c) (by
  have e1 : decide (i < -(2 ^ 63 : Int)) = false := decide_eq_false (by omega)
  have e2 : decide (i >= 2 ^ 63) = false := decide_eq_false (by omega)
  rw [e1, e2, Bool.or_false]) (by rw [h1]; simpa using h2) ⟨.str ⟨#[c]⟩, H, I.tok _, ⟨_, rfl⟩, q⟩) hs
def rIx (K : PySem.W.Frag) : R2 := fun x y H Q => uc K x y H Q \/ AU K x y H Q \/ AV x y H Q
theorem qt : IxR X (rIx X.K) := nj.or (yi.or yj)
theorem mx (its : List Value) (n j : Nat) (u : Value) : Obj.mapSeq (·.setIfInBounds j u) { cls := .type "list", data := .seq its.toArray n } = { cls := .type "list", data := .seq (its.set j u).toArray n } := by
 simp [Obj.mapSeq]
theorem Inv.lst {pins : List (Addr × Obj)} {σ : St} {H : Hp} {s : Shared} {p : Addr} {xs : List V} (I : Inv X pins σ H s) (h : H p = some (.lst xs)) :
  ∃ (its : List Value) (n : Nat), Vals xs its /\ s.heap.get? p = some { cls := .type "list", data := .seq its.toArray n } /\ xs.length <= sizeLine := by
 obtain ⟨z, its, n, r, e⟩ := I.hok p _ h
 exact ⟨its, n, r, e, z⟩
theorem Inv.lstUpd {pins : List (Addr × Obj)} {σ : St} {H : Hp} {s : Shared} {p : Addr} {xs ys : List V} {its its' : List Value} {n n' : Nat} {f : Obj -> Obj} (I : Inv X pins σ H s) (h : H p = some (.lst xs))
  (ho : s.heap.get? p = some { cls := .type "list", data := .seq its.toArray n }) (hf : f { cls := .type "list", data := .seq its.toArray n } = { cls := .type "list", data := .seq its'.toArray n' }) (r : Vals ys its') (hz : ys.length <= sizeLine) (t : Nat) :
  Inv X pins σ (upd H p (.lst ys)) { s with heap := s.heap.update p f, toks := t } := by
 have e : (s.heap.update p f).get? p = some { cls := .type "list", data := .seq its'.toArray n' } := by
  rw [Heap.get?_update_self f ho (by rw [hf] <;> rfl), hf]
 refine I.write (x := p) (e := p) (by rw [h]; trivial) (.inl rfl) (fun b u hb q => (Heap.get?_update_other _ _ (Ne.symm hb)).trans q) ⟨_, e⟩ ?_
 exact ⟨hz, its', n', r, e⟩
def kS : V -> V -> V -> Hp -> (Hp -> Prop) -> Prop := fun o i v H Q => ∃ p xs k j, o = .ref p /\ i = .int k /\ H p = some (.lst xs) /\ ixN xs.length k = some j /\ Q (upd H p (.lst (xs.set j v)))
theorem set_list : AO X kS := by
 intro pins s σ H o i v ov iv u Q I ro ri rv h
 obtain ⟨p, xs, k, j, rfl, rfl, hp, hj, q⟩ := h
 cases ro
 obtain ⟨t, rfl⟩ := ri
 obtain ⟨its, n, r, ho, hz⟩ := I.lst hp
 obtain ⟨h1, h2, h3, h4⟩ := ni hj
 have hl := r.length
 have hn := eZ
 have I' : Inv X pins σ (upd H p (.lst (xs.set j v))) { s with heap := s.heap.update p (Obj.mapSeq (·.setIfInBounds j u)) } :=
  I.lstUpd hp ho (mx its n j u) (r.set rv j) (by rw [List.length_set]; exact hz) s.toks
 by_cases h0 : 0 <= k
 ·have hk : k.toNat = j := by
   rw [seqIndex_of h0 h4] at h1
   exact Option.some.inj h1
  exact PySem.W.ki_setAt ho h0 (by omega) (by rw [List.size_toArray, <- hl]; exact h4) (by rw [hk]; exact ⟨_, I', q⟩)
 ·have hk : (k + (its.toArray.size : Int)).toNat = j := by
   rw [seqIndex_neg (by omega) h3] at h1
   rw [List.size_toArray, <- hl]
   exact Option.some.inj h1
  exact PySem.W.ki_setBack ho (by omega) (by rw [List.size_toArray, <- hl]; exact h3) (by omega) (by rw [hk]; exact ⟨_, I', q⟩)
theorem jR (lo hi : Option Int) (n : Nat) : (sliceBounds lo hi none n).1 = ((HT.sIx n 0 lo : Nat) : Int) /\ (sliceBounds lo hi none n).2.1 = ((HT.sIx n n hi : Nat) : Int) /\ (sliceBounds lo hi none n).2.2 = 1 := by
 refine ⟨?_, ?_, rfl⟩
 ·cases lo with
  | none => simp [sliceBounds, HT.sIx]
  | some i =>
   simp only [sliceBounds, HT.sIx, Option.getD_none, show (1 : Int) > 0 by decide, if_true]
   by_cases h : i < 0
   ·simp only [h, if_true] <;> omega
   ·simp only [h, if_false] <;> omega
 ·cases hi with
  | none => simp [sliceBounds, HT.sIx]
  | some i =>
   simp only [sliceBounds, HT.sIx, Option.getD_none, show (1 : Int) > 0 by decide, if_true]
   by_cases h : i < 0
   ·simp only [h, if_true] <;> omega
   ·simp only [h, if_false] <;> omega
theorem i9 (its : List Value) (lo hi : Option Int) : slicePick its.toArray lo hi none = ((its.drop (HT.sIx its.length 0 lo)).take (HT.sIx its.length its.length hi - HT.sIx its.length 0 lo)).toArray := by
 obtain ⟨h1, h2, h3⟩ := jR lo hi its.toArray.size
 unfold slicePick
 rw [h1, h2, h3]
 simp only [sliceRange_one, pick_run, List.size_toArray] <;> rfl
def AW (K : PySem.W.Frag) : V -> Option Int -> Option Int -> Hp -> VK -> Prop := fun x lo hi H Q => ∃ a xs, x = .ref a /\ SqL K H a xs /\ ∀ p, H p = none -> Q (.ref p) (upd H p (.lst (oX xs lo hi)))
theorem ud : SlR X (AW X.K) := by
 intro pins s σ H x v vl vu lo hi sl Q I rx hs pl pu h
 obtain ⟨a, xs, rfl, hx, q⟩ := h
 cases rx
 obtain ⟨its, r, ht, hz⟩ := I.list hx
 have hlen := r.length
 refine ⟨"list", _, slot_list_getitem.lookup, ht.isList.typeIs, ?_⟩
 refine wpAny_getItem_list_slice ht.isList hs pl pu .none (by simp) ?_ (by rw [List.size_toArray] <;> omega)
 rw [i9, <- hlen]
 refine ⟨.ref s.heap.objs.size, _, I.laid (t' := s.toks) (o := .lst (oX xs lo hi)) (fun b ob q => Heap.get?_push_of_some _ q) (Nat.le_refl _) ?_, rfl, q _ (I.hok.fresh (Nat.le_refl _))⟩
 exact ⟨Nat.le_trans (kR xs lo hi) hz, _, 0, (r.drop (HT.sIx xs.length 0 lo)).take (HT.sIx xs.length xs.length hi - HT.sIx xs.length 0 lo), Heap.get?_push_size _ rfl⟩
theorem jS : bW X (.builtin "len") (fun xs H Q => ∃ p ys, xs = [.ref p] /\ (SqL X.K H p ys \/ SqT X.K H p ys) /\ Q (.int ys.length) H) := by
 intro pins s σ H xs us Q I r h
 obtain ⟨p, ys, rfl, hq, q⟩ := h
 obtain ⟨u, rfl, rx⟩ := vals1 r
 cases rx
 have hn := eZ
 rcases hq with hq | hq
 ·obtain ⟨its, r', pl, hz⟩ := I.list hq
  have hlen := r'.length
  exact Calls.call_len_list pl.isList (by simp only [List.size_toArray] <;> omega) ⟨.int ys.length, H, I.tok _, ⟨s.toks + 1, by rw [List.size_toArray, hlen]⟩, q⟩
 ·obtain ⟨its, r', pl, hz⟩ := I.tuple hq
  have hlen := r'.length
  exact len_tuple pl (by simp only [List.size_toArray] <;> omega) ⟨.int ys.length, H, I.tok _, ⟨s.toks + 1, by rw [List.size_toArray, hlen]⟩, q⟩
theorem dB : bW X (.builtin "len") (fun xs H Q => ∃ z, xs = [.str z] /\ z.length <= sizeLine /\ Q (.int z.length) H) := by
 intro pins s σ H xs us Q I r h
 obtain ⟨z, rfl, hz, q⟩ := h
 obtain ⟨u, rfl, t, rfl⟩ := vals1 r
 have hn := eZ
 exact len_str (by omega) ⟨.int z.length, H, I.tok _, ⟨_, rfl⟩, q⟩
theorem jT : bW X (.type "list") (fun xs H Q => ∃ p ys, xs = [.ref p] /\ (SqL X.K H p ys \/ SqT X.K H p ys) /\ ∀ l, H l = none -> Q (.ref l) (upd H l (.lst ys))) := by
 intro pins s σ H xs us Q I r h
 obtain ⟨p, ys, rfl, hq, q⟩ := h
 obtain ⟨u, rfl, rx⟩ := vals1 r
 cases rx
 have fin : ∀ (its : List Value), Vals ys its -> ys.length <= sizeLine -> ∀ (h' : Heap) (c' : Nat), (∀ b o', s.heap.get? b = some o' -> h'.get? b = some o') ->
   h'.get? s.heap.objs.size = some { cls := .type "list", dict := none, data := .seq its.toArray c', slots := #[] } -> EP X pins σ Q (.ref s.heap.objs.size) { s with heap := h' } := fun its r' hz h' c' kp e =>
  ⟨.ref s.heap.objs.size, _, I.laid (t' := s.toks) kp (Nat.le_refl _) (show bp X.prog X.w _ h' _ (.lst ys) from ⟨hz, its, c', r', e⟩), rfl, q _ (I.hok.fresh (Nat.le_refl _))⟩
 rcases hq with hq | hq
 ·obtain ⟨its, r', pl, hz⟩ := I.list hq
  have hlen := r'.length
  obtain ⟨o, ho, hc, n, hd⟩ := pl.isList
  exact call_list_seq p (.inl rfl) ho hc hd (fun h' c' kp e => fin its r' hz h' c' kp e) (by simp only [List.size_toArray] <;> omega)
 ·obtain ⟨its, r', pl, hz⟩ := I.tuple hq
  have hlen := r'.length
  obtain ⟨o, ho, hc, n, hd⟩ := pl
  exact call_list_seq p (.inr rfl) ho hc hd (fun h' c' kp e => fin its r' hz h' c' kp e) (by simp only [List.size_toArray] <;> omega)
def tyV (K : PySem.W.Frag) (T : String) (x : V) (H : Hp) : Prop := match x with
 | .str _ => T = "str"
 | .int _ => T = "int"
 | .ref p => (T = "list" /\ ∃ xs, SqL K H p xs) \/ (T = "tuple" /\ ∃ o, K.lookup p = some o /\ o.cls = .type "tuple" /\ o.dict = none) \/
   (T = "dict" /\ ((∃ kvs, H p = some (.dK kvs)) \/ ∃ kvs, H p = some (.dT kvs))) \/ (T = "set" /\ ∃ S n, H p = some (.set S n))
 | _ => False
theorem qu {pins : List (Addr × Obj)} {σ : St} {H : Hp} {s : Shared} {T : String} {x : V} {v : Value} (I : Inv X pins σ H s) (r : RelV x v) (ty : tyV X.K T x H) :
  s.TypeIs v T /\ ∀ a, v = .ref a -> ∃ ob, s.heap.get? a = some ob /\ ob.dict = none := by
 cases x with
 | str z =>
  obtain ⟨t, rfl⟩ := r
  cases (show T = "str" from ty)
  exact ⟨typeIs_str s z t, fun _ e => nomatch e⟩
 | int i =>
  obtain ⟨t, rfl⟩ := r
  cases (show T = "int" from ty)
  exact ⟨typeIs_int s i t, fun _ e => nomatch e⟩
 | ref p =>
  cases r
  rcases ty with ⟨rfl, xs, hq⟩ | ⟨rfl, o, hk, hc, hd⟩ | ⟨rfl, hk⟩ | ⟨rfl, S, n, hk⟩
  ·obtain ⟨its, _, pl, _⟩ := I.list hq
   refine ⟨pl.isList.typeIs, fun a e => ?_⟩
   cases e
   obtain ⟨o, n, e, c, hd, _⟩ := pl
   exact ⟨o, e, hd⟩
  ·refine ⟨⟨o, I.kIn p o hk, hc⟩, fun a e => ?_⟩
   cases e
   exact ⟨o, I.kIn _ o hk, hd⟩
  ·have z : ∃ o, s.heap.get? p = some o /\ o.ExactDict := by
    rcases hk with ⟨kvs, hk⟩ | ⟨kvs, hk⟩
    ·obtain ⟨_, _, _, _, o, _, _, e, ex, _⟩ := I.hok p _ hk
     exact ⟨o, e, ex⟩
    ·obtain ⟨_, _, _, _, o, _, _, e, ex, _⟩ := I.hok p _ hk
     exact ⟨o, e, ex⟩
   obtain ⟨o, e, ex⟩ := z
   refine ⟨⟨o, e, ex.1⟩, fun a e2 => ?_⟩
   cases e2
   exact ⟨o, e, ex.2.1⟩
  ·obtain ⟨o, _, _, _, e, ex, _⟩ := I.hok p _ hk
   refine ⟨⟨o, e, ex.1⟩, fun a e2 => ?_⟩
   cases e2
   exact ⟨o, e, ex.2.1⟩
 | _ => exact False.elim ty
def AX (K : PySem.W.Frag) (T : String) (r : V -> List V -> Hp -> VK -> Prop) (to : TE) : TE := fun σ H Q => to σ H fun x H1 => tyV K T x H1 /\ r x [] H1 Q
def tBM (K : PySem.W.Frag) (T : String) (r : V -> List V -> Hp -> VK -> Prop) (to : TE) (t : TA) : TE := fun σ H Q => to σ H fun x H1 => tyV K T x H1 /\ t σ H1 fun xs H2 => r x xs H2 Q
variable {o e : Expr} {es : List Expr} {to : TE} {t : TA} {name : Str} {apos cpos : Pos} {T id : String} {r : V -> List V -> Hp -> VK -> Prop}
theorem yk (pa : PlainAttrs T) (slot : Slot T name id) (hty : typeOf (.builtin id) = pure (.type "method_descriptor")) (hm : MtR X id r) (ho : PE X o to)
  (hbase : attributeBase o name X.env (eval o X.env) = eval o X.env := by rfl) (hline : (apos.endLine == cpos.line) = true := by rfl) : PE X (.Call (.Attribute o name apos) [] [] cpos) (AX X.K T r to) := by
 intro pins s σ H Q I h
 refine wpAny_Call_method0_late hbase hline (thn (ho pins s σ H _ I h) fun v s1 zr1 => ?_)
 obtain ⟨x, H1, I1, r1, ty, q1⟩ := zr1
 obtain ⟨h1, h2⟩ := qu I1 r1 ty
 exact ⟨T, id, pa, slot, hty, h1, h2, Calls.callWith_builtin rfl (PySem.evalArgs_none (hm pins s1 σ H1 x [] v [] Q I1 r1 .nil q1))⟩
theorem kU (pa : PlainAttrs T) (slot : Slot T name id) (hty : typeOf (.builtin id) = pure (.type "method_descriptor")) (hm : MtR X id r) (ho : PE X o to) (ha : PA X (e :: es) t)
  (hbase : attributeBase o name X.env (eval o X.env) = eval o X.env := by rfl)
  (hfew : ((backTo cpos (starEach (e :: es) X.env)).all (fun x => !x.1) && (backToKw cpos (keywordEach [] X.env)).all (fun x => x.1.isSome)
   && decide ((e :: es).length + ([] : List Keyword).length + (if ([] : List Keyword).isEmpty then 0 else 1) < 30)) = true := by rfl)
  (hline : (apos.endLine == cpos.line) = true := by rfl) (hs : starEach (e :: es) X.env = (false, eval e X.env) :: starEach es X.env := by rfl) (hplain : (backTo cpos (starEach es X.env)).any (·.1) = false := by rfl) :
  PE X (.Call (.Attribute o name apos) (e :: es) [] cpos) (tBM X.K T r to t) := by
 intro pins s σ H Q I h
 refine wpAny_Call_method_late hbase hfew hline rfl (thn (ho pins s σ H _ I h) fun v s1 zr1 => ?_)
 obtain ⟨x, H1, I1, r1, ty, q1⟩ := zr1
 obtain ⟨h1, h2⟩ := qu I1 r1 ty
 refine ⟨T, id, pa, slot, hty, h1, h2, ?_⟩
 have hA := ha cpos pins s1 σ H1 _ I1 q1
 rw [hs] at hA ⊢
 refine Calls.callWith_builtin (by show (false || (backTo cpos (starEach es X.env)).any (·.1)) = false; rw [hplain] <;> rfl) (Calls.evalArgs_plain ?_)
 exact thn hA fun us s2 zt1 => by obtain ⟨vs, H2, I2, r2, q2⟩ := zt1; exact hm pins s2 σ H2 x vs v us Q I2 r1 r2 q2
end
end L2
namespace L2
open PySem PySem.Spec PyProof.Rows
def MtM (X : Cx) (id : String) (r : V -> List V -> Hp -> VK -> Prop) : Prop :=
 ∀ (pins : List (Addr × Obj)) (s : Shared) (σ : St) (H : Hp) (x : V) (xs : List V) (v : Value) (us : List Value) (Q : VK), Inv X pins σ H s -> RelV x v -> Vals xs us -> r x xs H Q ->
  wpAny (model X.prog X.w) X.A (call (.builtin id) (v :: us)) (EP X pins σ Q) X.xe s
theorem Vals.one : ∀ {x : V} {us : List Value}, Vals [x] us -> ∃ u, us = [u] /\ RelV x u := by
 intro x us h
 cases h with
 | cons r h => cases h; exact ⟨_, rfl, r⟩
theorem Vals.zero : ∀ {us : List Value}, Vals [] us -> us = []
 | _, .nil => rfl
theorem Vals.reverse {xs : List V} {us : List Value} (h : Vals xs us) : Vals xs.reverse us.reverse := by
 induction h with
 | nil => exact .nil
 | cons r t ih => rw [List.reverse_cons, List.reverse_cons]; exact Vals.append ih (.cons r .nil)
theorem Vals.rep {xs : List V} {us : List Value} (h : Vals xs us) : ∀ k : Nat, Vals (List.replicate k xs).flatten (List.replicate k us).flatten
 | 0 => .nil
 | k + 1 => by
  rw [List.replicate_succ, List.replicate_succ, List.flatten_cons, List.flatten_cons]
  exact Vals.append h (Vals.rep h k)
theorem foldl_rep (its : List Value) : ∀ (k : Nat) (acc : List Value),
  List.foldl (fun x1 x2 => x1 ++ x2) acc.toArray (List.replicate k its.toArray) = (acc ++ (List.replicate k its).flatten).toArray
 | 0, acc => by simp
 | k + 1, acc => by
  have e : acc.toArray ++ its.toArray = (acc ++ its).toArray := by simp
  have e2 : (acc ++ its) ++ (List.replicate k its).flatten = acc ++ (List.replicate (k + 1) its).flatten := by
   rw [List.replicate_succ, List.flatten_cons, List.append_assoc]
  rw [<- e2, <- foldl_rep its k (acc ++ its), <- e, List.replicate_succ, List.foldl_cons]
section
variable {X : Cx} {pins : List (Addr × Obj)} {σ : St} {H : Hp} {s : Shared} {l b : Addr} {xs ys zs : List V}
theorem Inv.lset {its its' : List Value} {n : Nat} {f : Array Value -> Array Value} {t' : Nat} (I : Inv X pins σ H s) (hH : H l = some (.lst xs))
  (e : s.heap.get? l = some { cls := .type "list", data := .seq its.toArray n }) (hf : f its.toArray = its'.toArray) (hv : Vals ys its') (hz : ys.length <= sizeLine) :
  Inv X pins σ (upd H l (.lst ys)) { s with heap := s.heap.update l (Obj.mapSeq f), toks := t' } := by
 have q := PySem.IsL.update e f
 rw [hf] at q
 refine I.write (x := l) (e := l) (by rw [hH]; exact trivial) (.inl rfl) (fun b' u hb hu => (Heap.get?_update_other s.heap (Obj.mapSeq f) (Ne.symm hb)).trans hu) ⟨_, q⟩ ?_
 exact ⟨hz, its', _, hv, q⟩
theorem Inv.lnew {its : List Value} {t' : Nat} (I : Inv X pins σ H s) (hv : Vals ys its) (hz : ys.length <= sizeLine) :
  Inv X pins σ (upd H s.heap.objs.size (.lst ys)) { s with heap := s.heap.push { cls := .type "list", data := .seq its.toArray }, toks := t' } :=
 I.laid (fun _ _ q => Heap.get?_push_of_some _ q) (Nat.le_refl _) ⟨hz, its, 0, hv, Heap.get?_push_size _ rfl⟩
theorem Inv.fresh (I : Inv X pins σ H s) : H s.heap.objs.size = none := I.hok.fresh (Nat.le_refl _)
theorem Inv.lstM (I : Inv X pins σ H s) (hH : H l = some (.lst xs)) : xs.length <= sizeLine /\ ∃ (its : List Value) (n : Nat), Vals xs its /\ xs.length = its.length /\ s.heap.get? l = some { cls := .type "list", data := .seq its.toArray n } := by
 obtain ⟨z, its, n, r, e⟩ := I.hok l _ hH
 exact ⟨z, its, n, r, r.length, e⟩
theorem qv {n : Nat} (h : n <= sizeLine) : Builtin.List.listTooLong n = false := by
 unfold Builtin.List.listTooLong
 exact decide_eq_false (by omega)
end
section
variable {X : Cx}
def gM : V -> List V -> Hp -> VK -> Prop := fun x vs H Q => ∃ l xs y, x = .ref l /\ vs = [y] /\ H l = some (.lst xs) /\ xs.length < sizeLine /\ Q .non (upd H l (.lst (xs ++ [y])))
theorem oY : MtM X "list.append" gM := by
 intro pins s σ H x vs v us Q I rx rv h
 obtain ⟨l, xs, y, rfl, rfl, hH, hz, q⟩ := h
 cases rx
 obtain ⟨u, rfl, ru⟩ := rv.one
 obtain ⟨z, its, n, r, hl, e⟩ := I.lstM hH
 refine call_meets F.slot_list_append ⟨_, e, rfl⟩ F.entry_list_append (F.args_list_append_2 _ _) (PySem.list_append l its.toArray n u (by rw [List.size_toArray]; omega)) ⟨e, ?_⟩
 refine ⟨.non, _, I.lset (its' := its ++ [u]) hH e (by simp) (r.append (.cons ru .nil)) ?_, rfl, q⟩
 rw [List.length_append, List.length_singleton]
 omega
def kW : V -> List V -> Hp -> VK -> Prop := fun x vs H Q => ∃ l xs, x = .ref l /\ vs = [] /\ H l = some (.lst xs) /\ Q .non (upd H l (.lst xs.reverse))
theorem my : MtM X "list.reverse" kW := by
 intro pins s σ H x vs v us Q I rx rv h
 obtain ⟨l, xs, rfl, rfl, hH, q⟩ := h
 cases rx
 have hus := rv.zero
 subst hus
 obtain ⟨z, its, n, r, hl, e⟩ := I.lstM hH
 refine call_meets F.slot_list_reverse ⟨_, e, rfl⟩ F.entry_list_reverse (F.args_list_reverse_1 _) (AutoSeq1.list_reverse_list_0 l its.toArray n (by rw [List.size_toArray]; omega)) ⟨e, ?_⟩
 refine ⟨.non, _, I.lset (its' := its.reverse) hH e (by simp) r.reverse ?_, rfl, q⟩
 rw [List.length_reverse]
 omega
def AY : R2 := fun x y H Q => ∃ l k xs, x = .ref l /\ y = .int k /\ H l = some (.lst xs) /\ -(2 ^ 63) <= k /\ k < 2 ^ 63 /\ xs.length * k.toNat <= sizeLine /\
 ∀ p, H p = none -> Q (.ref p) (upd H p (.lst (List.replicate k.toNat xs).flatten))
theorem len_rep {α : Type} (xs : List α) (k : Nat) : (List.replicate k xs).flatten.length = k * xs.length := by
 induction k with
 | zero => simp
 | succ k ih => rw [List.replicate_succ, List.flatten_cons, List.length_append, ih, Nat.succ_mul, Nat.add_comm]
theorem yl : OpR X (binaryOp .Mult) AY := by
 intro pins s σ H x y v u Q I rx ry h
 obtain ⟨l, k, xs, rfl, rfl, hH, h1, h2, hz, q⟩ := h
 cases rx
 obtain ⟨t, rfl⟩ := ry
 obtain ⟨z, its, n, r, hl, e⟩ := I.lstM hH
 have hlen : its.toArray.size * k.toNat <= sizeLine := by rw [List.size_toArray, <- hl]; exact hz
 have hcap : ¬ its.toArray.size * k.toNat > (2 ^ 63 - 1) / 8 := by
  have : (sizeLine : Nat) <= (2 ^ 63 - 1) / 8 := by decide
  omega
 have hfit : ¬ (!Builtin.List.listFitsIndex k) = true := by
  rw [fitsIndex_both h1 h2]
  exact Bool.false_ne_true
 have hlong : ¬ Builtin.List.listTooLong (its.toArray.size * k.toNat) = true := by
  rw [qv hlen]
  exact Bool.false_ne_true
 have hnew : List.foldl (fun x1 x2 => x1 ++ x2) #[] (List.replicate (if its.toArray.isEmpty = true then 0 else k.toNat) its.toArray) = (List.replicate k.toNat its).flatten.toArray := by
  have f0 : ∀ m : Nat, List.foldl (fun x1 x2 => x1 ++ x2) #[] (List.replicate m its.toArray) = (List.replicate m its).flatten.toArray := fun m => by
   have := foldl_rep its m []
   rw [List.nil_append] at this
   exact this
  rw [f0]
  cases its with
  | nil => simp
  | cons a r' => rw [if_neg (by simp)]
 refine wpAny_binaryOp_repeat_ref (T := "list") (U := "int") (by decide) ⟨_, e, rfl⟩ (fun s' => typeIs_int s' k t) noFill_list_mul F.fills_int_mul F.slot_int_rmul repeat_list F.slot_int_index.lookup
  (call_meets F.slot_int_rmul (typeIs_int s k t) F.entry_int_rmul (F.args_int_rmul_2 _ _) (int___rmul___int_list k t l its.toArray n)
   ⟨e, rfl, ⟨_, e, rfl⟩, call_meets F.slot_list_mul ⟨_, e, rfl⟩ F.entry_list_mul (F.args_list_mul_2 _ _) (AutoListH.list___mul___list_int_3 l its.toArray n k t hfit hcap hlong) ⟨e, ?_⟩⟩)
 rw [hnew]
 exact ⟨.ref _, _, I.lnew (t' := s.toks) (r.rep k.toNat) (by rw [len_rep, Nat.mul_comm]; exact hz), rfl, q _ I.fresh⟩
end
end L2
namespace Att
open PySem PySem.W PySem.Calls PyProof.Rows
theorem gF {P : Params} {h : Heap} : ∀ (ns : List Int) (vs : List Value), WellAll P h vs (ns.map WData.int) -> IntsAre vs ns := by
 intro ns
 induction ns with
 | nil =>
  intro vs w
  rw [List.map_nil] at w
  cases w
  exact .nil
 | cons n ns ih =>
  intro vs w
  rw [List.map_cons] at w
  cases w with
  | cons a b =>
   cases a
   exact .cons _ _ (ih _ b)
theorem oZ {l : OpenLaw} {n : Nat} (hn : l.most = some n) {P : Params} {h : Heap} {args : List WData} {vals : List Value}
  (hpre : l.row.toRowW.claim.pre args = true) (hwl : WellAll P h vals args) :
  ∃ a vs ns, vals = [Value.ref a] /\ args = [WData.list (ns.map WData.int)] /\ h.get? a = some { cls := .type "list", data := .seq vs.toArray } /\ IntsAre vs ns /\ ns.length <= n := by
 have hsh : WShape.hasAll [] args [.list .int] = true := (pre_splitW hpre).1
 have hc : l.pre.holds [] { args := args } = true := (pre_splitW hpre).2
 obtain ⟨d, r, rfl, h1, h2⟩ := hasAllW_cons hsh
 obtain rfl := hasAllW_nil h2
 obtain ⟨xs, rfl, h3⟩ := hasW_list h1
 obtain ⟨ns, rfl⟩ := items_int h3
 have hlen : ns.length <= n := by
  unfold OpenLaw.pre at hc
  have h4 : (WTm.not (.lt (.lit (.int (n : Int))) (.len (.arg 0)))).holds [] { args := [.list (ns.map .int)] } = true := by
   have h4 := (holds_andW hc).1
   rw [hn] at h4
   exact h4
  have h5 := condW_of h4 (w_not (w_lt w_lit (w_len_list (w_arg rfl))))
  rw [List.length_map] at h5
  refine Nat.le_of_not_lt fun q => ?_
  have q' : (n : Int) < ((ns.length : Nat) : Int) := by omega
  first
   | (rw [decide_eq_true q'] at h5; exact absurd h5 (by decide))
   | (simp at h5; omega)
 cases hwl with
 | cons w1 w2 =>
  cases w2
  cases w1 with
  | list ho hall => exact ⟨_, _, ns, rfl, rfl, ho, gF ns _ hall, hlen⟩
theorem o8 (l : OpenLaw) (args : List WData) : l.row.toRowW.claim.post args (.bool true) args = true :=
 postW_of (r := l.row.toRowW) (X := (true == true))
  (show WShape.has [] (.bool true) .bool = true by first | rfl | decide | simp [WShape.has, WShape.arms, WShape.armsAll])
  (show (WTm.eq .res (.lit (.bool true))).value [] { args := args, res := some (.bool true), after := args } = some (.bool (true == true)) from w_eq_bool (w_res rfl) w_lit) rfl
theorem kX {l : OpenLaw} {n : Nat} {q : Program} {loose : List Str} {XP : (Str -> Option Value) -> Heap -> Prop} {YP : World -> Heap -> Prop} {d : DefRec}
  (hn : l.most = some n) (hdf : d.params.defaults = [])
  (call : ∀ (w : World) (s₀ s₁ : Shared) (mg mb : Str -> Option Value) (fa : Addr) (o : Obj) (pm cd doc : Value) (a : Addr) (vs : List Value) (ns : List Int),
   Ground q loose [] XP w s₀ mg mb s₁.heap -> YP w s₁.heap ->
   s₁.heap.get? fa = some o -> o.data = .func (docDef d.name d.params d.body d.scope pm cd doc) -> s₁.heap.CodeRec cd d.name -> mg d.name = some (.ref fa) ->
   s₁.heap.get? a = some { cls := .type "list", data := .seq vs.toArray } -> IntsAre vs ns -> ns.length <= n -> s₁.gens = #[] ->
   codeAny (model l.prog w) callerA (.call (.ref fa) ⟨[.ref a], []⟩) (fun r s' => r = .ok (.ret (.bool true)) /\ OldK s₁.heap s'.heap /\ s'.os = s₁.os /\ AllBare s'.gens) s₁) :
  WalkO q loose XP YP l.row.toRowW d [] (fun f vs => PySem.call f vs) := by
 intro w s₀ s₁ mg mb G Y fa o pm cd doc dV kV ho hd hcd hD hmg hg args vals as hpre hlay hrd hwl hlo
 obtain rfl : dV = .none := Dflts.none hD hdf
 obtain rfl : kV = .none := Dflts.noKw hD
 obtain ⟨a, vs, ns, rfl, rfl, hobj, hints, hlen⟩ := oZ hn hpre hwl
 refine enter_call (codeAny_mono (call w s₀ s₁ mg mb fa o pm cd doc a vs ns G Y ho (fd_plain hd) hcd hmg hobj hints hlen hg) fun r s' hq => ?_)
 obtain ⟨rfl, h2, h3, h4⟩ := hq
 exact ⟨.inl ⟨.bool true, .bool true, [], rfl, fun _ => rfl, .bool true, o8 l _, fun _ => ⟨List.Pairwise.nil, fun _ hm => (nomatch hm)⟩⟩, h2, h3, h4⟩
end Att
namespace L2
open PySem PySem.Spec PyProof.Rows
theorem jr : ∀ {vs : List Value} {ns : List Int}, IntsAre vs ns -> Vals (ns.map V.int) vs
 | _, _, .nil => .nil
 | _, _, .cons n t h => .cons ⟨t, rfl⟩ (jr h)
def Only (H : Hp) : Prop := ∀ b, H b = none \/ ∃ o xs, H b = some (.frz o (.lst xs))
theorem qw {P : Program} {w : World} {K : PySem.W.Frag} {mg mb : Str -> Option Value} {CX : CXT} {k : Nat} {fa a : Addr} {fd : FuncData} {x : Str} {sp : Sp} {s₁ : Shared} {vs : List Value} {ns : List Int}
  (KX : K.In s₁.heap) (hns : s₁.heap.Ns mainGlobals mg) (hb : s₁.heap.Ns builtinsNs mb) (hbb : ∀ x : Str, x ≠ "__name__" -> mb x = bootBuiltins x) (hlim : s₁.heap.NoLimit) (hg : s₁.gens = #[])
  (ha : s₁.heap.get? a = some { cls := .type "list", data := .seq vs.toArray }) (hi : IntsAre vs ns) (hl : ns.length <= sizeLine) (hr : cj k callerA)
  (F : ∀ base : Heap, K.In base -> base.Ns mainGlobals mg -> gC P w K mg base CX k fa fd [x] sp) (hbind : ∀ (s : Shared) (u : Value), BindsTo s fd ⟨[u], []⟩ [(x, u)])
  (hsp : ∀ H : Hp, Only H -> SqL K H a (ns.map V.int) -> sp [.ref a] H (fun v _ => v = .bl true) fun _ _ _ => False)
  (hCX : ∀ H e s', CX [] H s₁ (fun _ _ _ => False) e s' -> False) :
  codeAny (model P w) callerA (.call (.ref fa) ⟨[.ref a], []⟩) (fun r s' => r = .ok (.ret (.bool true)) /\ OldK s₁.heap s'.heap /\ s'.os = s₁.os /\ AllBare s'.gens) s₁ := by
 have rv := jr hi
 have lenV := hi.length
 -- from an abstract heap in which nothing but the script may be tracked
 have core : ∀ H : Hp, Only H -> SqL K H a (ns.map V.int) -> HOk P w H s₁.heap -> (∀ b, H b ≠ none -> b = a) -> (H a ≠ none -> K.lookup a = none) ->
   codeAny (model P w) callerA (.call (.ref fa) ⟨[.ref a], []⟩) (fun r s' => r = .ok (.ret (.bool true)) /\ OldK s₁.heap s'.heap /\ s'.os = s₁.os /\ AllBare s'.gens) s₁ := by
  intro H hO hS hok hA hK
  have base_of : ∀ {b : Addr} {o : Obj}, s₁.heap.get? b = some o -> H b = none -> (jK s₁.heap H).get? b = some o := fun e n => pW e n
  have noA : ∀ {b : Addr} {o : Obj} {es : Array DictEntry} {ep : Nat}, s₁.heap.get? b = some o -> o.data = .dict es ep -> H b = none := fun {b o es ep} e d => by
   cases q : H b with
   | none => rfl
   | some u =>
    have e' : b = a := hA b (by rw [q]; simp)
    subst e'
    rw [ha] at e; cases e
    have d' : Data.seq vs.toArray _ = Data.dict es ep := d
    cases d'
  have nsK : ∀ {b : Addr} {m : Str -> Option Value}, s₁.heap.Ns b m -> (jK s₁.heap H).Ns b m := fun {b m} zt1 => by obtain ⟨o, es, ep, e, d, r⟩ := zt1; exact ⟨o, es, ep, base_of e (noA e d), d, r⟩
  have hKb : K.In (jK s₁.heap H) := fun b o e => base_of (KX b o e) (by
   cases q : H b with
   | none => rfl
   | some u =>
    have e' : b = a := hA b (by rw [q]; simp)
    subst e'
    rw [hK (by rw [q]; simp)] at e; cases e)
  have hM : Mod K mg (jK s₁.heap H) := ⟨hKb, nsK hns, ⟨mb, nsK hb, hbb⟩, let ⟨mc, h1, h2⟩ := hlim; ⟨mc, nsK h1, h2⟩⟩
  have e0 : Env0 P w K mg (jK s₁.heap H) callerA [] s₁ H := ⟨rfl, hM, fun b o e => tW e, Nat.le_of_eq (oP _ _), trivial, fun b hb => absurd (show b ∈ ([] : List Addr) from hb) (by simp), hok, .of_eq hg⟩
  refine codeAny_mono ((F _ hKb (nsK hns)).run callerA [] s₁ H ⟨[.ref a], []⟩ [.ref a] [.ref a] _ _ hr e0 (hbind s₁ (.ref a)) (.cons rfl .nil) (hsp H hO hS)) fun r s' h => ?_
  cases r with
  | error e => exact (hCX H e s' h).elim
  | ok fl =>
   cases fl with
   | next => exact False.elim h
   | brk => exact False.elim h
   | cont => exact False.elim h
   | ret u =>
    obtain ⟨v, H', os, bare, un, hok', r', q⟩ := h
    have q' : v = .bl true := q
    subst q'
    obtain rfl : u = Value.bool true := r'
    refine ⟨rfl, OldK.of_keep fun b o e => ?_, os, bare⟩
    cases q : H b with
    | none => exact un.keep b o e q (by intro z; exact absurd (show b ∈ ([] : List Addr) from z) (by simp)) (by simp)
    | some u =>
     rcases hO b with z | ⟨ob, xs, z⟩
     ·rw [q] at z; cases z
     ·have z2 := un.frzs b ob _ z
      obtain ⟨e1, _⟩ := hok b _ z
      obtain ⟨e2, _⟩ := hok' b _ z2
      rw [e] at e1; cases e1
      exact e2
 cases hk : K.lookup a with
 | some o =>
  -- the script is one of the module's own objects
  have e := KX a o hk
  rw [ha] at e
  cases e
  refine core (fun _ => none) (fun _ => .inl rfl) (.inr ⟨_, vs.toArray, _, hk, rfl, rfl, rfl, by rw [List.size_toArray, lenV]; exact hl, by simpa using rv⟩) (fun b u z => by have z' : (none : Option HO) = some u := z; cases z') (fun b z => absurd rfl z) fun z => absurd rfl z
 | none =>
  refine core (fun b => if b = a then some (.frz { cls := .type "list", data := .seq vs.toArray } (.lst (ns.map V.int))) else none) (fun b => ?_) (.inl (.inr ⟨{ cls := .type "list", data := .seq vs.toArray }, if_pos rfl⟩)) (fun b u z => ?_) (fun b z => ?_) fun _ => hk
  ·by_cases hb : b = a
   ·exact .inr ⟨_, _, if_pos hb⟩
   ·exact .inl (if_neg hb)
  ·by_cases hb : b = a
   ·have z' := (if_pos hb).symm.trans z
    cases z'
    subst hb
    exact ⟨ha, by rw [List.length_map]; exact hl, vs, _, rv, ha⟩
   ·have z' := (if_neg hb).symm.trans z
    cases z'
  ·by_cases hb : b = a
   ·exact hb
   ·exact absurd (if_neg hb) z
end L2
namespace L2
open PySem PySem.Spec PyProof.Rows
theorem ue {l : PySem.W.OpenLaw} {n k : Nat} {q : Program} {loose : List Str} {XP : (Str -> Option Value) -> Heap -> Prop} {YP : World -> Heap -> Prop} {d : DefRec} {K : Params -> PySem.W.Frag} {CX : World -> CXT} {sp : World -> Sp} {x : Str}
  (hn : l.most = some n) (hn2 : n <= sizeLine) (hdf : d.params.defaults = []) (hr : cj k callerA)
  (hY : ∀ (w : World) (h : Heap), YP w h -> (K w.params).In h)
  (F : ∀ (w : World) (mg : Str -> Option Value) (fa : Addr) (h : Heap), (K w.params).In h -> h.Ns mainGlobals mg -> mg d.name = some (.ref fa) ->
   ∃ fd : FuncData, (∀ (s : Shared) (u : Value), BindsTo s fd ⟨[u], []⟩ [(x, u)]) /\
    ∀ base : Heap, (K w.params).In base -> base.Ns mainGlobals mg -> gC l.prog w (K w.params) mg base (CX w) k fa fd [x] (sp w))
  (hsp : ∀ (w : World) (H : Hp) (a : Addr) (ns : List Int), ns.length <= n -> Only H -> SqL (K w.params) H a (ns.map V.int) -> sp w [.ref a] H (fun v _ => v = .bl true) fun _ _ _ => False)
  (hCX : ∀ (w : World) (H : Hp) (s : Shared) (e : Value) (s' : Shared), CX w [] H s (fun _ _ _ => False) e s' -> False) :
  PySem.W.WalkO q loose XP YP l.row.toRowW d [] (fun f vs => PySem.call f vs) := by
 refine Att.kX hn hdf fun w s₀ s₁ mg mb fa o pm cd doc a vs ns G Y ho hd hcd hmg hobj hints hlen hg => ?_
 have KX := hY w _ Y
 obtain ⟨fd, hb, hF⟩ := F w mg fa _ KX G.T.g hmg
 exact qw KX G.T.g G.T.b G.T.builtins G.T.nolimit hg hobj hints (Nat.le_trans hlen hn2) hr hF hb (fun H hO hS => hsp w H a ns hlen hO hS) fun H e s' => hCX w H s₁ e s'
end L2
namespace L2
open PySem PySem.Spec PyProof.Rows
def cz (s : Stmt) : Arguments := match s with
 | .FunctionDef _ a _ _ _ _ _ _ _ _ => a
 | _ => { posonlyargs := [], args := [], vararg := none, kwonlyargs := [], kw_defaults := [], kwarg := none, defaults := [] }
def bu (s : Stmt) : List Stmt := match s with
 | .FunctionDef _ _ b _ _ _ _ _ _ _ => b
 | _ => []
def aj (s : Stmt) : Scope := match s with
 | .FunctionDef _ _ _ _ _ _ sc _ _ _ => sc
 | _ => { kind := .function, names := [], isGenerator := false, isCoroutine := false }
abbrev CX0 : CXT := fun _ _ _ _ _ _ => False
abbrev E0 : XK := fun _ _ _ => False
theorem AZ {X : Cx} : mr CX0 X E0 := fun _ _ _ _ _ _ _ h => h.elim
structure Fun (K : PySem.W.Frag) (x qual : Str) (st : Stmt) (f : Addr) (fd : FuncData) : Prop where
 ex : ∃ (oc : Value) (od : Option Addr) (kV doc pm : Value) (an : Option Addr) (cdv ct : Value) (osl : Array (Option Value)),
  fd = PySem.W.fnOf x qual (cz st) (bu st) (aj st) .none kV doc pm an cdv ct /\ K.lookup f = some ⟨oc, od, .func fd, osl⟩ /\ PySem.W.codeIn K cdv qual = true
 kp : PySem.W.keepIn K (.ref f) = true
section
variable {P : Program} {w : World} {K : PySem.W.Frag} {mg : Str -> Option Value} {base : Heap}
theorem Fun.ok {x qual : Str} {st : Stmt} {f : Addr} {fd : FuncData} {N ps : List Str} {k : Nat} {sp : Sp} (F : Fun K x qual st f fd) (S : aK N ps (aj st)) (len : ∀ vs H Q E, sp vs H Q E -> vs.length = ps.length)
  (hbody : ∀ (cdv : Value) (A : Around) (outer : List Env) (s : Shared) (H : Hp) (vs : List V) (Q : VK) (E : XK), cj k (A.deeper (envOfC qual (aj st) s.heap.objs.size f cdv)) -> sp vs H Q E ->
   ∃ t, PSs (gE CX0 P w K mg base N qual (aj st) f cdv A outer s H E).nox (bu st) t /\ t { nx := fun _ H' => Q .non H', rt := Q } (start N vs) H) : gC P w K mg base CX0 (k + 1) f fd ps sp := by
 obtain ⟨oc, od, kV, doc, pm, an, cdv, ct, osl, rfl, lk, hcd⟩ := F.ex
 refine wH lk hcd S len fun A outer s H vs Q E hr hsp => ?_
 obtain ⟨t, h, q⟩ := hbody cdv A outer s H vs Q E hr hsp
 exact ⟨t, h.nox, q⟩
theorem Fun.binds {x qual : Str} {st : Stmt} {f : Addr} {fd : FuncData} {ps : List Str} (F : Fun K x qual st f fd)
  (h : ∀ (kV doc pm : Value) (an : Option Addr) (cdv ct : Value) (us : List Value), us.length = ps.length -> bindArgs (PySem.W.fnOf x qual (cz st) (bu st) (aj st) .none kV doc pm an cdv ct) ⟨us, []⟩ = pure (ps.zip us)) : Binds K fd ps [] := by
 obtain ⟨oc, od, kV, doc, pm, an, cdv, ct, osl, rfl, lk, hcd⟩ := F.ex
 exact .all (h kV doc pm an cdv ct)
theorem ym {x qual : Str} {st : Stmt} {f : Addr} {oc : Value} {od an : Option Addr} {osl : Array (Option Value)} {kV doc pm cdv ct : Value} (l : K.lookup f = some ⟨oc, od, .func (PySem.W.fnOf x qual (cz st) (bu st) (aj st) .none kV doc pm an cdv ct), osl⟩)
  (c : PySem.W.codeIn K cdv qual = true) (k : PySem.W.keepIn K (.ref f) = true) : Fun K x qual st f (PySem.W.fnOf x qual (cz st) (bu st) (aj st) .none kV doc pm an cdv ct) := ⟨⟨oc, od, kV, doc, pm, an, cdv, ct, osl, rfl, l, c⟩, k⟩
end
section
variable {X : Cx}
theorem pv (i : Nat) {x : Str} {pos : Pos} (hN : X.N[i]? = some x := by rfl) (hv : Vis X.env.scope x := by first | exact Or.inl rfl | exact Or.inr (Or.inl rfl) | exact Or.inr (Or.inr rfl)) (hd : (x == ("__debug__" : Str)) = false := by decide)
  (hcd : (x == ("__classdict__" : Str)) = false := by decide) : PE X (.Name x pos) (di i) := mf hN hv hd hcd
end
end L2
section
namespace L2
open PySem PySem.Spec PyProof.Rows
theorem hU : bootBuiltins "int" = some (.type "int") := by decide +kernel
theorem nk : bootBuiltins "bool" = some (.type "bool") := by decide +kernel
theorem jU : bootBuiltins "list" = some (.type "list") := by decide +kernel
theorem kY : bootBuiltins "tuple" = some (.type "tuple") := by decide +kernel
theorem cR : bootBuiltins "len" = some (.builtin "len") := by decide +kernel
theorem mz : bootBuiltins "abs" = some (.builtin "abs") := by decide +kernel
theorem aL : bootBuiltins "isinstance" = some (.builtin "isinstance") := by decide +kernel
def Has (P : Program) (w : World) (K : PySem.W.Frag) (mg : Str -> Option Value) (base : Heap) (k : Nat) (x : Str) (ps : List Str) (sp : Sp) : Prop :=
 ∃ (f : Addr) (fd : FuncData), gC P w K mg base CX0 k f fd ps sp /\ mg x = some (.ref f) /\ PySem.W.keepIn K (.ref f) = true /\ Binds K fd ps [] /\ ∃ (oc : Value) (od : Option Addr) (osl : Array (Option Value)), K.lookup f = some ⟨oc, od, .func fd, osl⟩
theorem nr {X : Cx} {j k : Nat} {x : Str} {ps : List Str} {sp : Sp} {e : Expr} {es : List Expr} {t : TA} {p pos : Pos} (E : Has X.prog X.w X.K X.mg X.base k x ps sp) (hr : cj j X.A) (ha : PA X (e :: es) t)
  (hk : k <= j := by decide) (hg : Gl X x := by rfl) (hdb : (x == ("__debug__" : Str)) = false := by decide) (he : starEach (e :: es) X.env = (false, eval e X.env) :: starEach es X.env := by rfl)
  (hpl : (backTo pos (starEach es X.env)).any (·.1) = false := by rfl) : PE X (.Call (.Name x p) (e :: es) [] pos) (jh sp [] E0 t) := by
 obtain ⟨f, fd, F, hm, kp, hb, _⟩ := E
 exact t8 F (hr.mono hk) hg hm kp hb .nil AZ ha hdb he hpl
def Src (K : PySem.W.Frag) (mg : Str -> Option Value) (x : Str) (st : Stmt) : Prop := ∃ (f : Addr) (fd : FuncData), Fun K x x st f fd /\ mg x = some (.ref f)
theorem Src.has {P : Program} {w : World} {K : PySem.W.Frag} {mg : Str -> Option Value} {base : Heap} {x : Str} {st : Stmt} {N ps : List Str} {k : Nat} {sp : Sp} (S : Src K mg x st) (sc : aK N ps (aj st))
  (hb : ∀ (kV doc pm : Value) (an : Option Addr) (cdv ct : Value) (us : List Value), us.length = ps.length -> bindArgs (PySem.W.fnOf x x (cz st) (bu st) (aj st) .none kV doc pm an cdv ct) ⟨us, []⟩ = pure (ps.zip us))
  (len : ∀ vs H Q E, sp vs H Q E -> vs.length = ps.length)
  (hbody : ∀ (f : Addr) (cdv : Value) (A : Around) (outer : List Env) (s : Shared) (H : Hp) (vs : List V) (Q : VK) (E : XK), cj k (A.deeper (envOfC x (aj st) s.heap.objs.size f cdv)) -> sp vs H Q E ->
   ∃ t, PSs (gE CX0 P w K mg base N x (aj st) f cdv A outer s H E).nox (bu st) t /\ t { nx := fun _ H' => Q .non H', rt := Q } (start N vs) H) : Has P w K mg base (k + 1) x ps sp := by
 obtain ⟨f, fd, F, hm⟩ := S
 exact ⟨f, fd, F.ok sc len fun cdv A outer s H vs Q E hr h => hbody f cdv A outer s H vs Q E hr h, hm, F.kp, F.binds hb, by obtain ⟨oc, od, kV, doc, pm, an, cdv, ct, osl, _, lk, _⟩ := F.ex; exact ⟨oc, od, osl, lk⟩⟩
theorem br {K : PySem.W.Frag} {h : Heap} {mg : Str -> Option Value} {x : Str} {st : Stmt} {f : Addr} {oc : Value} {od an : Option Addr} {osl : Array (Option Value)} {kV doc pm cdv ct : Value} (X : K.In h) (G : h.Ns mainGlobals mg)
  (a : PySem.W.nsIn K mainGlobals x = some (some (.ref f))) (l : K.lookup f = some ⟨oc, od, .func (PySem.W.fnOf x x (cz st) (bu st) (aj st) .none kV doc pm an cdv ct), osl⟩)
  (c : PySem.W.codeIn K cdv x = true) (k : PySem.W.keepIn K (.ref f) = true) : Src K mg x st := ⟨f, _, ym l c k, PySem.W.mg_of X G a⟩
theorem uf {P : Program} {w : World} {K : PySem.W.Frag} {mg : Str -> Option Value} {k : Nat} {st : Stmt} {fa : Addr} {x : Str} {sp : Sp} (S : Src K mg "law" st) (hfa : mg "law" = some (.ref fa))
  (hb : ∀ (kV doc pm : Value) (an : Option Addr) (cdv ct : Value) (v : Value), bindArgs (PySem.W.fnOf "law" "law" (cz st) (bu st) (aj st) .none kV doc pm an cdv ct) ⟨[v], []⟩ = pure [(x, v)])
  (all : ∀ base : Heap, Has P w K mg base k "law" [x] sp) :
  ∃ fd : FuncData, (∀ (s : Shared) (v : Value), BindsTo s fd ⟨[v], []⟩ [(x, v)]) /\ ∀ base : Heap, K.In base -> base.Ns mainGlobals mg -> gC P w K mg base CX0 k fa fd [x] sp := by
 obtain ⟨f, fd, F, hm⟩ := S
 have e := hfa.symm.trans hm
 cases e
 obtain ⟨oc, od, kV, doc, pm, an, cdv, ct, osl, rfl, lk, _⟩ := F.ex
 refine ⟨_, fun s v => .of_eq (hb kV doc pm an cdv ct v), fun base _ _ => ?_⟩
 obtain ⟨f', fd', G', hm', _, _, oc', od', osl', lk'⟩ := all base
 have e := hm.symm.trans hm'
 cases e
 rw [lk] at lk'
 injection lk' with e1
 injection e1 with _ _ e2 _
 injection e2 with e3
 rw [e3]
 exact G'
def tH (ms : List Int) : Int := reduceHash (Builtin.Tuple.tupleHashOf (ms.map hashInt))
def Dh (x : List Int × Addr × Value) : DictEntry := ⟨tH x.1, .ref x.2.1, x.2.2⟩
abbrev EV : List (List Int × Addr × V) -> List (List Int × Addr × Value) -> Prop := Paired fun p q => p.1 = q.1 /\ p.2.1 = q.2.1 /\ RelV p.2.2 q.2.2
def DctP (a : Addr) (es : List (List Int × Addr × V)) (h : Heap) : Prop :=
 es.length <= sizeLine /\ (a == sysModules) = false /\ (es.map (·.1)).Nodup /\ ∃ xs, EV es xs /\ ∃ o ds ep, h.get? a = some o /\ o.ExactDict /\ o.data = .dict ds ep /\ ds.toList = xs.map Dh
def gG (a : Addr) (ob : Obj) (es : List (List Int × Addr × V)) : HO := .ext fun h => DctP a es h /\ h.get? a = some ob
theorem DctP.ok {P : Program} {w : World} {H : Hp} {h : Heap} {a : Addr} {ob : Obj} {es : List (List Int × Addr × V)} (d : DctP a es h) (q : h.get? a = some ob) : bp P w H h a (gG a ob es) :=
 ⟨⟨d, q⟩, ⟨ob, q⟩, fun _ _ zt1 k => by obtain ⟨⟨z, m, nd, xs, ev, o, ds, ep, e, r⟩, q⟩ := zt1; exact ⟨⟨z, m, nd, xs, ev, o, ds, ep, k o e, r⟩, k ob q⟩⟩
theorem ug {X : Cx} {pins : List (Addr × Obj)} {σ : St} {H : Hp} {s : Shared} {a : Addr} {ob : Obj} {es : List (List Int × Addr × V)} (I : Inv X pins σ H s) (e : H a = some (gG a ob es)) : DctP a es s.heap /\ s.heap.get? a = some ob :=
 (show bp X.prog X.w H s.heap a (.ext fun h => DctP a es h /\ h.get? a = some ob) from I.hok a _ e).1
theorem nu {X : Cx} {pins : List (Addr × Obj)} {σ : St} {H : Hp} {s : Shared} {a : Addr} {ob : Obj} {es : List (List Int × Addr × V)} (I : Inv X pins σ H s) (e : H a = some (gG a ob es)) : DctP a es s.heap := (ug I e).1
inductive TyO (K : PySem.W.Frag) (H : Hp) : V -> String -> Prop where
 | non : TyO K H .non "NoneType"
 | bl (x : Bool) : TyO K H (.bl x) "bool"
 | int (i : Int) : TyO K H (.int i) "int"
 | str (x : Str) : TyO K H (.str x) "str"
 | lst {a : Addr} {xs : List V} (e : SqL K H a xs) : TyO K H (.ref a) "list"
 | tup {a : Addr} {xs : List V} (e : SqT K H a xs) : TyO K H (.ref a) "tuple"
 | dK {a : Addr} {kvs : List (Key × V)} (e : H a = some (.dK kvs)) : TyO K H (.ref a) "dict"
 | dT {a : Addr} {kvs : List (List Key × V)} (e : H a = some (.dT kvs)) : TyO K H (.ref a) "dict"
 | dE {a : Addr} {ob : Obj} {es : List (List Int × Addr × V)} (e : H a = some (gG a ob es)) : TyO K H (.ref a) "dict"
def o9 (t c : String) : Option Bool := PySem.W.kitOne [] (.type t) (.type c)
theorem qx {K : PySem.W.Frag} {t c : String} : PySem.W.kitOne K (.type t) (.type c) = o9 t c := rfl
theorem jV : o9 "int" "int" = some true := by decide +kernel
theorem ja : o9 "int" "bool" = some false := by decide +kernel
def yo (K : PySem.W.Frag) : List V -> Hp -> VK -> Prop := fun xs H Q => ∃ x t c b, xs = [x, .ty c] /\ TyO K H x t /\ o9 t c = some b /\ Q (.bl b) H
theorem qy {X : Cx} : bW X (.builtin "isinstance") (yo X.K) := by
 intro pins s σ H xs us Q I r h
 obtain ⟨x, t, c, b, rfl, ty, e, q⟩ := h
 obtain ⟨u, w', rfl, rx, rc⟩ := vals2 r
 obtain rfl : w' = Value.type c := rc
 have e' : PySem.W.kitOne X.K (.type t) (.type c) = some b := by rw [qx]; exact e
 have fin : ∀ tk, EP X pins σ Q (.bool b) { s with toks := tk } := fun tk => ⟨.bl b, H, I.tok tk, rfl, q⟩
 cases ty with
 | non => exact cO I rx (.non) e' fin
 | bl y => exact cO I rx (.bl y) e' fin
 | int i => exact cO I rx (.int i) e' fin
 | str y => exact cO I rx (.str y) e' fin
 | dK ea => exact cO I rx (.dK ea) e' fin
 | dT ea => exact cO I rx (.dT ea) e' fin
 | @dE a ob es ea =>
  cases rx
  obtain ⟨_, _, _, _, _, o, _, _, h1, h2, _⟩ := nu I ea
  exact PySem.W.kia_one PySem.W.kitx_dict I.kIn ⟨o, h1, h2.1⟩ e' (fun z => nomatch z) fin
 | lst ea =>
  cases rx
  obtain ⟨its, _, pl, _⟩ := I.list ea
  obtain ⟨o, h1, h2, _⟩ := pl.isList
  exact PySem.W.kia_one PySem.W.kitx_list I.kIn ⟨o, h1, h2⟩ e' (fun z => nomatch z) fin
 | tup ea =>
  cases rx
  obtain ⟨its, _, p, _⟩ := I.tuple ea
  obtain ⟨o, h1, h2, _⟩ := p
  exact PySem.W.kia_one PySem.W.kitx_tuple I.kIn ⟨o, h1, h2⟩ e' (fun z => nomatch z) fin
section
variable {X : Cx}
def gI (K : PySem.W.Frag) (H : Hp) (ps : List Addr) (mss : List (List Int)) : Prop := Paired (fun p ms => SqT K H p (List.map V.int ms)) ps mss
end
end L2
end
variable {H : L2.Hp} {vs : List L2.V} {es : List (List Int × PySem.Addr × L2.V)} {σ : L2.St} {pins : List (PySem.Addr × PySem.Obj)} {ix : List Nat} {v : L2.V} {K : PySem.W.Frag} {ns : List Int} {ms : List Int} {mss : List (List Int)} {tg : List PySem.Str} {cs : List PySem.Str} {bo : List Int}
section
namespace L2
open PySem PySem.Spec PyProof.Rows
def bg (env : Env) : List (Str × NameKind) -> List (Str × Addr) -> List (Str × Addr)
 | [], acc => acc
 | (n, k) :: r, acc => bg env r (if (k == NameKind.free) = true then (match env.cells.lookup n with | some c => (n, c) :: acc | none => acc) else acc)
theorem cB {env : Env} : ∀ {l : List (Str × NameKind)} {acc : List (Str × Addr)} {n : Str} {c : Addr}, (n, c) ∈ bg env l acc -> (n, c) ∈ acc \/ env.cells.lookup n = some c
 | [], _, _, _, h => .inl h
 | (m, k) :: r, acc, n, c, h => by
  unfold bg at h
  rcases cB h with h | h
  ·split at h
   ·split at h
    ·rename_i c' e
     rcases List.mem_cons.mp h with h | h
     ·cases h; exact .inr e
     ·exact .inl h
    ·exact .inl h
   ·exact .inl h
  ·exact .inr h
theorem js {env : Env} : ∀ {l : List (Str × NameKind)} {acc : List (Str × Addr)} {p : Str × Addr}, p ∈ acc -> p ∈ bg env l acc
 | [], _, _, h => h
 | (m, k) :: r, acc, p, h => by
  unfold bg
  refine js ?_
  split
  ·split
   ·exact List.mem_cons_of_mem _ h
   ·exact h
  ·exact h
theorem hV {env : Env} : ∀ {l : List (Str × NameKind)} {acc : List (Str × Addr)} {n : Str} {c : Addr}, (n, NameKind.free) ∈ l -> env.cells.lookup n = some c -> (n, c) ∈ bg env l acc
 | (m, k) :: r, acc, n, c, h, e => by
  unfold bg
  rcases List.mem_cons.mp h with h | h
  ·cases h
   refine js ?_
   rw [if_pos (show (NameKind.free == NameKind.free) = true from rfl), e]
   exact List.mem_cons_self
  ·exact hV h e
theorem cellOf_eq {env : Env} {n : Str} {c : Addr} (h : env.cells.lookup n = some c) : cellOf env n = pure c := by
 unfold cellOf
 rw [h]
theorem cS {env : Env} {scope : Scope} (h : ∀ n, (n, NameKind.free) ∈ scope.names -> ∃ c, env.cells.lookup n = some c) : closureFor scope env = pure (bg env scope.names []) := by
 have all : ∀ (l : List (Str × NameKind)) (acc : List (Str × Addr)), (∀ n, (n, NameKind.free) ∈ l -> ∃ c, env.cells.lookup n = some c) ->
   (forIn l acc fun (x : Str × NameKind) (cs : List (Str × Addr)) => (if (x.2 == NameKind.free) = true then (do let c <- cellOf env x.1; pure (ForInStep.yield ((x.1, c) :: cs))) else pure (ForInStep.yield cs) : Sem (ForInStep (List (Str × Addr))))) = pure (bg env l acc) := by
  intro l
  induction l with
  | nil => intro acc _; rfl
  | cons x r ih =>
   intro acc hl
   obtain ⟨n, k⟩ := x
   rw [List.forIn_cons]
   unfold bg
   cases hk : (k == NameKind.free) with
   | true =>
    have hk' : k = NameKind.free := by simpa using hk
    subst hk'
    obtain ⟨c, e⟩ := hl n List.mem_cons_self
    simp only [if_true, cellOf_eq e, pure_bind, e]
    exact ih _ fun m hm => hl m (List.mem_cons_of_mem _ hm)
   | false =>
    simp only [Bool.false_eq_true, if_false, pure_bind]
    exact ih _ fun m hm => hl m (List.mem_cons_of_mem _ hm)
 have q := all scope.names [] h
 unfold closureFor
 first
  | (simp only [bind_pure_comp, map_pure] at q ⊢; rw [q]; rfl)
  | (rw [q]; rfl)
  | exact q
def ak (X : Cx) (scope : Scope) (N : List Str) (C : Addr) (fp : List Addr) (s₀ : Shared) (H₀ : Hp) : Cx :=
 { X with N := N, s₀ := s₀, H₀ := H₀, env := compEnvC scope (bg X.env scope.names []) C X.env, outer := X.stack, stack := X.stack, ex := fp, fn := fun _ => false, pn := [], xe := fun _ _ => False }
def capt (n : Nat) (ix : List Nat) (σ : St) : St := List.replicate n none ++ ix.map fun i => (σ[i]?).getD none
structure aV (X : Cx) (scope : Scope) (tg cs : List Str) (ix : List Nat) : Prop where
 kind : scope.kind = .function
 nocell : ∀ y ∈ scope.names, y.2 ≠ .cell
 names : ∀ y ∈ scope.names, y.2 = .local -> scope.names.lookup y.1 = some .local
 nd : (tg ++ cs).Nodup
 at_ : ix.map (fun i => X.N[i]?) = cs.map some
 free : ∀ x ∈ cs, (x, NameKind.free) ∈ scope.names /\ scope.names.lookup x = some .free
 out : ∀ x, (x, NameKind.free) ∈ scope.names -> X.env.scope.names.lookup x = some .cell \/ X.env.scope.names.lookup x = some .free
theorem fx {f : Str × NameKind -> Str × NameKind} (hf : ∀ p, (f p).1 = p.1) : ∀ (names : List (Str × NameKind)) (x : Str), (names.map f).lookup x = (names.lookup x).map fun k => (f (x, k)).2
 | [], _ => rfl
 | p :: r, x => by
  have e : f p = (p.1, (f p).2) := by rw [<- hf p]
  rw [List.map_cons, e, List.lookup_cons, List.lookup_cons, fx hf r x]
  cases q : x == p.1 with
  | false => rfl
  | true =>
   have z : x = p.1 := by simpa using q
   subst z
   rfl
def freed (env : Env) (p : Str × NameKind) : Bool := p.2 == NameKind.free && env.scope.kind == .function && env.kindOf p.1 == some .cell
theorem cK {env : Env} {names : List (Str × NameKind)} {x : Str} :
  (names.map fun (n, k) => if (k == NameKind.free && env.scope.kind == .function && env.kindOf n == some .cell) then (n, NameKind.cell) else (n, k)).lookup x = (names.lookup x).map fun k => if freed env (x, k) = true then .cell else k := by
 refine (fx (fun p => ?_) names x).trans ?_
 ·dsimp only
  split <;> rfl
 ·congr 1
  funext k
  unfold freed
  dsimp only
  split <;> rfl
theorem cH {env : Env} {names : List (Str × NameKind)} {x : Str} {k : NameKind}
  (h : (names.map fun (n, k) => if (k == NameKind.free && env.scope.kind == .function && env.kindOf n == some .cell) then (n, NameKind.cell) else (n, k)).lookup x = some k) (hk : k = .cell \/ k = .free) (nc : ∀ y ∈ names, y.2 ≠ .cell) : (x, NameKind.free) ∈ names := by
 rw [cK] at h
 cases q : names.lookup x with
 | none => rw [q] at h; cases h
 | some k0 =>
  have hm := PySem.mem_of_lookup q
  suffices z : k0 = .free by rw [<- z]; exact hm
  rw [q] at h
  by_cases c : freed env (x, k0) = true
  ·unfold freed at c
   simp only [Bool.and_eq_true, beq_iff_eq] at c
   exact c.1.1
  ·have h2 : k0 = k := by simpa [c] using h
   rcases hk with e | e
   ·exact absurd (h2.trans e) (nc _ hm)
   ·exact h2.trans e
theorem bN {env : Env} {names : List (Str × NameKind)} {x : Str} (h : names.lookup x = some .free) :
  (names.map fun (n, k) => if (k == NameKind.free && env.scope.kind == .function && env.kindOf n == some .cell) then (n, NameKind.cell) else (n, k)).lookup x = some .cell \/
  (names.map fun (n, k) => if (k == NameKind.free && env.scope.kind == .function && env.kindOf n == some .cell) then (n, NameKind.cell) else (n, k)).lookup x = some .free := by
 rw [cK, h]
 by_cases c : freed env (x, .free) = true
 ·exact .inl (by simp [c])
 ·exact .inr (by simp [c])
section
variable {X : Cx} {pins : List (Addr × Obj)} {σ : St} {H H1 : Hp} {s : Shared}
theorem Inv.track {D : Addr} {o : HO} (I : Inv X pins σ H s) (hn : H D = none) (hs : X.s₀.heap.objs.size <= D) (hL : D ≠ X.env.locals) (hc : ∀ x c, X.env.cells.lookup x = some c -> c ≠ D) (hp : ∀ p ∈ X.pn ++ pins, p.1 ≠ D)
  (new : bp X.prog X.w (upd H D o) s.heap D o) : Inv X pins σ (upd H D o) s := by
 have nb : ∀ b ob, X.s₀.heap.get? b = some ob -> b ≠ D := fun b ob e z => by subst z; exact absurd (Nat.lt_of_lt_of_le (Heap.lt_size e) hs) (Nat.lt_irrefl _)
 refine ⟨I.ok, I.os, I.bare, ⟨I.base.keep, I.base.slot, fun b ob e n hx => ?_, I.base.there, fun b xs e => ?_, fun b ob u e => ?_, fun b ps e => ?_⟩, I.loc, I.cell, ?_, fun x c e => ?_, fun p hpp => ?_, fun b u e => ?_, I.len⟩
 ·rw [au (nb b ob e)]; exact I.base.free b ob e n hx
 ·have q := I.base.tups b xs e
  rw [au (aY q hn)]; exact q
 ·have q := I.base.frzs b ob u e
  rw [au (aY q hn)]; exact q
 ·obtain ⟨more, q⟩ := I.base.tbls b ps e
  exact ⟨more, by rw [au (aY q hn)]; exact q⟩
 ·rw [au hL.symm]; exact I.free
 ·rw [au (hc x c e)]; exact I.freeC x c e
 ·obtain ⟨a, b, c, d, e⟩ := I.pin p hpp
  exact ⟨a, by rw [au (hp p hpp)]; exact b, c, d, e⟩
 ·by_cases hb : b = D
  ·subst hb; rw [aD] at e; cases e; exact new
  ·rw [au hb] at e
   exact (I.hok b u e).stay (fun _ _ _ q => q) (fun c q => by rw [au (aY q hn)]; exact q) fun c xs q => by rw [au (aY q hn)]; exact q
theorem cT {X : Cx} {tg cs : List Str} (hat : ix.map (fun i => X.N[i]?) = cs.map some) {i : Nat} {x : Str} (h1 : (tg ++ cs)[i]? = some x) (h2 : (capt tg.length ix σ)[i]? = some (some v)) :
  x ∈ cs /\ ∃ k : Nat, X.N[k]? = some x /\ σ[k]? = some (some v) := by
 unfold capt at h2
 by_cases hi : i < tg.length
 ·rw [List.getElem?_append_left (by simpa using hi), List.getElem?_replicate, if_pos hi] at h2
  cases h2
 ·rw [List.getElem?_append_right (by simpa using hi), List.length_replicate, List.getElem?_map] at h2
  rw [List.getElem?_append_right (by lia)] at h1
  cases e : ix[i - tg.length]? with
  | none => rw [e] at h2; cases h2
  | some k =>
   rw [e] at h2
   have h2 : (σ[k]?).getD none = some v := Option.some.inj h2
   have q := congrArg (fun l => l[i - tg.length]?) hat
   simp only [List.getElem?_map, e, h1, Option.map_some] at q
   refine ⟨List.mem_of_getElem? h1, k, Option.some.inj q, ?_⟩
   cases z : σ[k]? with
   | none => rw [z] at h2; cases h2
   | some y => rw [z] at h2; exact congrArg some h2
end
def PTs (X : Cx) (ifs : List Expr) (t : TT) : Prop :=
 ∀ (pins : List (Addr × Obj)) (s : Shared) (σ : St) (H : Hp) (Q : Bool -> Hp -> Prop), Inv X pins σ H s -> t σ H Q ->
  wpAny (model X.prog X.w) X.A (forIn ifs true fun c r => if r = true then do let ok <- isTrue c X.env (eval c X.env); pure (ForInStep.yield ok) else pure (ForInStep.yield r)) (TP X pins σ Q) X.xe s
def nv : TT := fun _ H Q => Q true H
theorem ny {X : Cx} : PTs X [] nv := fun _ _ _ H _ I h => wpAny_tests_nil ⟨H, I, h⟩
theorem uh {X : Cx} {c : Expr} {t : TT} (h : PT X c t) : PTs X [c] t := fun pins s σ H Q I hw => wpAny_tests_one (h pins s σ H Q I hw)
def bO (n : Nat) (ix : List Nat) (g : TG) : Prop := ∀ x σ H Q, g x (capt n ix σ) H Q -> g x (capt n ix σ) H fun σ2 H2 => (σ2.length = (capt n ix σ).length /\ ∀ (i : Nat) (v : V), (capt n ix σ)[i]? = some (some v) -> σ2[i]? = some (some v)) /\ Q σ2 H2
theorem eK {n : Nat} {j : Nat} (h : j < n) (e : (capt n ix σ)[j]? = some (some v)) : False := by
 unfold capt at e
 rw [List.getElem?_append_left (by simpa using h), List.getElem?_replicate, if_pos h] at e
 cases e
theorem aG {n : Nat} {j : Nat} (h : j < n) : bO n ix (bq j) := fun x σ H Q q => ⟨⟨by simp, fun i v e => by
 by_cases hi : j = i
 ·subst hi; exact (eK h e).elim
 ·rw [List.getElem?_set_ne hi]; exact e⟩, q⟩
theorem eN {n : Nat} {m j k : Nat} (h : j < n) (h' : k < n) : bO n ix (xZ K m (m5 (bq j) (m5 (bq k) xY))) := fun x σ H Q q => by
 obtain ⟨a, xs, e1, hq, hl, v, r, e2, v', r', e3, e4, q⟩ := q
 refine ⟨a, xs, e1, hq, hl, v, r, e2, v', r', e3, e4, ⟨by simp, fun i v e => ?_⟩, q⟩
 by_cases hi : j = i
 ·subst hi; exact (eK h e).elim
 ·by_cases hk : k = i
  ·subst hk; exact (eK h' e).elim
  ·rw [List.getElem?_set_ne hk, List.getElem?_set_ne hi]; exact e
def dU (wi : TI) (n : Nat) (ix : List Nat) (g : TG) (tc : TT) (te : TE) : TE := fun σ H Q => wi σ H fun J H1 => ∃ W : Nat -> Nat -> List V -> Hp -> Prop, (∃ m, W 0 m [] H1) /\ ∀ i m ys H2, W i m ys H2 ->
 (J.stop i H2 /\ ys.length <= sizeLine /\ ∀ D, H2 D = none -> Q (.ref D) (upd H2 D (.lst ys))) \/
 (J.go i H2 /\ ys.length < sizeLine /\ ∃ Nx : List V -> Hp -> Prop, (∀ ys' H', Nx ys' H' -> ∃ m', m' < m /\ W (i + 1) m' ys' H') /\
  ∀ x H3, J.yld i H2 x H3 -> g x (capt n ix σ) H3 fun σ2 H4 => tc σ2 H4 fun b H5 => if b = true then te σ2 H5 fun v H6 => Nx (ys ++ [v]) H6 else Nx ys H5)
section
variable {X : Cx} {pins : List (Addr × Obj)} {σ : St} {H H1 : Hp} {s : Shared}
theorem fy {scope : Scope} {tg cs : List Str} {fp : List Addr} {s4 : Shared} (S : aV X scope tg cs ix) (I : Inv X pins σ H s) (hf : ∀ b ∈ fp, dY X pins H b) (ho : ∀ b ∈ fp, ∃ o, s.heap.get? b = some o) {C : Addr} (hC : s.heap.objs.size <= C)
  (hk : ∀ b o, s.heap.get? b = some o -> s4.heap.get? b = some o) (hns : s4.heap.Ns C fun _ => none) (os : s4.os = s.os) (bare : AllBare s4.gens) (hn : H C = none) :
  Inv (ak X scope (tg ++ cs) C fp s H) [] (capt tg.length ix σ) H s4 := by
 have clX : ∀ x c, (bg X.env scope.names []).lookup x = some c -> X.env.cells.lookup x = some c := fun x c e => by
  rcases cB (PySem.mem_of_lookup e) with h | h
  ·cases h
  ·exact h
 have hasC : ∀ x, (x, NameKind.free) ∈ scope.names -> ∃ c, (bg X.env scope.names []).lookup x = some c := fun x hx => by
  obtain ⟨c, e⟩ := I.ok.has x (S.out x hx)
  have m := hV (acc := []) hx e
  cases q : (bg X.env scope.names []).lookup x with
  | some c' => exact ⟨c', rfl⟩
  | none =>
   have := List.lookup_eq_none_iff.mp q (x, c) m
   simp at this
 refine ⟨⟨I.ok.mod, ?_, I.ok.glob, I.ok.blt, hC, fun x y c e1 e2 => I.ok.inj x y c (clX x c e1) (clX y c e2), fun x hx => ?_, fun x c h => ?_, I.ok.hd, I.ok.frames, .inl rfl, fun b hb => ⟨?_, fun x c e => ?_⟩, I.bs, Nat.le_trans I.ok.bsz I.sz, fun b o e hb => ?_, fun b hb hx => ?_, I.stack, I.stkFree⟩,
  os, bare, Un.kept hk, ⟨_, hns, fun i x v e1 e2 e3 => ?_⟩, fun x c e => ?_, hn, fun x c e => I.freeC x c (clX x c e), fun p hp => (by cases hp), I.hok.kept hk, ?_⟩
 ·show (relabel scope X.env).kind = .function
  exact S.kind
 ·have hx' : (relabel scope X.env).names.lookup x = some .cell \/ (relabel scope X.env).names.lookup x = some .free := hx
  rcases hx' with h | h
  ·exact hasC x (cH h (.inl rfl) S.nocell)
  ·exact hasC x (cH h (.inr rfl) S.nocell)
 ·cases h
 ·obtain ⟨o, e⟩ := ho b hb
  exact Nat.ne_of_lt (Nat.lt_of_lt_of_le (Heap.lt_size e) hC)
 ·exact (hf b hb).2.2.2.2.1 x c (clX x c e)
 ·obtain ⟨_, _, _, h, _⟩ := hf b hb
  rcases h with h | h
  ·exact I.ok.noex b o e h
  ·exact absurd (Nat.lt_of_lt_of_le (Heap.lt_size (I.ok.bs b o e).1) h) (Nat.lt_irrefl _)
 ·have hx : b ∈ frs X.stack := hx
  obtain ⟨_, h1, h2, _⟩ := hf b hb
  rcases List.mem_cons.mp (I.stkSub b hx) with h | h
  ·exact h1 h
  ·exact h2 h
 ·obtain ⟨hx, k, h1, h2⟩ := cT (X := X) S.at_ e1 e2
  obtain ⟨hx1, hx2⟩ := S.free x hx
  obtain ⟨m, hnm, hl⟩ := I.loc
  have ov := S.out x hx1
  obtain ⟨u, r, l⟩ := hl k x v h1 h2 (by rcases ov with z | z; exact .inr (.inl z); exact .inr (.inr z))
  refine ⟨u, r, ?_⟩
  rcases l with ⟨l, _⟩ | ⟨_, c, lc, ic⟩
  ·have l : X.env.scope.names.lookup x = some .local := l
   rcases ov with z | z <;> rw [z] at l <;> cases l
  ·obtain ⟨c', e'⟩ := hasC x hx1
   have := (clX x c' e').symm.trans lc
   cases this
   refine .inr ⟨bN hx2, c, e', ?_⟩
   obtain ⟨o, ho1, ho2⟩ := ic
   exact ⟨o, hk c o ho1, ho2⟩
 ·obtain ⟨v, o, ho1, ho2⟩ := I.cell x c (clX x c e)
  exact ⟨v, o, hk c o ho1, ho2⟩
 ·show (capt tg.length ix σ).length = (tg ++ cs).length
  have := congrArg List.length S.at_
  simp only [List.length_map] at this
  unfold capt
  simp [this]
theorem jt {use : Option (Value -> Sem Unit)} {Qc : Value -> Shared -> Prop} {pos' : Pos} {elt target iter : Expr} {ifs : List Expr} {scope : Scope} {pos : Pos} {tg cs : List Str} {wi : TI} {g : TG} {tc : TT} {te : TE} (S : aV X scope tg cs ix) (hcalm : X.calm = true) (kg : bO tg.length ix g)
    (hi : PI X target iter wi) (hg : ∀ C fp s H, PG (ak X scope (tg ++ cs) C fp s H) target g) (hc : ∀ C fp s H, PTs (ak X scope (tg ++ cs) C fp s H) ifs tc) (he : ∀ C fp s H, PE (ak X scope (tg ++ cs) C fp s H) elt te)
    (hs : ∀ x, foldedSetIterable iter X.env x = pure x) {pins : List (Addr × Obj)} {s : Shared} {σ : St} {H : Hp} {Q : VK} (I : Inv X pins σ H s) (h : dU wi tg.length ix g tc te σ H Q)
    (fin : ∀ D C H' s' v, Inv X pins σ H' s' -> Q (.ref D) H' -> dY X pins H' C -> (∃ m, s'.heap.Ns C m) -> compPost (model X.prog X.w) X.A X.xe use Qc (.ref D) C (.ok v) s') :
    wpAny (model X.prog X.w) X.A (comprehension (.ListComp elt [⟨target, iter, ifs, 0⟩] scope pos) scope X.env pos' (newList []) false (eval iter X.env) use) Qc X.xe s := by
  refine wpAny_comprehension_free (use := use) (cl := bg X.env scope.names []) rfl hs (cS fun n hn => I.ok.has n (S.out n hn)) S.kind S.names ?_
  refine wpAny_mono (hi pins s σ H _ I h) (fun v s1 h1 => wpAny_mono h1 (fun itv s2 h2 => ?_) fun _ _ e => e) fun _ _ e => e
  obtain ⟨it, fp, tn, J, H2, rfl, I2, T, st2, f2, W, ⟨m0, w0⟩, turn⟩ := h2
  refine wpAny_newObj_type (wpAny_newFunctionEnv S.nocell (by intro y hy; simp at hy) (fun h1 hns1 hsb1 => ?_) S.kind)
  dsimp only at hns1 hsb1 ⊢
  generalize hP : s2.heap.push { cls := .type "list", dict := none, data := .seq ([] : List Value).toArray } = P2 at hns1 hsb1 ⊢
  have hCs : P2.objs.size = s2.heap.objs.size + 1 := by rw [<- hP, Heap.size_push]
  have hDC : s2.heap.objs.size ≠ P2.objs.size := by rw [hCs]; exact Nat.ne_of_lt (Nat.lt_succ_self _)
  have hCle : s2.heap.objs.size <= P2.objs.size := by rw [hCs]; exact Nat.le_succ _
  generalize hCg : P2.objs.size = C at *
  have old : ∀ b o, s2.heap.get? b = some o -> h1.get? b = some o := fun b o e => hsb1.extBut b o (Nat.ne_of_lt (Nat.lt_of_lt_of_le (Heap.lt_size e) hCle)) (Heap.get?_push_of_some _ (hP ▸ Heap.get?_push_of_some _ e))
  generalize hDg : s2.heap.objs.size = D at *
  have hD0 : h1.get? D = some { cls := .type "list", data := .seq ([] : List Value).toArray 0 } := hsb1.extBut _ _ hDC (Heap.get?_push_of_some _ (hP ▸ hDg ▸ Heap.get?_push_size _ rfl))
  have nC : H2 C = none := I2.hok.fresh (by rw [hDg]; exact hCle)
  have nD : H2 D = none := I2.hok.fresh (by rw [hDg]; exact Nat.le_refl _)
  have fo : ∀ b ∈ fp, ∃ o, s2.heap.get? b = some o := fun b hb => let ⟨o, e, _⟩ := T.obj _ _ st2 b hb; ⟨o, e⟩
  have Dfp : D ∉ fp := fun z => by
    obtain ⟨o, e⟩ := fo D z
    have := Heap.lt_size e
    rw [hDg] at this
    exact absurd this (Nat.lt_irrefl _)
  have Dfs : D ∉ frs X.stack := fun z => by
    rcases List.mem_cons.mp (I2.stkSub D z) with e | e
    · have := I2.lt
      rw [<- e, hDg] at this
      exact absurd this (Nat.lt_irrefl _)
    · exact I2.nofs (by rw [hDg]; exact Nat.le_refl _) e
  have DcY : ∀ x c, (bg X.env scope.names []).lookup x = some c -> c ≠ D := fun x c e => by
    rcases cB (PySem.mem_of_lookup e) with h | h
    · cases h
    · exact (I2.fpOk (H' := H2) (b := D) (by rw [hDg]; exact Nat.le_refl _) nD).2.2.2.2.1 x c h
  -- the block's context
  have Yok : ∀ s4 : Shared, s4 = { s2 with heap := h1, toks := s2.toks + ([] : List (Str × Value)).length } -> Inv (ak X scope (tg ++ cs) C fp s2 H2) [] (capt tg.length ix σ) H2 s4 := by
    rintro s4 rfl
    exact fy S I2 f2 fo (by rw [hDg]; exact hCle) old (by simpa using hns1) rfl I2.bare nC
  -- the loop
  have loop : ∀ s4 : Shared, s4 = { s2 with heap := h1, toks := s2.toks + ([] : List (Str × Value)).length } ->
      codeAny (model X.prog X.w) X.A (.compLoop (.ListComp elt [⟨target, iter, ifs, 0⟩] scope pos) 0 (.ref it) (.ref D) (compEnvC scope (bg X.env scope.names []) C X.env)) (compPost (model X.prog X.w) X.A X.xe use Qc (.ref D) C) s4 := by
    intro s4 e4
    refine codeAny_loop rfl (fun n s' => ∃ i ys its k H', Inv (ak X scope (tg ++ cs) C fp s2 H2) [] (capt tg.length ix σ) H' s' /\ tn i s'.heap /\ (∀ b ∈ fp, H' b = none) /\ H' D = none /\ s'.heap.get? D = some { cls := .type "list", data := .seq (its : List Value).toArray k } /\ Vals ys its /\ W i n ys H')
      ?_ m0 ⟨0, [], [], 0, H2, Yok s4 e4, ?_, fun b hb => (f2 b hb).1, nD, by rw [e4]; exact hD0, .nil, w0⟩
    · rintro n s5 ⟨i, ys, its, k, H5, I5, st5, fr5, d5, o5, v5, w5⟩
      show wpAny _ X.A ((compTurn (.ListComp elt [⟨target, iter, ifs, 0⟩] scope pos) 0 (.ref it) (.ref D) (compEnvC scope (bg X.env scope.names []) C X.env)).onRaise (fun x => do noteFrame x (compEnvC scope (bg X.env scope.names []) C X.env); theTreesLotGoes x)) _ _ s5
      refine wpAny_noted ?_
      rw [compTurn_list]
      have pin0 : Inv (ak X scope (tg ++ cs) C fp s2 H2) [(D, { cls := .type "list", data := .seq its.toArray k })] (capt tg.length ix σ) H5 s5 := I5.pins_of fun p hp => by
        have e : p = (D, { cls := .type "list", data := .seq its.toArray k }) := by simpa using hp
        subst e
        exact ⟨o5, d5, hDC, Dfs, fun v z => by have z' : Data.seq _ _ = Data.cell v := z; cases z'⟩
      have fpY : ∀ {H' : Hp}, (∀ b ∈ fp, H' b = none) -> ∀ b ∈ fp, dY (ak X scope (tg ++ cs) C fp s2 H2) [(D, { cls := .type "list", data := .seq its.toArray k })] H' b := fun hn b hb =>
        ⟨hn b hb, (I5.ok.exf b hb).1, fun z => I5.ok.exfs b hb z, .inl hb, (I5.ok.exf b hb).2, fun p hp z => by
          have hp : p ∈ ([] : List (Addr × Obj)) ++ [(D, { cls := .type "list", data := .seq its.toArray k })] := hp
          have e : p = (D, { cls := .type "list", data := .seq its.toArray k }) := by simpa using hp
          subst e
          have z : D = b := z
          exact Dfp (z ▸ hb)⟩
      refine wpAny_bind (wpAny_standAt (wpAny_bind ?_))
      rcases turn i n ys H5 w5 with ⟨stop, hz, qn⟩ | ⟨go, hz, Nx, hN, step⟩
      · refine thn (T.done (ak X scope (tg ++ cs) C fp s2 H2) rfl rfl rfl hcalm i _ s5 _ H5 _ pin0 (fpY fr5) st5 stop) fun r s6 zr1 => ?_
        obtain ⟨hr, I6⟩ := zr1
        subst hr
        refine wpAny_pure ?_
        obtain ⟨mC, hnsC, _⟩ := id I6.loc
        have IX : Inv X pins σ H5 s6 := I2.call' (ch := fp) I6.os I6.base I6.hok I6.bare fun b hb => let ⟨_, a1, _, a3, a4, a5⟩ := f2 b hb; ⟨a3, a1, a4, a5⟩
        obtain ⟨_, b1, _, b3, b4, b5⟩ := I2.fpOk (H' := H5) (b := D) (by rw [hDg]; exact Nat.le_refl _) d5
        obtain ⟨_, c1, c2, c3, c4, c5⟩ := I2.fpOk (H' := H5) (b := C) (by rw [hDg]; exact hCle) I6.free
        have gD : s6.heap.get? D = some { cls := .type "list", data := .seq its.toArray k } := (I6.pin (D, { cls := .type "list", data := .seq its.toArray k }) (List.mem_append_right _ List.mem_cons_self)).1
        have IXD : Inv X pins σ (upd H5 D (.lst ys)) s6 := IX.track d5 (by rw [<- hDg]; exact I2.sz) b1 b4 b5 ⟨hz, its, k, v5, gD⟩
        exact fin D C _ s6 _ IXD (qn D d5) ⟨by rw [au (Ne.symm hDC)]; exact I6.free, c1, c2, c3, c4, c5⟩ ⟨mC, hnsC⟩
      · refine thn (T.item (ak X scope (tg ++ cs) C fp s2 H2) rfl rfl rfl hcalm i _ s5 _ H5 _ pin0 (fpY fr5) st5 go) fun r s6 zr1 => ?_
        obtain ⟨u, hr, h6⟩ := zr1
        subst hr
        refine wpAny_bind (thn h6 fun _ s7 zr1 => ?_)
        obtain ⟨x, H7, I7, r7, y7, st7, fr7⟩ := zr1
        have I7' := I7.pinned (fpY fr7) (T.obj _ _ st7)
        -- the next turn
        have again : ∀ {σ2 : St} {H8 : Hp} {s8 : Shared} {ys' : List V} {its' : List Value} {k' : Nat} , Inv (ak X scope (tg ++ cs) C fp s2 H2) [] σ2 H8 s8 -> (σ2.length = (capt tg.length ix σ).length /\ ∀ (i : Nat) (v : V), (capt tg.length ix σ)[i]? = some (some v) -> σ2[i]? = some (some v)) ->
            (∀ b ∈ fp, ∀ o, s7.heap.get? b = some o -> s8.heap.get? b = some o) -> (∀ b ∈ fp, H8 b = none) -> H8 D = none -> s8.heap.get? D = some { cls := .type "list", data := .seq its'.toArray k' } -> Vals ys' its' -> Nx ys' H8 ->
            ∃ m, m < n /\ ∃ i ys its k H', Inv (ak X scope (tg ++ cs) C fp s2 H2) [] (capt tg.length ix σ) H' s8 /\ tn i s8.heap /\ (∀ b ∈ fp, H' b = none) /\ H' D = none /\ s8.heap.get? D = some { cls := .type "list", data := .seq (its : List Value).toArray k } /\ Vals ys its /\ W i m ys H' := by
          intro σ2 H8 s8 ys' its' k' I8 kp fk fn dn dg vv nx
          obtain ⟨m', hm, w8⟩ := hN ys' H8 nx
          exact ⟨m', hm, i + 1, ys', its', k', H8, I8.weak kp.1.symm kp.2, T.keep _ _ _ st7 fk, fn, dn, dg, vv, w8⟩
        refine wpAny_bind (wpAny_mono (hg C fp s2 H2 _ s7 _ H7 x u _ I7' r7 (kg x σ H7 _ (step x H7 y7))) (fun _ s8 zr1 => ?_) fun _ _ z => z.elim)
        obtain ⟨σ8, H8, I8, kp8, q8⟩ := zr1
        refine wpAny_bind (wpAny_mono (hc C fp s2 H2 _ s8 σ8 H8 _ I8 q8) (fun ok s9 zr1 => ?_) fun _ _ z => z.elim)
        obtain ⟨H9, I9, q9⟩ := zr1
        have pinsOf : ∀ {σ' : St} {H' : Hp} {s' : Shared}, Inv (ak X scope (tg ++ cs) C fp s2 H2) ([(D, { cls := .type "list", data := .seq its.toArray k })] ++ b6 fp s7.heap) σ' H' s' ->
            (∀ b ∈ fp, ∀ o, s7.heap.get? b = some o -> s'.heap.get? b = some o) /\ (∀ b ∈ fp, H' b = none) /\ H' D = none /\ s'.heap.get? D = some { cls := .type "list", data := .seq its.toArray k } := by
          intro σ' H' s' I'
          refine ⟨fun b hb o e => (I'.pin (b, o) (List.mem_append_right _ (List.mem_append_right _ (aQ hb e)))).1, fun b hb => ?_, (I'.pin (D, { cls := .type "list", data := .seq its.toArray k }) (List.mem_append_right _ (List.mem_append_left _ List.mem_cons_self))).2.1, (I'.pin (D, { cls := .type "list", data := .seq its.toArray k }) (List.mem_append_right _ (List.mem_append_left _ List.mem_cons_self))).1⟩
          obtain ⟨o, e, d⟩ := T.obj _ _ st7 b hb
          exact (I'.pin (b, o) (List.mem_append_right _ (List.mem_append_right _ (aQ hb e)))).2.1
        cases ok with
        | false =>
          obtain ⟨p1, p2, p3, p4⟩ := pinsOf I9
          exact wpAny_pure ⟨rfl, again (I9.pins_of fun p hp => nomatch hp) kp8 p1 p2 p3 p4 v5 q9⟩
        | true =>
          have q9 : te σ8 H9 fun v H6 => Nx (ys ++ [v]) H6 := q9
          refine wpAny_bind (wpAny_bind (wpAny_mono (he C fp s2 H2 _ s9 σ8 H9 _ I9 q9) (fun y s10 zr1 => ?_) fun _ _ z => z.elim))
          obtain ⟨v, H10, I10, rv, nx⟩ := zr1
          obtain ⟨p1, p2, p3, p4⟩ := pinsOf I10
          have hl5 := v5.length
          refine wpAny_bind (call_meets F.slot_list_append ⟨_, p4, rfl⟩ F.entry_list_append (F.args_list_append_2 _ _) (PySem.list_append D its.toArray k y (by rw [List.size_toArray]; lia)) ⟨p4, ?_⟩)
          have g10 := PySem.IsL.update p4 (·.push y)
          rw [show its.toArray.push y = (its ++ [y]).toArray by simp] at g10
          have I11 : Inv (ak X scope (tg ++ cs) C fp s2 H2) [] σ8 H10 s10 := I10.pins_of fun p hp => nomatch hp
          have I12 : Inv (ak X scope (tg ++ cs) C fp s2 H2) [] σ8 H10 { s10 with heap := s10.heap.update D (Obj.mapSeq (·.push y)) } :=
            I11.turned (t' := s10.toks) (fun b o hb e => (Heap.get?_update_other s10.heap (Obj.mapSeq (·.push y)) (Ne.symm hb)).trans e) p3 hDC (.inr (by show s2.heap.objs.size <= D; rw [hDg]; exact Nat.le_refl _)) DcY (fun p hp => nomatch hp)
          refine wpAny_pure (wpAny_pure ⟨rfl, again (its' := its ++ [y]) I12 kp8 (fun b hb o e => ?_) p2 p3 g10 (v5.append (.cons rv .nil)) nx⟩)
          exact (Heap.get?_update_other s10.heap (Obj.mapSeq (·.push y)) (fun z : D = b => Dfp (z ▸ hb))).trans (p1 b hb o e)
    · rw [e4]; exact T.keep _ _ _ st2 fun b _ o e => old b o e
  exact codeAny_compStart_list (loop _ rfl) (T.self _ 0 _ _ _ (T.keep _ _ _ st2 fun b _ o e => old b o e) (loop _ rfl))
theorem ui {elt target iter : Expr} {ifs : List Expr} {scope : Scope} {pos : Pos} {tg cs : List Str} {wi : TI} {g : TG} {tc : TT} {te : TE} (S : aV X scope tg cs ix) (hcalm : X.calm = true) (kg : bO tg.length ix g)
  (hi : PI X target iter wi) (hg : ∀ C fp s H, PG (ak X scope (tg ++ cs) C fp s H) target g) (hc : ∀ C fp s H, PTs (ak X scope (tg ++ cs) C fp s H) ifs tc) (he : ∀ C fp s H, PE (ak X scope (tg ++ cs) C fp s H) elt te)
  (hs : ∀ x, foldedSetIterable iter X.env x = pure x := by intro _; rfl) : PE X (.ListComp elt [⟨target, iter, ifs, 0⟩] scope pos) (dU wi tg.length ix g tc te) := by
 intro pins s σ H Q I h
 rw [eval_ListComp]
 refine jt S hcalm kg hi hg hc he hs I h fun D C H' s' v I' q fp z => ?_
 obtain ⟨f0, c1, _, c3, c4, c5⟩ := fp
 obtain ⟨m, hm⟩ := z
 exact ⟨m, hm, fun h' sb => ⟨.ref D, H', I'.turned (t' := s'.toks) (fun b o hb e => (sb.2 b hb).trans e) f0 c1 c3 c4 c5, rfl, q⟩⟩
end
end L2
end
section
namespace Srt
open PySem PySem.W PyProof.Rows
def run {α : Type} (c : Nat -> Nat -> Bool) : KasT α -> α
 | .ret a => a
 | .ask i j k => run c (k (c i j))
theorem run_bind {α β : Type} (c : Nat -> Nat -> Bool) (f : α -> KasT β) : ∀ t : KasT α, run c (t.bind f) = run c (f (run c t))
 | .ret _ => rfl
 | .ask i j k => run_bind c f (k (c i j))
theorem fA {α : Type} {c : Nat -> Nat -> Bool} {p : Prop} [Decidable p] {a b : KasT α} : run c (if p then a else b) = if p then run c a else run c b := by split <;> rfl
def Ok (n : Nat) {α : Type} : KasT α -> Prop
 | .ret _ => True
 | .ask i j k => i < n /\ j < n /\ ∀ b, Ok n (k b)
def AllA {α : Type} (P : α -> Prop) : KasT α -> Prop
 | .ret a => P a
 | .ask _ _ k => ∀ b, AllA P (k b)
theorem eO {n : Nat} {α β : Type} {f : α -> KasT β} (P : α -> Prop) : ∀ {t : KasT α}, Ok n t -> AllA P t -> (∀ a, P a -> Ok n (f a)) -> Ok n (t.bind f)
 | .ret a, _, h, g => g a h
 | .ask i j k, ⟨h1, h2, h3⟩, h, g => ⟨h1, h2, fun b => eO P (h3 b) (h b) g⟩
theorem all_bind {α β : Type} {f : α -> KasT β} {P : α -> Prop} {R : β -> Prop} : ∀ {t : KasT α}, AllA P t -> (∀ a, P a -> AllA R (f a)) -> AllA R (t.bind f)
 | .ret a, h, g => g a h
 | .ask _ _ k, h, g => fun b => all_bind (h b) g
theorem jW {α : Type} {P : α -> Prop} (c : Nat -> Nat -> Bool) : ∀ {t : KasT α}, AllA P t -> P (run c t)
 | .ret _, h => h
 | .ask i j k, h => jW (t := k (c i j)) c (h (c i j))
theorem wp_run {α : Type} {n : Nat} {c : Nat -> Nat -> Bool} {cmp : Nat -> Nat -> (Bool -> Shared -> Prop) -> Shared -> Prop} {s : Shared} (hc : ∀ i j C, i < n -> j < n -> C (c i j) s -> cmp i j C s) {Q : α -> Shared -> Prop} : ∀ {t : KasT α}, Ok n t -> Q (run c t) s -> t.kasWp cmp Q s
 | .ret _, _, h => h
 | .ask i j k, ⟨h1, h2, h3⟩, h => hc i j _ h1 h2 (wp_run hc (h3 (c i j)) h)
def bH (n : Nat) (p : Array Nat) : Prop := p.toList.Perm (List.range n)
theorem bH.size {n : Nat} {p : Array Nat} (h : bH n p) : p.size = n := by have := h.length_eq; simpa using this
theorem bH.lt {n : Nat} {p : Array Nat} (h : bH n p) (hn : 0 < n) (k : Nat) : p.getD k 0 < n := by
 by_cases hk : k < p.size
 ·have : p[k] ∈ List.range n := h.mem_iff.mp (by simp)
  simpa [Array.getD, hk] using this
 ·simpa [Array.getD, hk] using hn
theorem bH.mirror {n : Nat} {p : Array Nat} (h : bH n p) (i j d : Nat) : bH n (mirror p i j d) := (Array.perm_iff_toList_perm.mp (mirror_perm p i j d)).trans h
theorem bH.bubble {n : Nat} {p : Array Nat} (h : bH n p) (i d : Nat) : bH n (bubble p i d) := (Array.perm_iff_toList_perm.mp (bubble_perm p i d)).trans h
theorem mB {n : Nat} (hn : 0 < n) {p : Array Nat} (h : bH n p) : ∀ f k, Ok n (kas_asc p f k)
 | 0, _ => trivial
 | f + 1, k => ⟨h.lt hn _, h.lt hn _, fun b => by cases b <;> simp only [Bool.false_eq_true, if_false, if_true]; exact mB hn h f (k + 1); trivial⟩
theorem gN {n : Nat} (hn : 0 < n) : ∀ f {p : Array Nat} (k q : Nat), bH n p -> Ok n (kas_desc f p k q) /\ AllA (fun r => bH n r.1) (kas_desc f p k q)
 | 0, _, _, _, h => ⟨trivial, h⟩
 | f + 1, p, k, q, h => by
  have a := gN hn f (p := kas_rev p (k - (q + 1)) k) (k + 1) 0 (h.mirror _ _ _)
  have b := gN hn f (p := p) (k + 1) 0 h
  have d := gN hn f (p := p) (k + 1) (q + 1) h
  constructor
  ·refine ⟨h.lt hn _, h.lt hn _, fun c => ?_⟩
   cases c with
   | true => simp only [if_true]; split; exact a.1; exact b.1
   | false =>
    simp only [Bool.false_eq_true, if_false]
    refine ⟨h.lt hn _, h.lt hn _, fun c => ?_⟩
    cases c with
    | true => trivial
    | false => simp only [Bool.false_eq_true, if_false]; exact d.1
  ·intro c
   cases c with
   | true => simp only [if_true]; split; exact a.2; exact b.2
   | false =>
    simp only [Bool.false_eq_true, if_false]
    intro c
    cases c with
    | true => exact h
    | false => simp only [Bool.false_eq_true, if_false]; exact d.2
theorem all_true {α : Type} : ∀ t : KasT α, AllA (fun _ => True) t
 | .ret _ => trivial
 | .ask _ _ k => fun b => all_true (k b)
theorem fB {n : Nat} (hn : 0 < n) {p : Array Nat} (h : bH n p) (a b : Nat) : Ok n (kas_tail3 a b p) /\ AllA (fun r => bH n r.2) (kas_tail3 a b p) :=
 ⟨eO (fun _ => True) (mB hn (h.mirror _ _ _) _ _) (all_true _) fun _ _ => trivial, all_bind (all_true _) fun _ _ => h.mirror _ _ _⟩
theorem cY {n : Nat} (hn : 0 < n) {p : Array Nat} (h : bH n p) (a b : Nat) : Ok n (kas_descPart a b p) /\ AllA (fun r => bH n r.2) (kas_descPart a b p) := by
 have d := gN hn (b - (a + 1)) (a + 1) 0 h
 constructor
 ·refine eO _ d.1 d.2 fun r hr => ?_
  split
  ·exact (fB hn (hr.mirror _ _ _) _ _).1
  ·exact (fB hn hr _ _).1
 ·refine all_bind d.2 fun r hr => ?_
  split
  ·exact (fB hn (hr.mirror _ _ _) _ _).2
  ·exact (fB hn hr _ _).2
theorem kZ {n : Nat} (hn : 0 < n) {p : Array Nat} (h : bH n p) (m : Nat) : Ok n (kas_count m p) /\ AllA (fun r => bH n r.2) (kas_count m p) := by
 constructor
 ·refine eO (fun _ => True) (mB hn h _ _) (all_true _) fun k _ => ?_
  split
  ·trivial
  ·split
   ·refine ⟨h.lt hn _, h.lt hn _, fun c => ?_⟩
    cases c with
    | true => trivial
    | false => simp only [Bool.false_eq_true, if_false]; exact (cY hn (h.mirror _ _ _) _ _).1
   ·exact (cY hn h _ _).1
 ·refine all_bind (all_true _) fun k _ => ?_
  split
  ·exact h
  ·split
   ·intro c
    cases c with
    | true => exact h
    | false => simp only [Bool.false_eq_true, if_false]; exact (cY hn (h.mirror _ _ _) _ _).2
   ·exact (cY hn h _ _).2
theorem hZ {n : Nat} (hn : 0 < n) {p : Array Nat} (h : bH n p) (k : Nat) : ∀ f l r, Ok n (kas_place p k f l r)
 | 0, _, _ => trivial
 | f + 1, l, r => by
  unfold kas_place
  split
  ·trivial
  ·exact ⟨h.lt hn _, h.lt hn _, fun b => by cases b <;> simp only [Bool.false_eq_true, if_false, if_true]; exact hZ hn h k f _ _; exact hZ hn h k f _ _⟩
theorem jX {n : Nat} (hn : 0 < n) : ∀ f {p : Array Nat} (k : Nat), bH n p -> Ok n (kas_bin f p k) /\ AllA (bH n) (kas_bin f p k)
 | 0, _, _, h => ⟨trivial, h⟩
 | f + 1, p, k, h => ⟨eO (fun _ => True) (hZ hn h k _ _ _) (all_true _) fun l _ => (jX hn f (k + 1) (h.bubble _ _)).1, all_bind (all_true _) fun l _ => (jX hn f (k + 1) (h.bubble _ _)).2⟩
theorem ia (n : Nat) : bH n (List.toArray (List.range n)) := by unfold bH; simp
theorem nA {n : Nat} (hn : 0 < n) : Ok n (kas_sort n) /\ AllA (bH n) (kas_sort n) := by
 have d := kZ hn (ia n) n
 constructor
 ·refine eO _ d.1 d.2 fun r hr => ?_
  split
  ·exact (jX hn _ _ hr).1
  ·trivial
 ·refine all_bind d.2 fun r hr => ?_
  split
  ·exact (jX hn _ _ hr).2
  ·exact hr
section
variable {O : KeyOrd} (key : Nat -> O.α)
def KP (p : Array Nat) (i : Nat) : O.α := key (p.getD i 0)
def cmpOf (i j : Nat) : Bool := O.blt (key i) (key j)
def bS (p : Array Nat) (k : Nat) : Prop := ∀ i j, i <= j -> j < k -> O.kle (KP key p i) (KP key p j)
def FallP (p : Array Nat) (k : Nat) : Prop := ∀ i j, i <= j -> j < k -> O.kle (KP key p j) (KP key p i)
variable {key}
theorem eg {p q : Array Nat} {i j : Nat} (h : p[i]? = q[j]?) : KP key p i = KP key q j := by
 unfold KP
 rw [Array.getD_eq_getD_getElem?, Array.getD_eq_getD_getElem?, h]
theorem mD {p : Array Nat} {i j : Nat} (hj : j <= p.size) (k : Nat) : KP key (kas_rev p i j) k = if i <= k /\ k < j then KP key p (i + j - 1 - k) else KP key p k := by
 have e := getElem?_mirror_all (i := i) hj k
 unfold kas_rev
 split
 ·rename_i h; rw [if_pos h] at e; exact eg e
 ·rename_i h; rw [if_neg h] at e; exact eg e
theorem dD {p : Array Nat} {i j : Nat} (hj : j <= p.size) (h : ∀ k, i <= k -> k < j -> KP key p k = KP key p (j - 1)) (k : Nat) : KP key (kas_rev p i j) k = KP key p k := by
 rw [mD hj]
 split
 ·rw [h _ (by lia) (by lia), h k (by lia) (by lia)]
 ·rfl
theorem jY {p : Array Nat} : ∀ (f n : Nat), 1 <= n -> bS key p n -> n <= run (cmpOf key) (kas_asc p f n) /\ run (cmpOf key) (kas_asc p f n) <= n + f /\ bS key p (run (cmpOf key) (kas_asc p f n)) /\
  (run (cmpOf key) (kas_asc p f n) < n + f -> O.klt (KP key p (run (cmpOf key) (kas_asc p f n))) (KP key p (run (cmpOf key) (kas_asc p f n) - 1)))
 | 0, n, _, h => ⟨Nat.le_refl _, Nat.le_refl _, h, fun z => absurd z (by show ¬ n < n + 0; lia)⟩
 | f + 1, n, h1, h => by
  have e : run (cmpOf key) (kas_asc p (f + 1) n) = if cmpOf key (p.getD n 0) (p.getD (n - 1) 0) = true then n else run (cmpOf key) (kas_asc p f (n + 1)) := by
   show run (cmpOf key) (if cmpOf key (p.getD n 0) (p.getD (n - 1) 0) = true then KasT.ret n else kas_asc p f (n + 1)) = _
   rw [fA]; rfl
  rw [e]
  split
  ·rename_i hc
   exact ⟨Nat.le_refl _, by lia, h, fun _ => hc⟩
  ·rename_i hc
   have hle : O.kle (KP key p (n - 1)) (KP key p n) := KeyOrd.kle_of_not_klt hc
   have hs : bS key p (n + 1) := fun i j hij hj => by
    by_cases hjn : j = n
    ·subst hjn
     by_cases hij' : i = j
     ·subst hij'; exact KeyOrd.kle_refl _
     ·exact KeyOrd.kle_trans (h i (j - 1) (by lia) (by lia)) hle
    ·exact h i j hij (by lia)
   obtain ⟨a, b, c, d⟩ := jY f (n + 1) (by lia) hs
   exact ⟨by lia, by lia, c, fun z => d (by lia)⟩
structure jZ (key : Nat -> O.α) (n₀ n f : Nat) (r : Array Nat × Nat × Nat) : Prop where
 lo : n <= r.2.1
 hi : r.2.1 <= n + f
 q : r.2.2 + 1 <= r.2.1
 sz : r.1.size = n₀
 fall : FallP key r.1 r.2.1
 eq : ∀ k, r.2.1 - (r.2.2 + 1) <= k -> k < r.2.1 -> KP key r.1 k = KP key r.1 (r.2.1 - 1)
theorem uj (c : Nat -> Nat -> Bool) (f : Nat) (p : Array Nat) (n q : Nat) : run c (kas_desc (f + 1) p n q) = if c (p.getD n 0) (p.getD (n - 1) 0) = true then (if q > 0 then run c (kas_desc f (kas_rev p (n - (q + 1)) n) (n + 1) 0) else run c (kas_desc f p (n + 1) 0))
    else if c (p.getD (n - 1) 0) (p.getD n 0) = true then (p, n, q) else run c (kas_desc f p (n + 1) (q + 1)) := by
  show run c (if c (p.getD n 0) (p.getD (n - 1) 0) = true then (if q > 0 then kas_desc f (kas_rev p (n - (q + 1)) n) (n + 1) 0 else kas_desc f p (n + 1) 0)
      else .ask (p.getD (n - 1) 0) (p.getD n 0) fun d => if d = true then .ret (p, n, q) else kas_desc f p (n + 1) (q + 1)) = _
  rw [fA, fA]
  congr 1
  show run c (if c (p.getD (n - 1) 0) (p.getD n 0) = true then KasT.ret (p, n, q) else kas_desc f p (n + 1) (q + 1)) = _
  rw [fA]
  rfl
theorem fC {n₀ : Nat} : ∀ (f : Nat) {p : Array Nat} (n q : Nat), 1 <= n -> q + 1 <= n -> p.size = n₀ -> n + f <= n₀ -> FallP key p n -> (∀ k, n - (q + 1) <= k -> k < n -> KP key p k = KP key p (n - 1)) ->
  jZ key n₀ n f (run (cmpOf key) (kas_desc f p n q))
 | 0, p, n, q, h1, hq, hz, hb, hf, he => ⟨Nat.le_refl _, Nat.le_refl _, hq, hz, hf, he⟩
 | f + 1, p, n, q, h1, hq, hz, hb, hf, he => by
  rw [uj]
  have up : ∀ {r}, jZ key n₀ (n + 1) f r -> jZ key n₀ n (f + 1) r := fun d => ⟨by have := d.lo; lia, by have := d.hi; lia, d.q, d.sz, d.fall, d.eq⟩
  by_cases hc : cmpOf key (p.getD n 0) (p.getD (n - 1) 0) = true
  ·rw [if_pos hc]
   have hlt : O.klt (KP key p n) (KP key p (n - 1)) := hc
   have hf1 : FallP key p (n + 1) := fun i j hij hj => by
    by_cases hjn : j = n
    ·subst hjn
     by_cases hij' : i = j
     ·subst hij'; exact KeyOrd.kle_refl _
     ·exact KeyOrd.kle_trans (KeyOrd.kle_of_klt hlt) (hf i (j - 1) (by lia) (by lia))
    ·exact hf i j hij (by lia)
   by_cases hq0 : q > 0
   ·rw [if_pos hq0]
    have ek := dD (key := key) (p := p) (i := n - (q + 1)) (j := n) (by lia) he
    have hf2 : FallP key (kas_rev p (n - (q + 1)) n) (n + 1) := fun i j hij hj => by rw [ek, ek]; exact hf1 i j hij hj
    exact up (fC f (p := kas_rev p (n - (q + 1)) n) (n + 1) 0 (by lia) (by lia) (by show (mirror p _ _ _).size = _; rw [mirror_size]; exact hz) (by lia) hf2 (fun k hk1 hk2 => by rw [show k = n + 1 - 1 by lia]))
   ·rw [if_neg hq0]
    exact up (fC f (p := p) (n + 1) 0 (by lia) (by lia) hz (by lia) hf1 (fun k hk1 hk2 => by rw [show k = n + 1 - 1 by lia]))
  ·rw [if_neg hc]
   by_cases hd : cmpOf key (p.getD (n - 1) 0) (p.getD n 0) = true
   ·rw [if_pos hd]
    exact ⟨Nat.le_refl _, by show n <= n + (f + 1); lia, hq, hz, hf, he⟩
   ·rw [if_neg hd]
    have e1 : KP key p n = KP key p (n - 1) := by
     refine O.total _ _ ?_ ?_
     ·cases z : O.blt (KP key p n) (KP key p (n - 1)) with
      | false => rfl
      | true => exact absurd z hc
     ·cases z : O.blt (KP key p (n - 1)) (KP key p n) with
      | false => rfl
      | true => exact absurd z hd
    have hf1 : FallP key p (n + 1) := fun i j hij hj => by
     by_cases hjn : j = n
     ·subst hjn
      by_cases hij' : i = j
      ·subst hij'; exact KeyOrd.kle_refl _
      ·rw [e1]; exact hf i (j - 1) (by lia) (by lia)
     ·exact hf i j hij (by lia)
    exact up (fC f (p := p) (n + 1) (q + 1) (by lia) (by lia) hz (by lia) hf1 (fun k hk1 hk2 => by
     rw [Nat.add_sub_cancel, e1]
     by_cases hkn : k = n
     ·rw [hkn, e1]
     ·exact he k (by lia) (by lia)))
theorem ju {p : Array Nat} {n nrem : Nat} (h1 : 1 <= n) (hn : n <= nrem) (hz : p.size = nrem) (hf : FallP key p n) :
  (run (cmpOf key) (kas_tail3 n nrem p)).1 <= nrem /\ 1 <= (run (cmpOf key) (kas_tail3 n nrem p)).1 /\ bS key (run (cmpOf key) (kas_tail3 n nrem p)).2 (run (cmpOf key) (kas_tail3 n nrem p)).1 := by
 unfold kas_tail3
 rw [run_bind]
 have hs : bS key (kas_rev p 0 n) n := fun i j hij hj => by
  rw [mD (by lia), mD (by lia), if_pos ⟨by lia, by lia⟩, if_pos ⟨by lia, hj⟩]
  exact hf _ _ (by lia) (by lia)
 obtain ⟨a, b, c, _⟩ := jY (key := key) (p := kas_rev p 0 n) (nrem - n) n h1 hs
 exact ⟨by show run _ (kas_asc _ _ _) <= _; lia, by show 1 <= run _ (kas_asc _ _ _); lia, c⟩
theorem fD {p : Array Nat} {n nrem : Nat} (h1 : 1 <= n) (hn : n + 1 <= nrem) (hz : p.size = nrem) (hf : FallP key p (n + 1)) :
  (run (cmpOf key) (kas_descPart n nrem p)).1 <= nrem /\ 1 <= (run (cmpOf key) (kas_descPart n nrem p)).1 /\ bS key (run (cmpOf key) (kas_descPart n nrem p)).2 (run (cmpOf key) (kas_descPart n nrem p)).1 := by
 unfold kas_descPart
 rw [run_bind]
 obtain ⟨a, b, c, d, e, f⟩ := fC (key := key) (n₀ := nrem) (nrem - (n + 1)) (p := p) (n + 1) 0 (by lia) (by lia) hz (by lia) hf (fun k hk1 hk2 => by rw [show k = n + 1 - 1 by lia])
 split
 ·have ek := dD (key := key) (j := (run (cmpOf key) (kas_desc (nrem - (n + 1)) p (n + 1) 0)).2.1) (by rw [d]; lia) f
  exact ju (by lia) (by lia) (by show (mirror _ _ _ _).size = _; rw [mirror_size]; exact d) fun i j hij hj => by rw [ek, ek]; exact e i j hij hj
 ·exact ju (by lia) (by lia) d e
theorem pb {p : Array Nat} {n : Nat} (h2 : 1 <= n) (hz : p.size = n) :
  (run (cmpOf key) (kas_count n p)).1 <= n /\ 1 <= (run (cmpOf key) (kas_count n p)).1 /\ bS key (run (cmpOf key) (kas_count n p)).2 (run (cmpOf key) (kas_count n p)).1 := by
 unfold kas_count
 rw [run_bind]
 obtain ⟨a, b, c, d⟩ := jY (key := key) (p := p) (n - 1) 1 (Nat.le_refl _) (fun i j hij hj => by rw [show i = j by lia]; exact KeyOrd.kle_refl _)
 generalize run (cmpOf key) (kas_asc p (n - 1) 1) = m at *
 split
 ·rename_i hm
  have hm : m = n := by simpa using hm
  exact ⟨by show m <= n; lia, a, c⟩
 ·rename_i hm
  have hm : m < n := by
   have : ¬ m = n := by simpa using hm
   lia
  have hlt := d (by lia)
  split
  ·rename_i hm1
   show (run (cmpOf key) (if cmpOf key (p.getD 0 0) (p.getD (m - 1) 0) = true then KasT.ret (m, p) else kas_descPart m n (kas_rev p 0 m))).1 <= n /\ 1 <= (run (cmpOf key) (if cmpOf key (p.getD 0 0) (p.getD (m - 1) 0) = true then KasT.ret (m, p) else kas_descPart m n (kas_rev p 0 m))).1 /\
    bS key (run (cmpOf key) (if cmpOf key (p.getD 0 0) (p.getD (m - 1) 0) = true then KasT.ret (m, p) else kas_descPart m n (kas_rev p 0 m))).2 (run (cmpOf key) (if cmpOf key (p.getD 0 0) (p.getD (m - 1) 0) = true then KasT.ret (m, p) else kas_descPart m n (kas_rev p 0 m))).1
   by_cases hc : cmpOf key (p.getD 0 0) (p.getD (m - 1) 0) = true
   ·rw [if_pos hc]
    exact ⟨by show m <= n; lia, a, c⟩
   ·rw [if_neg hc]
    -- all of the run are equal
    have hle : O.kle (KP key p (m - 1)) (KP key p 0) := KeyOrd.kle_of_not_klt hc
    have eq : ∀ k, 0 <= k -> k < m -> KP key p k = KP key p (m - 1) := fun k _ hk =>
     KeyOrd.kle_antisymm (c k (m - 1) (by lia) (by lia)) (KeyOrd.kle_trans hle (c 0 k (by lia) hk))
    have ek := dD (key := key) (p := p) (i := 0) (j := m) (by lia) eq
    refine fD a (by lia) (by show (mirror _ _ _ _).size = _; rw [mirror_size]; exact hz) fun i j hij hj => ?_
    rw [ek, ek]
    by_cases hjm : j = m
    ·subst hjm
     by_cases hij' : i = j
     ·subst hij'; exact KeyOrd.kle_refl _
     ·rw [eq i (by lia) (by lia)]; exact KeyOrd.kle_of_klt hlt
    ·rw [eq i (by lia) (by lia), eq j (by lia) (by lia)]; exact KeyOrd.kle_refl _
  ·have hm1 : m = 1 := by lia
   subst hm1
   refine fD (Nat.le_refl _) (by lia) hz fun i j hij hj => ?_
   by_cases hj1 : j = 1
   ·subst hj1
    by_cases hi : i = 1
    ·subst hi; exact KeyOrd.kle_refl _
    ·have : i = 1 - 1 := by lia
     rw [this]; exact KeyOrd.kle_of_klt hlt
   ·have h1 : i = 0 := by lia
    have h2 : j = 0 := by lia
    subst h1 h2; exact KeyOrd.kle_refl _
theorem fV {p : Array Nat} {k : Nat} (hs : bS key p k) : ∀ (f l r : Nat), l <= r -> r <= k -> r - l <= f -> (∀ i, i < l -> O.kle (KP key p i) (KP key p k)) -> (∀ i, r <= i -> i < k -> O.klt (KP key p k) (KP key p i)) ->
    run (cmpOf key) (kas_place p k f l r) <= k /\ (∀ i, i < run (cmpOf key) (kas_place p k f l r) -> O.kle (KP key p i) (KP key p k)) /\ (∀ i, run (cmpOf key) (kas_place p k f l r) <= i -> i < k -> O.klt (KP key p k) (KP key p i))
  | 0, l, r, h1, h2, h3, h4, h5 => ⟨by show l <= k; lia, h4, fun i hi hk => h5 i (Nat.le_trans (by lia : r <= l) hi) hk⟩
  | f + 1, l, r, h1, h2, h3, h4, h5 => by
    unfold kas_place
    split
    · exact ⟨by show l <= k; lia, h4, fun i hi hk => h5 i (Nat.le_trans (by lia : r <= l) hi) hk⟩
    · rename_i hlr
      have e : run (cmpOf key) (KasT.ask (p.getD k 0) (p.getD ((l + r) / 2) 0) fun c => if c = true then kas_place p k f l ((l + r) / 2) else kas_place p k f ((l + r) / 2 + 1) r) =
          if cmpOf key (p.getD k 0) (p.getD ((l + r) / 2) 0) = true then run (cmpOf key) (kas_place p k f l ((l + r) / 2)) else run (cmpOf key) (kas_place p k f ((l + r) / 2 + 1) r) := fA
      rw [e]
      split
      · rename_i hc
        refine fV hs f l ((l + r) / 2) (by lia) (by lia) (by lia) h4 fun i hi hk => ?_
        exact KeyOrd.klt_of_klt_of_kle hc (hs _ _ hi hk)
      · rename_i hc
        refine fV hs f ((l + r) / 2 + 1) r (by lia) h2 (by lia) (fun i hi => ?_) h5
        exact KeyOrd.kle_trans (hs i ((l + r) / 2) (by lia) (by lia)) (KeyOrd.kle_of_not_klt hc)
theorem nB {n : Nat} : ∀ (f : Nat) {p : Array Nat} (k : Nat), p.size = n -> k + f <= n -> 1 <= k -> bS key p k -> bS key (run (cmpOf key) (kas_bin f p k)) (k + f)
 | 0, p, k, _, _, _, hs => hs
 | f + 1, p, k, hz, hk, h1, hs => by
  unfold kas_bin
  rw [run_bind]
  obtain ⟨a, b, c⟩ := fV hs k 0 k (by lia) (by lia) (by lia) (fun i hi => by lia) (fun i h1 h2 => by lia)
  generalize run (cmpOf key) (kas_place p k k 0 k) = l at *
  have ekk : ∀ i, KP key (bubble p k (k - l)) i = if i = l then KP key p k else if l < i /\ i <= k then KP key p (i - 1) else KP key p i := fun i => by
   have e := getElem?_bubble (xs := p) (src := k) (by lia) (k - l) (by lia) i
   rw [show k - (k - l) = l by lia] at e
   split
   ·rename_i h; rw [if_pos h] at e; exact eg e
   ·rename_i h
    rw [if_neg h] at e
    split
    ·rename_i h'; rw [if_pos h'] at e; exact eg e
    ·rename_i h'; rw [if_neg h'] at e; exact eg e
  have r := nB (n := n) f (p := bubble p k (k - l)) (k + 1) (by rw [bubble_size]; exact hz) (by lia) (by lia) (fun i j hij hj => by
   rw [ekk, ekk]
   by_cases hi : i = l
   ·rw [if_pos hi]
    by_cases hj' : j = l
    ·rw [if_pos hj']; exact KeyOrd.kle_refl _
    ·rw [if_neg hj', if_pos ⟨by lia, by lia⟩]
     exact KeyOrd.kle_of_klt (c (j - 1) (by lia) (by lia))
   ·rw [if_neg hi]
    by_cases hli : l < i
    ·rw [if_pos ⟨hli, by lia⟩, if_neg (by lia), if_pos ⟨by lia, by lia⟩]
     exact hs _ _ (by lia) (by lia)
    ·rw [if_neg (by lia)]
     by_cases hj' : j = l
     ·rw [if_pos hj']; exact b i (by lia)
     ·rw [if_neg hj']
      by_cases hlj : l < j
      ·rw [if_pos ⟨hlj, by lia⟩]; exact hs _ _ (by lia) (by lia)
      ·rw [if_neg (by lia)]; exact hs _ _ hij (by lia))
  rw [show k + 1 + f = k + (f + 1) by lia] at r
  exact r
theorem qz {n : Nat} (h2 : 1 <= n) : bS key (run (cmpOf key) (kas_sort n)) n := by
 unfold kas_sort
 rw [run_bind]
 have pc := jW (cmpOf key) (kZ h2 (ia n) n).2
 obtain ⟨a, b, c⟩ := pb (key := key) (p := (List.range n).toArray) h2 (by simp)
 generalize run (cmpOf key) (kas_count n (List.range n).toArray) = r at *
 split
 ·have q := nB (key := key) (n := n) (n - max r.1 1) (p := r.2) (max r.1 1) pc.size (by lia) (by lia) (by rw [show max r.1 1 = r.1 by lia]; exact c)
  rw [show max r.1 1 + (n - max r.1 1) = n by lia] at q
  exact q
 ·have : r.1 = n := by lia
  rw [<- this]; exact c
end
end Srt
end
section
namespace L2
open PySem PySem.Spec PyProof.Rows
theorem lex_irrefl : ∀ a : List Int, HT.lexLt a a = false
 | [] => rfl
 | x :: r => by rw [HT.cq, if_pos rfl]; exact lex_irrefl r
theorem lex_trans : ∀ a b c : List Int, HT.lexLt a b = true -> HT.lexLt b c = true -> HT.lexLt a c = true
 | [], _, [], h1, h2 => by
  rename_i b
  cases b with
  | nil => exact h1
  | cons y r => cases h2
 | [], _, _ :: _, _, _ => rfl
 | x :: r, [], _, h1, _ => by cases h1
 | x :: r, y :: t, [], _, h2 => by cases h2
 | x :: r, y :: t, z :: u, h1, h2 => by
  rw [HT.cq] at *
  by_cases e1 : x = y
  ·rw [if_pos e1] at h1
   by_cases e2 : y = z
   ·rw [if_pos e2] at h2
    rw [if_pos (e1.trans e2)]
    exact lex_trans r t u h1 h2
   ·rw [if_neg e2] at h2
    rw [if_neg (by lia)]
    rw [e1]; exact h2
  ·rw [if_neg e1] at h1
   have h1 := of_decide_eq_true h1
   by_cases e2 : y = z
   ·rw [if_neg (by lia)]
    exact decide_eq_true (by lia)
   ·rw [if_neg e2] at h2
    have h2 := of_decide_eq_true h2
    rw [if_neg (by lia)]
    exact decide_eq_true (by lia)
theorem eP : ∀ a b : List Int, HT.lexLt a b = false -> HT.lexLt b a = false -> a = b
 | [], [], _, _ => rfl
 | [], _ :: _, h, _ => by cases h
 | _ :: _, [], _, h => by cases h
 | x :: r, y :: t, h1, h2 => by
  rw [HT.cq] at *
  by_cases e : x = y
  ·rw [if_pos e] at h1
   rw [if_pos e.symm] at h2
   rw [e, eP r t h1 h2]
  ·rw [if_neg e] at h1
   rw [if_neg (Ne.symm e)] at h2
   have h1 := of_decide_eq_false h1
   have h2 := of_decide_eq_false h2
   lia
theorem fE : ∀ a b c : List Int, HT.lexLt a c = true -> HT.lexLt a b = true \/ HT.lexLt b c = true := fun a b c h => by
 cases h1 : HT.lexLt a b with
 | true => exact .inl rfl
 | false =>
  right
  cases h2 : HT.lexLt b a with
  | true => exact lex_trans b a c h2 h
  | false => rw [<- eP a b h1 h2]; exact h
def lexOrd : KeyOrd := ⟨List Int, HT.lexLt, lex_irrefl, lex_trans, fE, eP⟩
def lexLe (a b : List Int) : Bool := !HT.lexLt b a
theorem lf (a b c : List Int) (h1 : lexLe a b = true) (h2 : lexLe b c = true) : lexLe a c = true := by
 unfold lexLe at *
 cases h : HT.lexLt c a with
 | false => rfl
 | true =>
  rcases fE c b a h with z | z
  ·rw [z] at h2; cases h2
  ·rw [z] at h1; cases h1
theorem gq (a b : List Int) : (lexLe a b || lexLe b a) = true := by
 unfold lexLe
 cases h : HT.lexLt b a with
 | false => rfl
 | true =>
  cases h' : HT.lexLt a b with
  | false => rfl
  | true => have := lex_trans a b a h' h; rw [lex_irrefl] at this; cases this
theorem ib (a b : List Int) (h1 : lexLe a b = true) (h2 : lexLe b a = true) : a = b := by
 unfold lexLe at *
 exact eP a b (by simpa using h2) (by simpa using h1)
def srt (l : List (List Int)) : List (List Int) := l.mergeSort lexLe
theorem lg (l : List (List Int)) : (srt l).Perm l := List.mergeSort_perm l lexLe
theorem ig (l : List (List Int)) : (srt l).Pairwise (fun a b => lexLe a b = true) := List.pairwise_mergeSort (le := lexLe) lf gq l
theorem eV : ∀ {a b : List (List Int)}, a.Perm b -> a.Pairwise (fun a b => lexLe a b = true) -> b.Pairwise (fun a b => lexLe a b = true) -> a = b
 | [], b, p, _, _ => (List.perm_nil.mp p.symm).symm
 | x :: r, [], p, _, _ => by have := p.length_eq; simp at this
 | x :: r, y :: t, p, ha, hb => by
  rw [List.pairwise_cons] at ha hb
  have e : x = y := by
   have hx : x ∈ y :: t := p.mem_iff.mp List.mem_cons_self
   have hy : y ∈ x :: r := p.mem_iff.mpr List.mem_cons_self
   rcases List.mem_cons.mp hx with h | h
   ·exact h
   ·rcases List.mem_cons.mp hy with h' | h'
    ·exact h'.symm
    ·exact ib x y (ha.1 y h') (hb.1 x h)
  subst e
  rw [eV (List.Perm.cons_inv p) ha.2 hb.2]
theorem j2 {a l : List (List Int)} (p : a.Perm l) (h : a.Pairwise (fun a b => lexLe a b = true)) : a = srt l := eV (p.trans (lg l).symm) h (ig l)
section
variable {X : Cx} {pins : List (Addr × Obj)} {σ : St} {H : Hp} {s : Shared}
theorem Inv.kept_led {h' : Heap} {m : Str -> Option Value} (I : Inv X pins σ H s) (F' : Fr X.base X.env.locals h' m) (N' : News X.base X.env.locals h' (bQ X.base s.heap X.env.locals)) : ∀ b o, b ≠ X.env.locals -> s.heap.get? b = some o -> h'.get? b = some o := fun b o hb e => by
 cases q : X.base.get? b with
 | some u =>
  have := I.bk b u q
  rw [e] at this; cases this
  exact F'.keep b _ q
 | none => exact (N' (b, o) (dZ hb q e)).1
theorem Inv.led {h' : Heap} {m : Str -> Option Value} {t' : Nat} (I : Inv X pins σ H s) (hm : s.heap.Ns X.env.locals m) (F' : Fr X.base X.env.locals h' m) (N' : News X.base X.env.locals h' (bQ X.base s.heap X.env.locals)) :
  Inv X pins σ H { s with heap := h', toks := t' } := by
 have k := I.kept_led F' N'
 refine I.step (g' := s.gens) (d' := s.drawn) (ch := []) (fun _ z => nomatch z) (fun b o hb _ _ e _ => k b o hb e) (fun b o hb _ _ e _ => ⟨o.slots, k b o hb e⟩) (fun _ _ _ _ n => n) (fun b o _ e => ?_) (fun _ _ e => e) (fun _ _ _ e => e) (fun b ps e => ⟨#[], by rw [e]; simp⟩) (fun m' hm' => ?_) (fun b u e => ?_) I.bare
 ·by_cases hb : b = X.env.locals
  ·obtain ⟨o', _, _, ho, _⟩ := F'.ns
   exact ⟨o', by rw [hb]; exact ho⟩
  ·exact ⟨o, k b o hb e⟩
 ·have em : m' = m := by
   obtain ⟨o, es, ep, ho, hd, _, hf⟩ := hm
   obtain ⟨o2, es2, ep2, ho2, hd2, _, hf2⟩ := hm'
   rw [ho] at ho2; cases ho2
   rw [hd] at hd2; cases hd2
   funext x
   rw [<- hf x, <- hf2 x]
  rw [em]; exact F'.ns
 ·refine (I.hok b u e).stay (fun c v hc q => k c v ?_ q) (fun _ q => q) fun _ _ q => q
  rcases hc with z | z
  ·rw [z]; exact aY e I.free
  ·exact aY z I.free
end
section
variable {prog : Program} {w : World} {A : Around} {E : Value -> Shared -> Prop} {s : Shared}
theorem qA {a : Addr} {vs : List Value} {n : Nat} {R : PySem.Fin -> Shared -> Prop} (ho : s.heap.get? a = some (seqObj "list" vs.toArray n)) (hf : vs.length < 2)
  (h : R (.done (.ret .none)) { s with heap := sortedHeap s.heap a vs vs.toArray }) : wpAny (model prog w) A (Builtin.«list.sort» ⟨[.ref a], []⟩) R E s := by
 have hlt : a < s.heap.objs.size := Heap.lt_size ho
 have few : vs.toArray.size < 2 := by rw [List.size_toArray]; exact hf
 have hz : vs.length <= sizeLine := by rw [sizeLine_eq]; lia
 obtain ⟨e, he⟩ : ∃ e, (s.heap.update a (Obj.mapSeq fun _ => #[])).get? a = some (seqObj "list" #[] e) := ⟨_, get?_update_seq ho (fun _ => #[])⟩
 rw [list_sort_plain]
 refine wpAny_bind (listItems_at ho rfl (wpAny_bind (listUpdate_at ho rfl (wpAny_bind (seqEpoch_at he rfl (wpAny_bind (wpAny_newTuple (wpAny_bind (wpAny_newList (wpAny_holding ?_))) (hsz := hz))))) (by rw [List.size_toArray]; lia))))
 have he2 : (((s.heap.update a (Obj.mapSeq fun _ => #[])).push (seqObj "tuple" vs.toArray 0)).push (seqObj "list" #[] 0)).get? a = some (seqObj "list" #[] e) := Heap.get?_push_of_some _ (Heap.get?_push_of_some _ he)
 dsimp only
 rw [if_pos few, if_pos few]
 refine wpAny_bind (wpAny_pure ?_); rw [StateT.run_pure]; refine wpAny_bind (wpAny_pure ?_); dsimp only
 have em : Array.map (fun x : Value × Value => x.2) (arrOf (SortSt.mk' general' (vs.toArray.zip vs.toArray) #[] 7 none)) = vs.toArray := by
  show Array.map (fun x : Value × Value => x.2) (vs.toArray.zip vs.toArray) = vs.toArray
  apply Array.ext <;> simp
 refine wpAny_bind (seqEpoch_at he2 rfl (wpAny_bind (listUpdate_at he2 rfl ?_ (hsz2 := by rw [em, List.size_toArray]; lia))))
 rw [em]
 simp only [bne_self_eq_false, Bool.false_eq_true, if_false]
 exact wpAny_pure h
theorem mE {l : Addr} {vs : List Value} {Q : Value -> Shared -> Prop} (hl : s.heap.IsList l vs.toArray) (hf : vs.length < 2) (h : Q (.ref (s.heap.objs.size + 1)) { s with heap := sortedAll s.heap vs vs.toArray }) : wpAny (model prog w) A (call (.builtin "sorted") [.ref l]) Q E s := by
 have hz : vs.length <= sizeLine := by rw [sizeLine_eq]; lia
 have z1 : ((s.heap.push (seqObj "list" #[] 0)).update s.heap.objs.size (Obj.mapSeq (· ++ vs.toArray))).objs.size = s.heap.objs.size + 1 := by rw [Heap.size_update, size_push']
 have z2 : (((s.heap.push (seqObj "list" #[] 0)).update s.heap.objs.size (Obj.mapSeq (· ++ vs.toArray))).push (seqObj "list" vs.toArray 0)).get? (s.heap.objs.size + 1) = some (seqObj "list" vs.toArray 0) := z1 ▸ Heap.get?_push_size _ rfl
 have col := fun R r => collect_list (prog := prog) (w := w) (A := A.in1) (E := E) (Q := R) hl r hz
 refine Calls.call_function_entry kind_sorted plain_sorted entry_sorted (args_sorted1 _) (wpAny_bind (m := checkCount "sorted" 1 1 _) (wpAny_pure (wpAny_bind (m := collect (.ref l)) (col _ (wpAny_bind (wpAny_newList ?_ (hsz := hz)))))))
 dsimp only
 rw [z1]
 refine wpAny_bind (wpAny_holding (wpAny_call_entry slot_list_sort ⟨_, z2, rfl⟩ entry_list_sort (qA z2 hf ⟨_, rfl, wpAny_pure ⟨_, rfl, h⟩⟩) (args_list_sort _)))
end
section
variable {X : Cx} {pins : List (Addr × Obj)} {σ : St} {H : Hp} {s : Shared}
theorem Inv.trackN {D : Addr} {o : HO} (I : Inv X pins σ H s) (hn : H D = none) (hs : X.s₀.heap.get? D = none) (hL : D ≠ X.env.locals) (hc : ∀ x c, X.env.cells.lookup x = some c -> c ≠ D) (hp : ∀ p ∈ X.pn ++ pins, p.1 ≠ D)
  (new : bp X.prog X.w (upd H D o) s.heap D o) : Inv X pins σ (upd H D o) s := by
 have nb : ∀ b ob, X.s₀.heap.get? b = some ob -> b ≠ D := fun b ob e z => by subst z; rw [hs] at e; cases e
 have nt : ∀ b u, H b = some u -> b ≠ D := fun b u e => aY e hn
 refine ⟨I.ok, I.os, I.bare, ⟨I.base.keep, I.base.slot, fun b ob e n hx => by rw [au (nb b ob e)]; exact I.base.free b ob e n hx, I.base.there, fun b xs e => ?_, fun b ob u e => ?_, fun b ps e => ?_⟩, I.loc, I.cell, by rw [au hL.symm]; exact I.free, fun x c e => by rw [au (hc x c e)]; exact I.freeC x c e, fun p hpp => ?_, fun b u e => ?_, I.len⟩
 ·have q := I.base.tups b xs e
  rw [au (nt b _ q)]; exact q
 ·have q := I.base.frzs b ob u e
  rw [au (nt b _ q)]; exact q
 ·obtain ⟨more, q⟩ := I.base.tbls b ps e
  exact ⟨more, by rw [au (nt b _ q)]; exact q⟩
 ·obtain ⟨a, b, c, d, e⟩ := I.pin p hpp
  exact ⟨a, by rw [au (hp p hpp)]; exact b, c, d, e⟩
 ·by_cases hb : b = D
  ·subst hb; rw [aD] at e; cases e; exact new
  ·rw [au hb] at e
   exact (I.hok b u e).stay (fun _ _ _ q => q) (fun c q => by rw [au (nt c _ q)]; exact q) fun c xs q => by rw [au (nt c _ q)]; exact q
theorem uk {prog : Program} {w : World} {A : Around} {Q : Bool -> Shared -> Prop} : ∀ (ns ms : List Int) {us vs : List Value} (i : Nat) {fin : Bool}, Vals (ns.map V.int) us -> Vals (ms.map V.int) vs -> fin = decide (us.length < vs.length) -> Q (HT.lexLt ns ms) s ->
  PySem.W.KatLex prog w A true fin Q (us.zip vs) i s := by
 intro ns
 induction ns with
 | nil =>
  intro ms us vs i fin r r' hf h
  have r : Vals [] us := r
  cases r
  cases ms with
  | nil =>
   have r' : Vals [] vs := r'
   cases r'
   subst hf
   exact h
  | cons m ms =>
   have r' : Vals (V.int m :: ms.map V.int) vs := r'
   cases r' with
   | cons a b =>
    subst hf
    exact h
 | cons n ns ih =>
  intro ms us vs i fin r r' hf h
  have r : Vals (V.int n :: ns.map V.int) us := r
  cases r with
  | cons q1 t =>
   cases ms with
   | nil =>
    have r' : Vals [] vs := r'
    cases r'
    subst hf
    exact h
   | cons m ms =>
    have r' : Vals (V.int m :: ms.map V.int) vs := r'
    cases r' with
    | cons q2 t' =>
     obtain ⟨tk, rfl⟩ := q1
     obtain ⟨tk', rfl⟩ := q2
     rw [HT.cq] at h
     rw [List.zip_cons_cons]
     refine PySem.W.kat_cons (SeqAt.EqAt.int_int n tk m tk' prog w _ _ ?_)
     by_cases e : n = m
     ·rw [if_pos e] at h
      rw [show (n == m) = true by simpa using e]
      refine PySem.W.kat_yes (ih ms (i + 1) t t' ?_ h)
      rw [hf]
      simp
     ·rw [if_neg e] at h
      rw [show (n == m) = false by simpa using e]
      refine PySem.W.kat_no ?_
      by_cases hi : i = 0
      ·subst hi
       exact oneLt_int h
      ·rw [show (true && i == 0) = false by simp [hi]]
       exact PySem.W.kat_one _ _ (lt_int (show PySem.W.BoolBack _ (Value.bool _) _ from h))
theorem yp {A : Around} {E : Value -> Shared -> Prop} {a b : Addr} {ns ms : List Int} {Q : Bool -> Shared -> Prop} (I : Inv X pins σ H s) (ha : SqT X.K H a (ns.map V.int)) (hb : SqT X.K H b (ms.map V.int)) (h : Q (HT.lexLt ns ms) s) :
  wpAny (model X.prog X.w) A (keyLt' (tuples' true) (.ref a) (.ref b)) Q E s := by
 obtain ⟨us, r, ⟨o, ho, _, n, hd⟩, _⟩ := I.tuple ha
 obtain ⟨vs, r', ⟨o', ho', _, n', hd'⟩, _⟩ := I.tuple hb
 refine PySem.W.kat_lt ho hd ho' hd' (uk ns ms 0 r r' ?_ h)
 simp
theorem qB {h : Heap} {p : Addr} {its : List Value} (hne : ms ≠ []) (r : Vals (ms.map V.int) its) (ht : IsTup h p its.toArray) : ∃ (f : Value) (o : Obj) (n : Nat), (∃ i t, f = Value.int i t) /\ h.get? p = some o /\ o.cls = .type "tuple" /\ o.data = .seq its.toArray n /\ its.toArray[0]? = some f := by
 obtain ⟨o, ho, hc, n, hd⟩ := ht
 cases ms with
 | nil => exact absurd rfl hne
 | cons m ms =>
  have r : Vals (V.int m :: ms.map V.int) its := r
  cases r with
  | cons r1 r2 =>
   obtain ⟨t, rfl⟩ := r1
   exact ⟨_, o, n, ⟨m, t, rfl⟩, ho, hc, hd, by simp⟩
theorem mF {h : Heap} (hT : ∀ a xs, SqT X.K H a xs -> ∃ its : List Value, Vals xs its /\ IsTup h a its.toArray) {ps : List Addr} (ht : gI X.K H ps mss) : (∀ ms ∈ mss, ms ≠ []) ->
  ∃ fs : List Value, PySem.W.KatTups h (ps.map Value.ref) fs /\ fs.length = ps.length /\ ∀ v ∈ fs, ∃ i t, v = Value.int i t := by
 unfold gI at ht
 induction ht with
 | nil => exact fun _ => ⟨[], trivial, rfl, (fun _ h => nomatch h)⟩
 | cons hp t ih =>
  intro hne
  obtain ⟨fs, h1, h2, h3⟩ := ih fun m hm => hne m (List.mem_cons_of_mem _ hm)
  obtain ⟨its, r, tt⟩ := hT _ _ hp
  obtain ⟨f, o, n, hi, ho, hc, hd, h0⟩ := qB (hne _ List.mem_cons_self) r tt
  refine ⟨f :: fs, PySem.W.KatTups.cons ho hc hd h0 h1, by simp [h2], fun v hv => ?_⟩
  rcases List.mem_cons.mp hv with rfl | hv
  ·exact hi
  ·exact h3 v hv
theorem jv : ∀ {ps : List Addr} {us : List Value}, Vals (ps.map V.ref) us -> us = ps.map Value.ref
 | [], _, .nil => rfl
 | p :: ps, _, .cons r t => by
  rw [jv t]
  cases r
  rfl
theorem jw : ∀ (ps : List Addr), Vals (ps.map V.ref) (ps.map Value.ref)
 | [] => .nil
 | p :: ps => .cons rfl (jw ps)
theorem gI.get : ∀ {ps : List Addr} {mss : List (List Int)}, gI K H ps mss -> ∀ i, i < ps.length -> SqT K H (ps.getD i 0) ((mss.getD i []).map V.int)
 | _, _, .cons h t, 0, _ => h
 | _, _, .cons h t, i + 1, hi => by simpa using gI.get t i (by simpa using hi)
theorem gI.pick {ps : List Addr} (h : gI K H ps mss) : ∀ {is : List Nat}, (∀ i ∈ is, i < ps.length) -> gI K H (is.map fun i => ps.getD i 0) (is.map fun i => mss.getD i [])
 | [], _ => .nil
 | i :: is, hi => .cons (h.get i (hi i List.mem_cons_self)) (h.pick fun j hj => hi j (List.mem_cons_of_mem _ hj))
end
def qC (K : PySem.W.Frag) : List V -> Hp -> VK -> Prop := fun xs H Q => ∃ (l : Addr) (ps : List Addr) (mss : List (List Int)), xs = [.ref l] /\ SqL K H l (ps.map V.ref) /\ gI K H ps mss /\ (∀ ms ∈ mss, ms ≠ []) /\ mss.length < 64 /\
 ∀ (D : Addr) (ps' : List Addr), H D = none -> gI K H ps' (srt mss) -> Q (.ref D) (upd H D (.lst (ps'.map V.ref)))
theorem ij {α : Type} (l : List α) (d : α) : (List.range l.length).map (fun i => l.getD i d) = l := by
 apply List.ext_getElem
 ·simp
 ·intro i h1 h2
  simp at h1
  simp [h1]
end L2
end
section
namespace L2
open PySem PySem.Spec PyProof.Rows
theorem bp.there {P : Program} {w : World} {h : Heap} {a : Addr} {o : HO} (x : bp P w H h a o) : ∃ ob, h.get? a = some ob := by
 cases o with
 | lst xs => obtain ⟨_, _, _, _, e⟩ := x; exact ⟨_, e⟩
 | tup xs => obtain ⟨_, _, _, ob, e, _⟩ := x; exact ⟨_, e⟩
 | dK kvs => obtain ⟨_, _, _, _, o, _, _, e, _⟩ := x; exact ⟨_, e⟩
 | dT kvs => obtain ⟨_, _, _, _, o, _, _, e, _⟩ := x; exact ⟨_, e⟩
 | set S n => obtain ⟨o, _, _, _, e, _⟩ := x; exact ⟨_, e⟩
 | ins C dx fs => obtain ⟨_, _, _, e, _⟩ := x; exact ⟨_, e⟩
 | own y => exact x
 | xd fs => obtain ⟨_, ⟨_, _, _, e, _⟩, _⟩ := x; exact ⟨_, e⟩
 | rng lo hi => obtain ⟨_, _, _, e⟩ := x; exact ⟨_, e⟩
 | frz ob u => obtain ⟨e, _⟩ := x; exact ⟨_, e⟩
 | tbl ps => exact ⟨_, x⟩
 | met f y => exact ⟨_, x⟩
 | ext φ => exact x.2.1
theorem mG {X : Cx} (hex : X.ex = []) : bW X (.builtin "sorted") (qC X.K) := by
 intro pins s σ H xs us Q I r h
 obtain ⟨l, ps, mss, rfl, hl, ht, hne, h64, q⟩ := h
 obtain ⟨u, rfl, rx⟩ := vals1 r
 cases rx
 obtain ⟨vs, rv, pl, hz⟩ := I.list hl
 have hlen : ps.length = mss.length := Paired.length ht
 have evs := jv rv
 subst evs
 by_cases h2 : ps.length < 2
 ·refine mE pl.isList (by simpa using h2) ?_
  obtain ⟨e, he⟩ := sortedAll_at s.heap (ps.map Value.ref) (ps.map Value.ref).toArray
  have es : srt mss = mss := (j2 (List.Perm.refl _) (by
   match mss, hlen with
   | [], _ => exact List.Pairwise.nil
   | [_], _ => simp
   | _ :: _ :: _, hl => simp at hl; lia)).symm
  refine ⟨.ref (s.heap.objs.size + 1), _, I.laid (t' := s.toks) (o := .lst (ps.map V.ref)) (fun b o e => sortedAll_old e) (Nat.le_succ _) ⟨hz, _, e, rv, he⟩, rfl, q _ ps (I.hok.fresh (Nat.le_succ _)) (by rw [es]; exact ht)⟩
 ·obtain ⟨m, F⟩ := I.fr
  refine PySem.W.kat_sorted (news := bQ X.base s.heap X.env.locals) F d7 pl.isList (by simp; lia) (by simp; lia) fun D e1 h' F' N' hlt => ?_
  have N1 : News X.base X.env.locals h' (bQ X.base s.heap X.env.locals) := fun p hp => N' p (List.mem_cons_of_mem _ hp)
  have I1 : Inv X pins σ H { s with heap := h' } := I.led (t' := s.toks) F.ns F' N1
  have ND := N' (D, _) List.mem_cons_self
  have freshD : ∀ b o, s.heap.get? b = some o -> b ≠ D := fun b o e z => by
   by_cases hb : b = X.env.locals
   ·exact ND.2.1 (z ▸ hb)
   ·cases q : X.base.get? b with
    | some u => rw [z, ND.2.2] at q; cases q
    | none => exact absurd (hlt (b, o) (dZ hb q e)) (by rw [z]; exact Nat.lt_irrefl _)
  have hDn : H D = none := by
   cases z : H D with
   | none => rfl
   | some u =>
    obtain ⟨ob, eo⟩ := bp.there (I.hok D u z)
    exact absurd rfl (freshD D ob eo)
  obtain ⟨fs, k1, k2, k3⟩ := mF (h := h') (fun a xs hx => let ⟨its, r1, r2, _⟩ := I1.tuple hx; ⟨its, r1, r2⟩) ht hne
  refine PySem.W.kat_kind (T := .type "int") (s := { s with heap := h' }) k1 (by lia) (fun v hv => ?_) rfl ?_
  ·obtain ⟨i, t, rfl⟩ := k3 v hv
   exact PySem.W.Looks.of_pure rfl
  ·rw [show ((Value.type "int") != Value.type "tuple") = true by decide +kernel]
   have hn1 : 0 < (ps.map Value.ref).length := by simp; lia
   refine Srt.wp_run (n := (ps.map Value.ref).length) (c := Srt.cmpOf (O := lexOrd) fun i => mss.getD i []) (fun i j C hi hj hC => ?_) (Srt.nA hn1).1 ?_
   ·rw [List.length_map] at hi hj
    unfold PySem.W.kas_ask
    have gi : ∀ k, k < ps.length -> (ps.map Value.ref).getD k Value.none = Value.ref (ps.getD k 0) := fun k hk => by simp [List.getD_eq_getElem?_getD, hk]
    rw [gi i hi, gi j hj]
    exact yp I1 (ht.get i hi) (ht.get j hj) hC
   ·have pp := Srt.jW (Srt.cmpOf (O := lexOrd) fun i => mss.getD i []) (Srt.nA hn1).2
    have ss := Srt.qz (O := lexOrd) (key := fun i => mss.getD i []) (n := (ps.map Value.ref).length) hn1
    generalize Srt.run (Srt.cmpOf (O := lexOrd) fun i => mss.getD i []) (PySem.W.kas_sort (ps.map Value.ref).length) = p at *
    refine PySem.W.KasFin.intro F' N' (.head fun q hq => Nat.ne_of_lt (hlt q hq)) fun h2 c F2 N2 => ?_
    have N3 : News X.base X.env.locals h2 (bQ X.base s.heap X.env.locals) := fun p hp => N2 p (List.mem_cons_of_mem _ hp)
    have I2 : Inv X pins σ H { s with heap := h2 } := I.led (t' := s.toks) F.ns F2 N3
    have gD := (N2 (D, _) List.mem_cons_self).1
    have hpl : ∀ i ∈ p.toList, i < ps.length := fun i hi => by
     have := pp.mem_iff.mp hi
     simpa using this
    have tp := ht.pick hpl
    have hpn : p.toList.length = ps.length := by have := pp.length_eq; simpa using this
    have eo : (p.toList.map fun i => (ps.map Value.ref).getD i Value.none) = (p.toList.map fun i => ps.getD i 0).map Value.ref := by
     rw [List.map_map]
     refine List.map_congr_left fun i hi => ?_
     have := hpl i hi
     simp [List.getD_eq_getElem?_getD, this]
    have es : (p.toList.map fun i => mss.getD i []) = srt mss := by
     refine j2 ?_ ?_
     ·have := pp.map fun i => mss.getD i []
      rw [List.length_map, hlen, ij] at this
      exact this
     ·rw [List.pairwise_iff_getElem]
      intro i j hi hj hij
      have hi' : i < p.size := by simpa using hi
      have hj' : j < p.size := by simpa using hj
      have q := ss i j (Nat.le_of_lt hij) (by rw [pp.size] at hj'; exact hj')
      have gp : ∀ k (hk : k < p.size), Srt.KP (O := lexOrd) (fun i => mss.getD i []) p k = mss.getD p[k] [] := fun k hk => by show mss.getD (p.getD k 0) [] = mss.getD p[k] []; rw [show p.getD k 0 = p[k] by simp [Array.getD, hk]]
      rw [gp i hi', gp j hj'] at q
      simp only [List.getElem_map, Array.getElem_toList]
      have q : HT.lexLt (mss.getD p[j] []) (mss.getD p[i] []) = false := q
      unfold lexLe
      rw [q]
      rfl
    rw [es] at tp
    have s0D : X.s₀.heap.get? D = none := by
     cases z : X.s₀.heap.get? D with
     | none => rfl
     | some ob =>
      obtain ⟨o', e'⟩ := I.base.there D ob z (by rw [hex]; simp)
      exact absurd rfl (freshD D o' e')
    refine ⟨.ref D, upd H D (.lst ((p.toList.map fun i => ps.getD i 0).map V.ref)), I2.trackN hDn s0D ND.2.1 (fun x c e z => ?_) (fun p hp z => ?_) ?_, rfl, q D _ hDn tp⟩
    ·obtain ⟨v, o, ho, _⟩ := I.cell x c e
     exact freshD c o ho z
    ·exact freshD p.1 p.2 (I.pin p hp).1 z
    ·refine ⟨by rw [List.length_map, List.length_map, hpn, sizeLine_eq]; lia, _, c, jw _, ?_⟩
     rw [eo] at gD
     exact gD
end L2
end
section
namespace L2
open PySem PySem.Spec PyProof.Rows
def j3 (scope osc : Scope) (N tg cs : List Str) (ix : List Nat) : Prop :=
 (∀ y ∈ scope.names, y.2 ≠ .cell) /\ (∀ y ∈ scope.names, y.2 = .local -> scope.names.lookup y.1 = some .local) /\ (tg ++ cs).Nodup /\ ix.map (fun i => N[i]?) = cs.map some /\
 (∀ x ∈ cs, (x, NameKind.free) ∈ scope.names /\ scope.names.lookup x = some .free) /\ ∀ y ∈ scope.names, y.2 = .free -> osc.names.lookup y.1 = some .cell \/ osc.names.lookup y.1 = some .free
instance (scope osc : Scope) (N tg cs : List Str) (ix : List Nat) : Decidable (j3 scope osc N tg cs ix) := by unfold j3; infer_instance
theorem aI {X : Cx} {scope : Scope} {tg cs : List Str} (osc : Scope) (N : List Str) (h : j3 scope osc N tg cs ix) (hk : scope.kind = .function := by rfl) (ho : X.env.scope = osc := by rfl) (hN : X.N = N := by rfl) : aV X scope tg cs ix := by
 obtain ⟨h1, h2, h3, h4, h5, h6⟩ := h
 exact ⟨hk, h1, h2, h3, by rw [hN]; exact h4, h5, fun x hx => by rw [ho]; exact h6 (x, .free) hx rfl⟩
end L2
end
section
namespace L2
open PySem PySem.Spec PyProof.Rows
section
variable {X : Cx} {pins : List (Addr × Obj)} {σ : St} {H H1 : Hp} {s : Shared}
theorem lh {elt target iter : Expr} {ifs : List Expr} {scope : Scope} {pos spos py : Pos} {yy : Str} {ii : Nat} {tg cs : List Str} {wi : TI} {g : TG} {tc : TT} {te : TE} (hN0 : X.N.Nodup) (hi0 : X.N[ii]? = some yy) (hx0 : Loc X.env.scope yy)
  (S : aV X scope tg cs ix) (hcalm : X.calm = true) (kg : bO tg.length ix g)
  (hi : PI X target iter wi) (hg : ∀ C fp s H, PG (ak X scope (tg ++ cs) C fp s H) target g) (hc : ∀ C fp s H, PTs (ak X scope (tg ++ cs) C fp s H) ifs tc) (he : ∀ C fp s H, PE (ak X scope (tg ++ cs) C fp s H) elt te)
  (hf0 : X.fn yy = true \/ X.env.scope.names.lookup yy = some .local)
  (hsw : swapsWith (.ListComp elt [⟨target, iter, ifs, 0⟩] scope pos) (some (.Name yy py)) spos.line X.env = pure true)
  (hs : ∀ x, foldedSetIterable iter X.env x = pure x := by intro _; rfl) : PS X (.Assign [.Name yy py] (.ListComp elt [⟨target, iter, ifs, 0⟩] scope pos) spos) (dk (dU wi tg.length ix g tc te) (bq ii)) := by
 intro pins s σ H Dn I h
 rw [exec_Assign_Name_used _ _ _ _ hsw]
 refine wpAny_bind (wpAny_standAt (wpAny_bind ?_))
 show wpAny _ X.A (do let _ <- comprehension (.ListComp elt [⟨target, iter, ifs, 0⟩] scope pos) scope X.env _ (newList []) false (eval iter X.env) (some (assign (.Name yy py) X.env))) _ _ s
 refine wpAny_bind (wpAny_mono (jt (use := some (assign (.Name yy py) X.env)) (Qc := fun _ s' => SP X pins Dn .next s') S hcalm kg hi hg hc he hs I h fun D C H' s' v I' q fp z => ?_) (fun _ s' hq => wpAny_pure (wpAny_pure hq)) fun _ _ e => e)
 obtain ⟨f0, c1, _, c3, c4, c5⟩ := fp
 obtain ⟨m, hm⟩ := z
 show wpAny _ X.A (assign (.Name yy py) X.env (.ref D)) _ _ s'
 refine wpAny_assign_Name (eI (v := .ref D) I' hN0 hi0 hx0 rfl (fun s'' I'' zq => ?_) hf0)
 obtain ⟨a, sb, ha⟩ := zq
 have hCa : C ≠ a := by
  rcases ha with rfl | ha
  ·exact c1
  ·exact (c4 _ _ ha).symm
 exact ⟨m, hm.sameBut sb hCa, fun h' sb' => ⟨_, _, I''.turned (t' := s''.toks) (it := C) (fun b o hb e => (sb'.2 b hb).trans e) f0 c1 c3 c4 c5, q⟩⟩
end
end L2
end
section
namespace VL
open PySem L2
inductive D where
 | int (i : Int) | bl (b : Bool) | non | str (x : Str) | ty (n : String) | tup (ds : List D) | lst (ds : List D) | dic (ks : List (List Int)) (vs : List D) | exc (c : Value)
def kT (ms : List Int) : D := .tup (ms.map .int)
def IsM : Option HO -> Prop
 | some (.lst _) => True
 | some (.ext _) => True
 | _ => False
theorem IsM.ne {o : Option HO} (h : IsM o) : o ≠ none := by rintro rfl; exact h
abbrev AP := Addr -> Prop
def Any : AP := fun _ => True
abbrev FP := Option Addr -> Prop
def AnyF : FP := fun _ => True
def Fr (H0 : Hp) : FP := fun o => ∃ a, o = some a /\ H0 a = none
mutual
inductive Rep (K : PySem.W.Frag) (N : AP) (F : FP) (H : Hp) : V -> D -> Prop where
 | int (i : Int) : Rep K N F H (.int i) (.int i)
 | bl (b : Bool) : Rep K N F H (.bl b) (.bl b)
 | non : Rep K N F H .non .non
 | str (x : Str) : Rep K N F H (.str x) (.str x)
 | ty (x : String) : Rep K N F H (.ty x) (.ty x)
 | tup {a : Addr} {vs : List V} {ds : List D} (n : N a) (h : Rd H a (.tup vs)) (r : Reps K N F H vs ds) : Rep K N F H (.ref a) (.tup ds)
 | tupK {a : Addr} {vs : List V} {ds : List D} (h : SqT K (fun _ => none) a vs) (r : Reps K N F H vs ds) : Rep K N F H (.ref a) (.tup ds)
 | lst {a : Addr} {vs : List V} {ds : List D} (n : N a) (f : F (some a)) (h : H a = some (.lst vs)) (r : Reps K N F H vs ds) : Rep K N F H (.ref a) (.lst ds)
 | lstF {a : Addr} {vs : List V} {ds : List D} {o : Obj} (n : N a) (f : F none) (h : H a = some (.frz o (.lst vs))) (r : Reps K N F H vs ds) : Rep K N F H (.ref a) (.lst ds)
 | lstK {a : Addr} {vs : List V} {ds : List D} (f : F none) (h : SqL K (fun _ => none) a vs) (r : Reps K N F H vs ds) : Rep K N F H (.ref a) (.lst ds)
 | dic {a : Addr} {ob : Obj} {es : List (List Int × Addr × V)} {ks : List (List Int)} {ds : List D} (n : N a) (f : F (some a)) (h : H a = some (gG a ob es)) (e : es.map (·.1) = ks) (rk : Reps K N F H (es.map fun x => .ref x.2.1) (ks.map kT)) (r : Reps K N F H (es.map (·.2.2)) ds) : Rep K N F H (.ref a) (.dic ks ds)
 | exc {x : Addr} {c : Value} {o : Obj} (n : N x) (h : H x = some (.frz o (.own x))) (e : o.cls = c) : Rep K N F H (.ref x) (.exc c)
inductive Reps (K : PySem.W.Frag) (N : AP) (F : FP) (H : Hp) : List V -> List D -> Prop where
 | nil : Reps K N F H [] []
 | cons {v : V} {d : D} {vs : List V} {ds : List D} (h : Rep K N F H v d) (t : Reps K N F H vs ds) : Reps K N F H (v :: vs) (d :: ds)
end
section
variable {K : PySem.W.Frag} {N N' : AP} {F F' : FP} {H H' H0 : Hp}
theorem Rd.there {a : Addr} {u : HO} (h : Rd H a u) : H a ≠ none := by rcases h with h | ⟨o, h⟩ <;> simp [h]
theorem Rd.keep {a : Addr} {u : HO} (h : Rd H a u) (e : H' a = H a) : Rd H' a u := by
 rcases h with h | ⟨o, h⟩
 ·exact .inl (e.trans h)
 ·exact .inr ⟨o, e.trans h⟩
mutual
theorem Rep.mono (hN : ∀ a, N a -> H a ≠ none -> N' a /\ H' a = H a) (hF : ∀ o, F o -> F' o) {v : V} {d : D} : Rep K N F H v d -> Rep K N' F' H' v d
 | .int i => .int i
 | .bl i => .bl i
 | .non => .non
 | .str i => .str i
 | .ty i => .ty i
 | .tup n h r => .tup (hN _ n (Rd.there h)).1 (Rd.keep h (hN _ n (Rd.there h)).2) (Reps.mono hN hF r)
 | .tupK h r => .tupK h (Reps.mono hN hF r)
 | .lst n f h r => .lst (hN _ n (by simp [h])).1 (hF _ f) ((hN _ n (by simp [h])).2.trans h) (Reps.mono hN hF r)
 | .lstF n f h r => .lstF (hN _ n (by simp [h])).1 (hF _ f) ((hN _ n (by simp [h])).2.trans h) (Reps.mono hN hF r)
 | .lstK f h r => .lstK (hF _ f) h (Reps.mono hN hF r)
 | .dic n f h e rk r => .dic (hN _ n (by simp [h])).1 (hF _ f) ((hN _ n (by simp [h])).2.trans h) e (Reps.mono hN hF rk) (Reps.mono hN hF r)
 | .exc n h e => .exc (hN _ n (by simp [h])).1 ((hN _ n (by simp [h])).2.trans h) e
theorem Reps.mono (hN : ∀ a, N a -> H a ≠ none -> N' a /\ H' a = H a) (hF : ∀ o, F o -> F' o) {vs : List V} {ds : List D} : Reps K N F H vs ds -> Reps K N' F' H' vs ds
 | .nil => .nil
 | .cons h t => .cons (Rep.mono hN hF h) (Reps.mono hN hF t)
end
theorem Rep.any {d : D} (h : Rep K N F H v d) : Rep K Any AnyF H v d := h.mono (fun _ _ _ => ⟨trivial, rfl⟩) (fun _ _ => trivial)
theorem Reps.any {ds : List D} (h : Reps K N F H vs ds) : Reps K Any AnyF H vs ds := h.mono (fun _ _ _ => ⟨trivial, rfl⟩) (fun _ _ => trivial)
mutual
theorem Rep.avoid (h1 : ∀ a, ¬N' a -> IsM (H a)) (h2 : ∀ a, F (some a) -> N' a) {v : V} {d : D} : Rep K N F H v d -> Rep K N' F H v d
 | .int i => .int i
 | .bl i => .bl i
 | .non => .non
 | .str i => .str i
 | .ty i => .ty i
 | .tup (a := a) n h r => .tup (Classical.byContradiction fun z => by
   have e := h1 a z
   rcases h with h | ⟨o, h⟩ <;> rw [h] at e <;> exact e) h (Reps.avoid h1 h2 r)
 | .tupK h r => .tupK h (Reps.avoid h1 h2 r)
 | .lst n f h r => .lst (h2 _ f) f h (Reps.avoid h1 h2 r)
 | .lstF (a := a) n f h r => .lstF (Classical.byContradiction fun z => by
   have e := h1 a z
   rw [h] at e; exact e) f h (Reps.avoid h1 h2 r)
 | .lstK f h r => .lstK f h (Reps.avoid h1 h2 r)
 | .dic n f h e rk r => .dic (h2 _ f) f h e (Reps.avoid h1 h2 rk) (Reps.avoid h1 h2 r)
 | .exc (x := a) n h e => .exc (Classical.byContradiction fun z => by
   have e := h1 a z
   rw [h] at e; exact e) h e
theorem Reps.avoid (h1 : ∀ a, ¬N' a -> IsM (H a)) (h2 : ∀ a, F (some a) -> N' a) {vs : List V} {ds : List D} : Reps K N F H vs ds -> Reps K N' F H vs ds
 | .nil => .nil
 | .cons h t => .cons (Rep.avoid h1 h2 h) (Reps.avoid h1 h2 t)
end
mutual
def flat : D -> Bool
 | .lst _ => false
 | .dic _ _ => false
 | .tup ds => flats ds
 | _ => true
def flats : List D -> Bool
 | [] => true
 | d :: r => flat d && flats r
end
theorem gu : ∀ ms : List Int, flats (ms.map D.int) = true
 | [] => rfl
 | _ :: r => by simp [flats, flat, gu r]
theorem li : ∀ ks : List (List Int), flats (ks.map kT) = true
 | [] => rfl
 | _ :: r => by simp [flats, kT, flat, gu, li r]
mutual
theorem Rep.flat {v : V} {d : D} : Rep K N F H v d -> VL.flat d = true -> Rep K N F' H v d := fun hh ee => by
 cases hh with
 | int i => exact .int i
 | bl i => exact .bl i
 | non => exact .non
 | str i => exact .str i
 | ty i => exact .ty i
 | tup n h r => have e := ee; exact .tup n h (Reps.flat r (by simpa [VL.flat] using e))
 | tupK h r => have e := ee; exact .tupK h (Reps.flat r (by simpa [VL.flat] using e))
 | lst n f h r => have e := ee; simp [VL.flat] at e
 | lstF n f h r => have e := ee; simp [VL.flat] at e
 | lstK f h r => have e := ee; simp [VL.flat] at e
 | dic n f h _ _ r => have e := ee; simp [VL.flat] at e
 | exc n h e0 => exact .exc n h e0
theorem Reps.flat {vs : List V} {ds : List D} : Reps K N F H vs ds -> flats ds = true -> Reps K N F' H vs ds := fun hh ee => by
 cases hh with
 | nil => exact .nil
 | cons h t =>
  have e := ee
  simp only [flats, Bool.and_eq_true] at e
  exact .cons (Rep.flat h e.1) (Reps.flat t e.2)
end
theorem Reps.length : ∀ {vs : List V} {ds : List D}, Reps K N F H vs ds -> vs.length = ds.length
 | _, _, .nil => rfl
 | _, _, .cons _ t => by simp [Reps.length t]
theorem Reps.get : ∀ {vs : List V} {ds : List D} {i : Nat} {v : V}, Reps K N F H vs ds -> vs[i]? = some v -> ∃ d, ds[i]? = some d /\ Rep K N F H v d
 | _, _, 0, _, .cons h _, e => by simp at e; subst e; exact ⟨_, rfl, h⟩
 | _, _, i + 1, v, .cons _ t, e => by
  obtain ⟨d, h1, h2⟩ := Reps.get (i := i) (v := v) t (by simpa using e)
  exact ⟨d, by simpa using h1, h2⟩
 | _, _, _, _, .nil, e => by simp at e
theorem Reps.getD : ∀ {vs : List V} {ds : List D} {i : Nat} {d : D}, Reps K N F H vs ds -> ds[i]? = some d -> ∃ v, vs[i]? = some v /\ Rep K N F H v d
 | _, _, 0, _, .cons h _, e => by simp at e; subst e; exact ⟨_, rfl, h⟩
 | _, _, i + 1, v, .cons _ t, e => by
  obtain ⟨d, h1, h2⟩ := Reps.getD (i := i) (d := v) t (by simpa using e)
  exact ⟨d, by simpa using h1, h2⟩
 | _, _, _, _, .nil, e => by simp at e
theorem Reps.append : ∀ {vs ws : List V} {ds es : List D}, Reps K N F H vs ds -> Reps K N F H ws es -> Reps K N F H (vs ++ ws) (ds ++ es)
 | _, _, _, _, .nil, s => s
 | _, _, _, _, .cons h t, s => .cons h (Reps.append t s)
theorem Reps.take : ∀ {vs : List V} {ds : List D} (n : Nat), Reps K N F H vs ds -> Reps K N F H (vs.take n) (ds.take n)
 | _, _, 0, _ => by simpa using .nil
 | _, _, _ + 1, .nil => by simpa using .nil
 | _, _, n + 1, .cons h t => by simpa using .cons h (Reps.take n t)
theorem Reps.drop : ∀ {vs : List V} {ds : List D} (n : Nat), Reps K N F H vs ds -> Reps K N F H (vs.drop n) (ds.drop n)
 | _, _, 0, h => by simpa using h
 | _, _, _ + 1, .nil => by simpa using .nil
 | _, _, n + 1, .cons h t => by simpa using Reps.drop n t
theorem Reps.set {d : D} (h : Rep K N F H v d) : ∀ {vs : List V} {ds : List D} (i : Nat), Reps K N F H vs ds -> Reps K N F H (vs.set i v) (ds.set i d)
 | _, _, _, .nil => by simpa using .nil
 | _, _, 0, .cons _ t => by simpa using .cons h t
 | _, _, i + 1, .cons q t => by simpa using .cons q (Reps.set h i t)
theorem Reps.rev {ds : List D} (h : Reps K N F H vs ds) : Reps K N F H vs.reverse ds.reverse := by
 induction ds generalizing vs with
 | nil => cases h; simpa using .nil
 | cons d r ih =>
  cases h with
  | cons h t => simp only [List.reverse_cons]; exact Reps.append (ih t) (.cons h .nil)
theorem Reps.ints : ∀ {ns : List Int}, Reps K N F H (ns.map V.int) (ns.map D.int)
 | [] => .nil
 | _ :: r => .cons (.int _) (Reps.ints (ns := r))
theorem Reps.toInts : ∀ {vs : List V} {ns : List Int}, Reps K N F H vs (ns.map D.int) -> vs = ns.map V.int
 | _, [], .nil => rfl
 | _, n :: ns, .cons h t => by cases h; rw [Reps.toInts t]; rfl
theorem fF {a : Addr} (h : SqT K (fun _ => none) a vs) : SqT K H a vs := by
 rcases h with (h | ⟨o, h⟩) | h
 ·cases h
 ·cases h
 ·exact .inr h
theorem ik {a : Addr} (h : SqL K (fun _ => none) a vs) : SqL K H a vs := by
 rcases h with (h | ⟨o, h⟩) | h
 ·cases h
 ·cases h
 ·exact .inr h
theorem Rep.sqT {ds : List D} (h : Rep K N F H v (.tup ds)) : ∃ a vs, v = .ref a /\ SqT K H a vs /\ Reps K N F H vs ds := by
 cases h with
 | tup n h r => exact ⟨_, _, rfl, .inl h, r⟩
 | tupK h r => exact ⟨_, _, rfl, fF h, r⟩
theorem Rep.sqL {ds : List D} (h : Rep K N F H v (.lst ds)) : ∃ a vs, v = .ref a /\ SqL K H a vs /\ Reps K N F H vs ds := by
 cases h with
 | lst n f h r => exact ⟨_, _, rfl, .inl (.inl h), r⟩
 | lstF n f h r => exact ⟨_, _, rfl, .inl (.inr ⟨_, h⟩), r⟩
 | lstK f h r => exact ⟨_, _, rfl, ik h, r⟩
theorem Rep.of_sqL {a : Addr} {ds : List D} (h : SqL K H a vs) (n : N a) (f : ∀ o, F o) (r : Reps K N F H vs ds) : Rep K N F H (.ref a) (.lst ds) := by
 rcases h with (h | ⟨o, h⟩) | h
 ·exact .lst n (f _) h r
 ·exact .lstF n (f _) h r
 ·exact .lstK (f _) (.inr h) r
end
structure Di where
 ok : PySem.W.Frag -> Hp -> AP -> Hp -> Addr -> Prop
 ism : ∀ {K : PySem.W.Frag} {H0 : Hp} {N : AP} {H : Hp} {a : Addr}, ok K H0 N H a -> IsM (H a)
 mono : ∀ {K : PySem.W.Frag} {H0 : Hp} {N N' : AP} {H H' : Hp} {a : Addr}, (∀ b, N b -> H b ≠ none -> N' b /\ H' b = H b) -> H' a = H a -> ok K H0 N H a -> ok K H0 N' H' a
inductive Sl where
 | no | val (d : D) | fre (d : D) | own (ds : List D) | pen (ad : Option Addr) (ns : List Int) | odi (ks : List (List Int)) (vs : List D) | obj (k : Di)
def Sl.mut : Sl -> Bool
 | .own _ => true
 | .pen _ _ => true
 | .odi _ _ => true
 | .obj _ => true
 | _ => false
def Mo (Z : AP) (σ : St) (S : List Sl) (a : Addr) : Prop := (∃ (i : Nat) (s : Sl), S[i]? = some s /\ s.mut = true /\ σ[i]? = some (some (V.ref a))) \/ Z a
abbrev NM (Z : AP) (σ : St) (S : List Sl) : AP := fun a => ¬Mo Z σ S a
def ph (K : PySem.W.Frag) (H0 : Hp) (N : AP) (H : Hp) (o : Option V) : Sl -> Prop
 | .no => True
 | .val d => ∃ v, o = some v /\ Rep K N AnyF H v d
 | .fre d => ∃ v, o = some v /\ Rep K N (Fr H0) H v d
 | .own ds => ∃ a vs, o = some (.ref a) /\ H a = some (.lst vs) /\ H0 a = none /\ Reps K N (Fr H0) H vs ds
 | .pen ad ns => ∃ a, o = some (.ref a) /\ (∀ b, ad = some b -> a = b) /\ H a = some (.lst (ns.map .int))
 | .odi ks ds => ∃ a es, o = some (.ref a) /\ (∃ ob, H a = some (gG a ob es)) /\ H0 a = none /\ (es.map (·.1) = ks /\ Reps K N AnyF H (es.map fun x => V.ref x.2.1) (ks.map kT)) /\ Reps K N (Fr H0) H (es.map (·.2.2)) ds
 | .obj k => ∃ a, o = some (.ref a) /\ H0 a = none /\ k.ok K H0 N H a
structure OK (K : PySem.W.Frag) (H0 : Hp) (Z : AP) (σ : St) (H : Hp) (S : List Sl) : Prop where
 len : σ.length = S.length
 at_ : ∀ (i : Nat) (o : Option V) (s : Sl), σ[i]? = some o -> S[i]? = some s -> ph K H0 (NM Z σ S) H o s
 inj : ∀ (i j : Nat) (a : Addr) (s t : Sl), S[i]? = some s -> S[j]? = some t -> s.mut = true -> t.mut = true -> σ[i]? = some (some (V.ref a)) -> σ[j]? = some (some (V.ref a)) -> i = j
 dom : ∀ a, H a = none -> H0 a = none
 zl : ∀ a, Z a -> IsM (H a)
 nz : ∀ (i : Nat) (s : Sl) (a : Addr), S[i]? = some s -> s.mut = true -> σ[i]? = some (some (V.ref a)) -> ¬Z a
def Step (Z : AP) (σ : St) (S : List Sl) (H : Hp) (σ' : St) (S' : List Sl) (H' : Hp) : Prop := (∀ a, NM Z σ S a -> H a ≠ none -> H' a = H a /\ NM Z σ' S' a) /\ (∀ a, H' a = none -> H a = none) /\ ∀ a, Z a -> H a ≠ none -> H' a = H a
section
variable {K : PySem.W.Frag} {N N' : AP} {F F' : FP} {H H' H'' H0 : Hp} {Z : AP} {σ σ' σ'' : St} {S S' S'' : List Sl}
theorem Step.refl : Step Z σ S H σ S H := ⟨fun _ n _ => ⟨rfl, n⟩, fun _ h => h, fun _ _ _ => rfl⟩
theorem Step.trans (a : Step Z σ S H σ' S' H') (b : Step Z σ' S' H' σ'' S'' H'') : Step Z σ S H σ'' S'' H'' :=
 ⟨fun x n h => by
  obtain ⟨e1, n1⟩ := a.1 x n h
  obtain ⟨e2, n2⟩ := b.1 x n1 (by rw [e1]; exact h)
  exact ⟨e2.trans e1, n2⟩, fun x h => a.2.1 x (b.2.1 x h), fun x z h => by
  have e1 := a.2.2 x z h
  exact (b.2.2 x z (by rw [e1]; exact h)).trans e1⟩
theorem Rep.step {d : D} (h : Rep K (NM Z σ S) F H v d) (st : Step Z σ S H σ' S' H') : Rep K (NM Z σ' S') F H' v d := h.mono (fun a n e => ⟨(st.1 a n e).2, (st.1 a n e).1⟩) fun _ x => x
theorem Reps.step {ds : List D} (h : Reps K (NM Z σ S) F H vs ds) (st : Step Z σ S H σ' S' H') : Reps K (NM Z σ' S') F H' vs ds := h.mono (fun a n e => ⟨(st.1 a n e).2, (st.1 a n e).1⟩) fun _ x => x
theorem OK.mo (k : OK K H0 Z σ H S) {a : Addr} (h : Mo Z σ S a) : IsM (H a) := by
 rcases h with ⟨i, s, e1, e2, e3⟩ | h
 case inr => exact k.zl a h
 have q := k.at_ i _ s e3 e1
 cases s with
 | no => cases e2
 | val d => cases e2
 | fre d => cases e2
 | own ds => obtain ⟨b, vs, h1, h2, _⟩ := q; cases h1; rw [h2]; trivial
 | pen ad ns => obtain ⟨b, h1, _, h2⟩ := q; cases h1; rw [h2]; trivial
 | odi ks ds => obtain ⟨b, kvs, h1, ⟨ob, h2⟩, _⟩ := q; cases h1; rw [h2]; trivial
 | obj k => obtain ⟨b, h1, _, h2⟩ := q; cases h1; exact k.ism h2
theorem OK.grow (k : OK K H0 Z σ H S) (h : ∀ a, H a ≠ none -> H' a = H a) : OK K H0 Z σ H' S where
 len := k.len
 inj := k.inj
 nz := k.nz
 zl := fun a z => by
  have e := k.zl a z
  rw [h a e.ne]; exact e
 dom := fun a e => k.dom a (Classical.byContradiction fun z => by rw [h a z] at e; exact z e)
 at_ := fun i o s e1 e2 => by
  have q := k.at_ i o s e1 e2
  have hm : ∀ a, NM Z σ S a -> H a ≠ none -> NM Z σ S a /\ H' a = H a := fun a n e => ⟨n, h a e⟩
  cases s with
  | no => trivial
  | val d => obtain ⟨v, e, r⟩ := q; exact ⟨v, e, r.mono hm fun _ x => x⟩
  | fre d => obtain ⟨v, e, r⟩ := q; exact ⟨v, e, r.mono hm fun _ x => x⟩
  | own ds => obtain ⟨a, vs, e, e', e0, r⟩ := q; exact ⟨a, vs, e, by rw [h a (by simp [e'])]; exact e', e0, r.mono hm fun _ x => x⟩
  | pen ad ns => obtain ⟨a, e, e1, e'⟩ := q; exact ⟨a, e, e1, by rw [h a (by simp [e'])]; exact e'⟩
  | odi ks ds => obtain ⟨a, vs, e, ⟨ob, e'⟩, e0, ek, r⟩ := q; exact ⟨a, vs, e, ⟨ob, by rw [h a (by simp [e'])]; exact e'⟩, e0, ⟨ek.1, ek.2.mono hm fun _ x => x⟩, r.mono hm fun _ x => x⟩
  | obj k => obtain ⟨a, e, e0, r⟩ := q; exact ⟨a, e, e0, k.mono hm (h a (k.ism r).ne) r⟩
theorem Step.grow (h : ∀ a, H a ≠ none -> H' a = H a) : Step Z σ S H σ S H' := ⟨fun a n e => ⟨h a e, n⟩, fun a e => Classical.byContradiction fun z => by rw [h a z] at e; exact z e, fun a _ e => h a e⟩
theorem ba {p : Addr} {o : HO} (hp : H p = none) : ∀ a, H a ≠ none -> upd H p o a = H a := fun a e => au fun z => e (by rw [z]; exact hp)
end
inductive VR where
 | d (x : D) | own (i : Nat)
def getO : Option Sl -> Option D
 | some (.own ds) => some (.lst ds)
 | some (.pen _ ns) => some (.lst (ns.map .int))
 | some (.odi ks vs) => some (.dic ks vs)
 | _ => none
def get (S : List Sl) : VR -> Option D
 | .d x => some x
 | .own i => getO S[i]?
def e7 (K : PySem.W.Frag) (F : FP) (Z : AP) (σ : St) (S : List Sl) (H : Hp) (v : V) : VR -> Prop
 | .d x => Rep K (NM Z σ S) F H v x
 | .own i => σ[i]? = some (some v)
section
variable {K : PySem.W.Frag} {N N' : AP} {F F' : FP} {H H' H'' H0 : Hp} {Z : AP} {σ σ' σ'' : St} {S S' S'' : List Sl}
theorem e7.step {r : VR} (h : e7 K F Z σ S H v r) (st : Step Z σ S H σ S' H') : e7 K F Z σ S' H' v r := by
 cases r with
 | d x => exact Rep.step h st
 | own i => exact h
theorem e7.get {r : VR} {x : D} (h : e7 K F Z σ S H v r) (k : OK K H0 Z σ H S) (e : get S r = some x) : Rep K Any AnyF H v x := by
 cases r with
 | d y => cases e; exact Rep.any h
 | own i =>
  have h : σ[i]? = some (some v) := h
  have e : getO S[i]? = some x := e
  cases es : S[i]? with
  | none => rw [es] at e; cases e
  | some s =>
   rw [es] at e
   cases s with
   | no => cases e
   | val d => cases e
   | fre d => cases e
   | own ds =>
    cases e
    obtain ⟨a, vs, h1, h2, h3, h4⟩ := k.at_ i _ _ h es
    cases h1
    exact .lst trivial trivial h2 h4.any
   | pen ad ns =>
    cases e
    obtain ⟨a, h1, _, h2⟩ := k.at_ i _ _ h es
    cases h1
    exact .lst trivial trivial h2 Reps.ints
   | odi ks ds =>
    cases e
    obtain ⟨a, kvs, h1, ⟨ob, h2⟩, h3, h4, h5⟩ := k.at_ i _ _ h es
    cases h1
    exact .dic trivial trivial h2 h4.1 h4.2.any h5.any
   | obj k => cases e
end
abbrev VT := List Sl -> (VR -> List Sl -> Prop) -> Prop
abbrev VTT := List Sl -> (Bool -> List Sl -> Prop) -> Prop
abbrev VTA := List Sl -> (List VR -> List Sl -> Prop) -> Prop
abbrev VTN := List Sl -> (List D -> List Sl -> Prop) -> Prop
def FM (H0 : Hp) (m : Bool) : FP := fun o => m = true -> Fr H0 o
def SndE (K : PySem.W.Frag) (m : Bool) (te : TE) (t : VT) : Prop := ∀ H0 Z σ H S Q C, OK K H0 Z σ H S -> t S Q -> (∀ v H' r S', OK K H0 Z σ H' S' -> Step Z σ S H σ S' H' -> e7 K (FM H0 m) Z σ S' H' v r -> Q r S' -> C v H') -> te σ H C
def SndT (K : PySem.W.Frag) (te : TT) (t : VTT) : Prop := ∀ H0 Z σ H S Q C, OK K H0 Z σ H S -> t S Q -> (∀ b H' S', OK K H0 Z σ H' S' -> Step Z σ S H σ S' H' -> Q b S' -> C b H') -> te σ H C
inductive cI (K : PySem.W.Frag) (F : FP) (Z : AP) (σ : St) (S : List Sl) (H : Hp) : List V -> List VR -> Prop where
 | nil : cI K F Z σ S H [] []
 | cons {v : V} {r : VR} {vs : List V} {rs : List VR} (h : e7 K F Z σ S H v r) (t : cI K F Z σ S H vs rs) : cI K F Z σ S H (v :: vs) (r :: rs)
def gets (S : List Sl) : List VR -> Option (List D)
 | [] => some []
 | r :: rs => match get S r, gets S rs with
  | some d, some ds => some (d :: ds)
  | _, _ => none
def yq (K : PySem.W.Frag) (m : Bool) (te : TA) (t : VTA) : Prop := ∀ H0 Z σ H S Q C, OK K H0 Z σ H S -> t S Q -> (∀ vs H' rs S', OK K H0 Z σ H' S' -> Step Z σ S H σ S' H' -> cI K (FM H0 m) Z σ S' H' vs rs -> Q rs S' -> C vs H') -> te σ H C
def A0 (K : PySem.W.Frag) (te : TE) (t : VTN) : Prop := ∀ H0 Z σ H S Q C, OK K H0 Z σ H S -> t S Q -> (∀ a vs ds H1 H' S', OK K H0 Z σ H1 S' -> Step Z σ S H σ S' H1 -> H1 a = none -> (∀ b, H1 b ≠ none -> H' b = H1 b) -> H' a = some (.lst vs) ->
 Reps K (fun b => NM Z σ S' b /\ b ≠ a) (Fr H0) H' vs ds -> Q ds S' -> C (.ref a) H') -> te σ H C
structure VE (K : PySem.W.Frag) (X : Cx) (m : Bool) (e : Expr) (te : TE) (t : VT) : Prop where
 pe : PE X e te
 snd : SndE K m te t
structure VTe (K : PySem.W.Frag) (X : Cx) (e : Expr) (te : TT) (t : VTT) : Prop where
 pe : PT X e te
 snd : SndT K te t
structure VWe (K : PySem.W.Frag) (X : Cx) (e : Expr) (te : TT) (t : VTT) : Prop where
 pe : PW X e te
 snd : SndT K te t
structure VA (K : PySem.W.Frag) (X : Cx) (m : Bool) (es : List Expr) (te : TA) (t : VTA) : Prop where
 pe : PA X es te
 snd : yq K m te t
structure VN (K : PySem.W.Frag) (X : Cx) (e : Expr) (te : TE) (t : VTN) : Prop where
 pe : PE X e te
 snd : A0 K te t
section
variable {K : PySem.W.Frag} {N N' : AP} {F F' : FP} {H H' H'' H0 : Hp} {Z : AP} {σ σ' σ'' : St} {S S' S'' : List Sl}
theorem cI.gets {rs : List VR} {ds : List D} (h : cI K F Z σ S H vs rs) (k : OK K H0 Z σ H S) (e : gets S rs = some ds) : Reps K Any AnyF H vs ds := by
 induction h generalizing ds with
 | nil => cases e; exact .nil
 | cons h t ih =>
  unfold VL.gets at e
  split at e
  ·rename_i d es h1 h2
   cases e
   exact .cons (h.get k h1) (ih h2)
  ·cases e
end
end VL
end
variable {kvs : List (List Int × VL.D)} {ds : List VL.D} {S : List VL.Sl} {d : VL.D} {r : VL.VR} {F : VL.FP} {Z : VL.AP} {H0 : L2.Hp} {rs : List VL.VR} {q : VL.D -> Prop} {p : List VL.D -> (VL.D -> Prop) -> Prop}
section
namespace VL
open PySem L2
section
variable {K : PySem.W.Frag} {X : Cx} {m : Bool} {e a b c : Expr} {ta tb tc te : TE} {va vb vc : VT} {pos : Pos}
theorem FM.any {a : Option Addr} : FM H0 false a := fun z => nomatch z
def vC (d : D) : VT := fun S Q => Q (.d d) S
theorem ah {i j} : VE K X m (.Constant (.int i) j pos) (tC (.int i)) (vC (.int i)) := ⟨xO, fun _ _ _ _ _ _ _ k h q => q _ _ (.d (.int i)) _ k .refl (Rep.int i) h⟩
theorem fG {i j} : VE K X m (.Constant (.bool i) j pos) (tC (.bl i)) (vC (.bl i)) := ⟨AK, fun _ _ _ _ _ _ _ k h q => q _ _ (.d (.bl i)) _ k .refl (Rep.bl i) h⟩
theorem fW {j} : VE K X m (.Constant .none j pos) (tC .non) (vC .non) := ⟨xP, fun _ _ _ _ _ _ _ k h q => q _ _ (.d .non) _ k .refl Rep.non h⟩
theorem aM {i j} : VE K X m (.Constant (.str i) j pos) (tC (.str i)) (vC (.str i)) := ⟨pX, fun _ _ _ _ _ _ _ k h q => q _ _ (.d (.str i)) _ k .refl (Rep.str i) h⟩
theorem ck (h : PE X e (tC v)) (r : ∀ N H, Rep K N AnyF H v d) : VE K X false e (tC v) (vC d) := ⟨h, fun _ _ _ _ _ _ _ k h q => q _ _ (.d d) _ k .refl (show Rep K _ _ _ v d from (r _ _).mono (fun _ n _ => ⟨n, rfl⟩) (fun _ _ => FM.any)) h⟩
def rdO (i : Nat) : Option Sl -> Option VR
 | some (.val d) => some (.d d)
 | some (.fre d) => some (.d d)
 | some (.own _) => some (.own i)
 | some (.pen _ _) => some (.own i)
 | some (.odi _ _) => some (.own i)
 | some (.obj _) => some (.own i)
 | _ => none
def gJ (i : Nat) : VT := fun S Q => ∃ r, rdO i S[i]? = some r /\ Q r S
theorem OK.var {H0 H : Hp} (k : OK K H0 Z σ H S) {i : Nat} (h : rdO i S[i]? = some r) : ∃ v, σ[i]? = some (some v) /\ e7 K (FM H0 false) Z σ S H v r := by
 have hl := k.len
 cases es : S[i]? with
 | none => rw [es] at h; cases h
 | some s =>
  have hi : i < σ.length := by rw [hl]; exact (List.getElem?_eq_some_iff.mp es).1
  have q := k.at_ i _ s (List.getElem?_eq_getElem hi) es
  rw [es] at h
  cases s with
  | no => cases h
  | val d => obtain ⟨v, e, r'⟩ := q; cases h; exact ⟨v, by rw [List.getElem?_eq_getElem hi, e], r'.mono (fun _ n _ => ⟨n, rfl⟩) fun _ _ => FM.any⟩
  | fre d => obtain ⟨v, e, r'⟩ := q; cases h; exact ⟨v, by rw [List.getElem?_eq_getElem hi, e], r'.mono (fun _ n _ => ⟨n, rfl⟩) fun _ x _ => x⟩
  | own ds => obtain ⟨a, vs, e, _⟩ := q; cases h; exact ⟨.ref a, by rw [List.getElem?_eq_getElem hi, e], by show σ[i]? = _; rw [List.getElem?_eq_getElem hi, e]⟩
  | pen ad ds => obtain ⟨a, e, _⟩ := q; cases h; exact ⟨.ref a, by rw [List.getElem?_eq_getElem hi, e], by show σ[i]? = _; rw [List.getElem?_eq_getElem hi, e]⟩
  | odi ks ds => obtain ⟨a, _, e, _⟩ := q; cases h; exact ⟨.ref a, by rw [List.getElem?_eq_getElem hi, e], by show σ[i]? = _; rw [List.getElem?_eq_getElem hi, e]⟩
  | obj k => obtain ⟨a, e, _⟩ := q; cases h; exact ⟨.ref a, by rw [List.getElem?_eq_getElem hi, e], by show σ[i]? = _; rw [List.getElem?_eq_getElem hi, e]⟩
theorem aa (i : Nat) (h : PE X e (di i)) : VE K X false e (di i) (gJ i) := ⟨h, fun H0 Z σ H S Q C k zq1 hc => by
 obtain ⟨r, h, q⟩ := zq1
 obtain ⟨v, e, rr⟩ := k.var h
 exact ⟨v, e, hc _ _ _ _ k .refl rr q⟩⟩
def wK (t : VT) : VT := fun S Q => t S fun r S' => (match r with | .d d => flat d = true | .own _ => True) /\ Q r S'
theorem bT (h : VE K X false e te va) : VE K X m e te (wK va) := ⟨h.pe, fun H0 Z σ H S Q C k t hc => h.snd H0 Z σ H S _ C k t fun v H' r S' k' st rr ⟨f, q⟩ => hc v H' r S' k' st (by
 cases r with
 | d x => exact Rep.flat rr f
 | own i => exact rr) q⟩
def v2 (w : D -> D -> (D -> Prop) -> Prop) (va vb : VT) : VT := fun S Q => va S fun ra S1 => vb S1 fun rb S2 => ∃ d1 d2, get S2 ra = some d1 /\ get S2 rb = some d2 /\ w d1 d2 fun d => Q (.d d) S2
def bX (K : PySem.W.Frag) (r : R2) (w : D -> D -> (D -> Prop) -> Prop) : Prop := ∀ (x y : V) (H : Hp) (d1 d2 : D) (q : D -> Prop) (C : VK), Rep K Any AnyF H x d1 -> Rep K Any AnyF H y d2 -> w d1 d2 q -> (∀ z dz, q dz -> (∀ N F, Rep K N F H z dz) -> C z H) -> r x y H C
theorem yr {r : R2} {w : D -> D -> (D -> Prop) -> Prop} (L : bX K r w) (ha : SndE K false ta va) (hb : SndE K false tb vb) : SndE K m (tOp r ta tb) (v2 w va vb) := by
 intro H0 Z σ H S Q C k t hc
 refine ha H0 Z σ H S _ _ k t fun x H1 ra S1 k1 st1 r1 t1 => ?_
 refine hb H0 Z σ H1 S1 _ _ k1 t1 fun y H2 rb S2 k2 st2 r2 zr1 => ?_
 obtain ⟨d1, d2, e1, e2, t2⟩ := zr1
 exact L x y H2 d1 d2 _ _ ((r1.step st2).get k2 e1) (r2.get k2 e2) t2 fun z dz q rz => hc z H2 (.d dz) S2 k2 (st1.trans st2) (rz _ _) q
theorem aq {op : Operator} {r : R2} {w : D -> D -> (D -> Prop) -> Prop} (ho : OpR X (binaryOp op) r) (L : bX K r w) (ha : VE K X false a ta va) (hb : VE K X false b tb vb) : VE K X m (.BinOp a op b pos) (tOp r ta tb) (v2 w va vb) := ⟨wF ho ha.pe hb.pe, yr L ha.snd hb.snd⟩
@[reducible] def ofV : V -> D
 | .int i => .int i
 | .bl b => .bl b
 | .str x => .str x
 | .ty x => .ty x
 | _ => .non
def scV : V -> Bool
 | .int _ => true | .bl _ => true | .str _ => true | .non => true | .ty _ => true | _ => false
theorem qD (h : scV v = true) {N : AP} : Rep K N F H v (ofV v) := by
 cases v <;> first | exact .int _ | exact .bl _ | exact .str _ | exact .non | exact .ty _ | cases h
def wI (C : Int -> Int -> Prop) (g : Int -> Int -> V) : D -> D -> (D -> Prop) -> Prop := fun d1 d2 q => ∃ i j, d1 = .int i /\ d2 = .int j /\ C i j /\ q (ofV (g i j))
def wI0 (g : Int -> Int -> V) : D -> D -> (D -> Prop) -> Prop := fun d1 d2 q => ∃ i j, d1 = .int i /\ d2 = .int j /\ q (ofV (g i j))
theorem bI {C : Int -> Int -> Prop} {g : Int -> Int -> V} (hg : ∀ i j, scV (g i j) = true := by intro _ _; rfl) : bX K (rI C g) (wI C g) := by
 rintro x y H d1 d2 q Cc r1 r2 ⟨i, j, rfl, rfl, c, h⟩ hc
 cases r1; cases r2
 exact ⟨i, j, rfl, rfl, c, hc _ _ h fun _ _ => qD (hg i j)⟩
theorem aC {g : Int -> Int -> V} (hg : ∀ i j, scV (g i j) = true := by intro _ _; rfl) : bX K (rI0 g) (wI0 g) := by
 rintro x y H d1 d2 q Cc r1 r2 ⟨i, j, rfl, rfl, h⟩ hc
 cases r1; cases r2
 exact ⟨i, j, rfl, rfl, hc _ _ h fun _ _ => qD (hg i j)⟩
def toV : D -> Option V
 | .int i => some (.int i)
 | .bl b => some (.bl b)
 | .str x => some (.str x)
 | .non => some .non
 | _ => none
theorem gO {u : V} {N : AP} (h : Rep K N F H v d) (e : toV d = some u) : v = u := by
 cases h <;> cases e <;> rfl
def wEq : D -> D -> (D -> Prop) -> Prop := fun d1 d2 q => ∃ x y, toV d1 = some x /\ toV d2 = some y /\ t4 x y = true /\ q (.bl (decide (x = y)))
def wNe : D -> D -> (D -> Prop) -> Prop := fun d1 d2 q => ∃ x y, toV d1 = some x /\ toV d2 = some y /\ t4 x y = true /\ q (.bl (!decide (x = y)))
theorem jb : bX K rEq wEq := by
 rintro x y H d1 d2 q C r1 r2 ⟨x', y', e1, e2, s, h⟩ hc
 obtain rfl := gO r1 e1
 obtain rfl := gO r2 e2
 exact ⟨s, hc _ _ h fun _ _ => .bl _⟩
theorem pq : bX K rNe wNe := by
 rintro x y H d1 d2 q C r1 r2 ⟨x', y', e1, e2, s, h⟩ hc
 obtain rfl := gO r1 e1
 obtain rfl := gO r2 e2
 exact ⟨s, hc _ _ h fun _ _ => .bl _⟩
def qE : D -> Bool
 | .non => true
 | _ => false
theorem qF {N : AP} (h : Rep K N F H v d) : decide (v = .non) = qE d := by cases h <;> rfl
def A1 (neg : Bool) : D -> D -> (D -> Prop) -> Prop := fun d1 d2 q => d2 = .non /\ q (.bl (if neg then !qE d1 else qE d1))
theorem qG : bX K (fun x y H Q => y = .non /\ Q (.bl (decide (x = .non))) H) (A1 false) := by
 rintro x y H d1 d2 q C r1 r2 ⟨rfl, h⟩ hc
 cases r2
 exact ⟨rfl, by rw [qF r1]; exact hc _ _ h fun _ _ => .bl _⟩
def ip (t : VT) : VTT := fun S Q => t S fun r S' => ∃ k, r = .d (.bl k) /\ Q k S'
theorem nE (h : SndE K m te va) : SndT K (kO te) (ip va) := fun H0 Z σ H S Q C k t hc => h H0 Z σ H S _ _ k t fun v H' r S' k' st rr zq1 => by
 obtain ⟨b, e, q⟩ := zq1
 subst e
 cases (show Rep K _ _ H' v (.bl b) from rr)
 exact ⟨b, rfl, hc b H' S' k' st q⟩
theorem Dj (h : SndE K m te va) : SndT K (tB te) (ip va) := fun H0 Z σ H S Q C k t hc => h H0 Z σ H S _ _ k t fun v H' r S' k' st rr zq1 => by
 obtain ⟨b, e, q⟩ := zq1
 subst e
 cases (show Rep K _ _ H' v (.bl b) from rr)
 exact ⟨b, rfl, hc b H' S' k' st q⟩
theorem aJ {op : CmpOp} {r : R2} {w : D -> D -> (D -> Prop) -> Prop} (ho : OpR X (compareOp op) r) (L : bX K r w) (ha : VE K X false a ta va) (hb : VE K X false b tb vb) (hm : behindInMarks op b = false) : VTe K X (.Compare a [op] [b] pos) (kO (tOp r ta tb)) (ip (v2 w va vb)) :=
 ⟨t6 ho ha.pe hb.pe hm, nE (m := false) (yr L ha.snd hb.snd)⟩
theorem b7 {op : CmpOp} {r : R2} {w : D -> D -> (D -> Prop) -> Prop} (ho : OpR X (compareOp op) r) (L : bX K r w) (ha : VE K X false a ta va) (hb : VE K X false b tb vb) (hm : behindInMarks op b = false) : VE K X m (.Compare a [op] [b] pos) (tOp r ta tb) (v2 w va vb) :=
 ⟨t5 ho ha.pe hb.pe hm, yr L ha.snd hb.snd⟩
theorem b8 (h : VE K X false e te va) (he : ∀ whole, isTrue e X.env whole = (do let v <- whole; standAt e.pos; holding [v] (truthy v)) := by intro _; rfl) : VTe K X e (tB te) (ip va) := ⟨xQ h.pe he, Dj h.snd⟩
def tru : D -> Option Bool
 | .bl b => some b
 | .int i => some (i != 0)
 | .non => some false
 | .lst ds => some !ds.isEmpty
 | .tup ds => some !ds.isEmpty
 | _ => none
section
variable {tA tB' : TT} {wA wB : VTT} {rest : List Expr}
def vOr (t u : VTT) : VTT := fun S Q => t S fun c S1 => if c = true then Q true S1 else u S1 Q
def A2 (t : VTT) : VTT := fun S Q => t S fun c S1 => Q (!c) S1
theorem cu (h : VTe K X a tA wA) : VWe K X (.BoolOp .Or [a] pos) tA wA := ⟨xR h.pe, h.snd⟩
theorem cJ (ha : VTe K X a tA wA) (hb : VWe K X (.BoolOp .Or (b :: rest) pos) tB' wB) : VWe K X (.BoolOp .Or (a :: b :: rest) pos) (tOr tA tB') (vOr wA wB) := ⟨AM ha.pe hb.pe, fun H0 Z σ H S Q C k t hc =>
 ha.snd H0 Z σ H S _ _ k t fun c H1 S1 k1 st1 q => by
  cases c with
  | false => rw [if_neg Bool.false_ne_true] at q ⊢; exact hb.snd H0 Z σ H1 S1 _ _ k1 q fun c2 H2 S2 k2 st2 q2 => hc c2 H2 S2 k2 (st1.trans st2) q2
  | true => rw [if_pos rfl] at q ⊢; exact hc true H1 S1 k1 st1 q⟩
theorem du (h : VWe K X e tA wA) : VTe K X e tA wA := ⟨h.pe.pt, h.snd⟩
theorem bU (h : VTe K X a tA wA) : VTe K X (.UnaryOp .Not a pos) (AL tA) (A2 wA) := ⟨xS h.pe, fun H0 Z σ H S Q C k t hc => h.snd H0 Z σ H S _ _ k t fun c H1 S1 k1 st1 q => hc (!c) H1 S1 k1 st1 q⟩
def wL (ta tb : VT) : VT := fun S Q => ta S fun r S1 => ∃ c, r = .d (.bl c) /\ if c = true then tb S1 Q else Q (.d (.bl false)) S1
def wM (ta : VT) : VT := fun S Q => ta S fun r S1 => ∃ c, r = .d (.bl c) /\ Q (.d (.bl (!c))) S1
theorem fc {op} (h : VE K X m a ta va) : VE K X m (.BoolOp op [a] pos) ta va := ⟨xT h.pe, h.snd⟩
theorem cU (ha : VE K X m a ta va) (hb : VE K X m (.BoolOp .And (b :: rest) pos) tb vb) : VE K X m (.BoolOp .And (a :: b :: rest) pos) (wy ta tb) (wL va vb) := ⟨xU ha.pe hb.pe, fun H0 Z σ H S Q C k t hc =>
 ha.snd H0 Z σ H S _ _ k t fun v H1 r S1 k1 st1 rr zq1 => by
  obtain ⟨c, e, q⟩ := zq1
  subst e
  cases (show Rep K _ _ H1 v (.bl c) from rr)
  refine ⟨c, rfl, ?_⟩
  cases c with
  | true => rw [if_pos rfl] at q ⊢; exact hb.snd H0 Z σ H1 S1 _ _ k1 q fun v2 H2 r2 S2 k2 st2 rr2 q2 => hc v2 H2 r2 S2 k2 (st1.trans st2) rr2 q2
  | false => rw [if_neg Bool.false_ne_true] at q ⊢; exact hc _ H1 (.d (.bl false)) S1 k1 st1 (Rep.bl false) q⟩
theorem qH (ha : VE K X m a ta va) : VE K X m (.UnaryOp .Not a pos) (wz ta) (wM va) := ⟨xV ha.pe, fun H0 Z σ H S Q C k t hc =>
 ha.snd H0 Z σ H S _ _ k t fun v H1 r S1 k1 st1 rr zq1 => by
  obtain ⟨c, e, q⟩ := zq1
  subst e
  cases (show Rep K _ _ H1 v (.bl c) from rr)
  exact ⟨c, rfl, hc _ H1 (.d (.bl (!c))) S1 k1 st1 (Rep.bl _) q⟩⟩
def vIf (t : VTT) (ta tb : VT) : VT := fun S Q => t S fun c S1 => if c = true then ta S1 Q else tb S1 Q
theorem lp (hc : VTe K X c tA wA) (ha : VE K X m a ta va) (hb : VE K X m b tb vb) : VE K X m (.IfExp c a b pos) (tIf tA ta tb) (vIf wA va vb) := ⟨pY hc.pe ha.pe hb.pe, fun H0 Z σ H S Q C k t hq =>
 hc.snd H0 Z σ H S _ _ k t fun c H1 S1 k1 st1 q => by
  cases c with
  | true => rw [if_pos rfl] at q ⊢; exact ha.snd H0 Z σ H1 S1 _ _ k1 q fun v2 H2 r2 S2 k2 st2 rr2 q2 => hq v2 H2 r2 S2 k2 (st1.trans st2) rr2 q2
  | false => rw [if_neg Bool.false_ne_true] at q ⊢; exact hb.snd H0 Z σ H1 S1 _ _ k1 q fun v2 H2 r2 S2 k2 st2 rr2 q2 => hq v2 H2 r2 S2 k2 (st1.trans st2) rr2 q2⟩
end
section
variable {es : List Expr} {tr : TA} {vr : VTA}
def um : VTA := fun S Q => Q [] S
def lq (va : VT) (vr : VTA) : VTA := fun S Q => va S fun r S1 => vr S1 fun rs S2 => Q (r :: rs) S2
theorem af : VA K X m [] fU um := ⟨dq, fun _ _ _ _ _ _ _ k h q => q _ _ _ _ k .refl .nil h⟩
theorem ae (ha : VE K X m e te va) (hr : VA K X m es tr vr) (hs : starEach (e :: es) X.env = (false, eval e X.env) :: starEach es X.env := by rfl) : VA K X m (e :: es) (cQ te tr) (lq va vr) := ⟨bR ha.pe hr.pe hs, fun H0 Z σ H S Q C k t hc =>
 ha.snd H0 Z σ H S _ _ k t fun v H1 r S1 k1 st1 rr q => hr.snd H0 Z σ H1 S1 _ _ k1 q fun vs H2 rs S2 k2 st2 rrs q2 => hc (v :: vs) H2 (r :: rs) S2 k2 (st1.trans st2) (.cons (rr.step st2) rrs) q2⟩
def allD : List VR -> Option (List D)
 | [] => some []
 | .d x :: r => (allD r).map (x :: ·)
 | _ :: _ => none
theorem cI.allD (h : cI K F Z σ S H vs rs) (e : VL.allD rs = some ds) : Reps K (NM Z σ S) F H vs ds := by
 induction h generalizing ds with
 | nil => cases e; exact .nil
 | @cons v r vs rs h t ih =>
  cases r with
  | d x =>
   obtain ⟨es, h1, rfl⟩ := Option.map_eq_some_iff.mp (show (VL.allD rs).map (x :: ·) = some ds from e)
   exact .cons h (ih h1)
  | own i => cases e
theorem cI.length (h : cI K F Z σ S H vs rs) : vs.length = rs.length := by
 induction h with
 | nil => rfl
 | cons h t ih => simp [ih]
theorem eh : ∀ {rs : List VR} {ds : List D}, allD rs = some ds -> ds.length = rs.length
 | [], _, e => by cases e; rfl
 | .d x :: r, ds, e => by
  obtain ⟨es, h1, rfl⟩ := Option.map_eq_some_iff.mp (show (VL.allD r).map (x :: ·) = some ds from e)
  simp [eh h1]
 | .own _ :: _, _, e => by cases e
def yt (vr : VTA) : VT := fun S Q => vr S fun rs S1 => ∃ ds, allD rs = some ds /\ ds.length <= 1000 /\ Q (.d (.tup ds)) S1
theorem small {n : Nat} (h : n <= 1000) : n <= sizeLine := by rw [sizeLine_eq]; lia
theorem OK.nm {H0 H : Hp} (k : OK K H0 Z σ H S) {p : Addr} (hp : H p = none) : NM Z σ S p := fun z => by
 have e := k.mo z
 rw [hp] at e; exact e
theorem b9 {x1} (h : VA K X m es tr vr) : VE K X m (.Tuple es x1 pos) (yd tr) (yt vr) := ⟨qk h.pe, fun H0 Z σ H S Q C k t hc =>
 h.snd H0 Z σ H S _ _ k t fun vs H1 rs S1 k1 st1 rrs ⟨ds, e, hl, q⟩ => ⟨small (by rw [rrs.length, <- eh e]; exact hl), fun p hp => by
  have g := ba (o := .tup vs) hp
  exact hc _ _ (.d (.tup ds)) S1 (k1.grow g) (st1.trans (.grow g)) (Rep.tup (k1.nm hp) (.inl aD) ((rrs.allD e).mono (fun a n e => ⟨n, g a e⟩) fun _ x => x)) q⟩⟩
def A3 (vr : VTA) : VTN := fun S Q => vr S fun rs S1 => ∃ ds, allD rs = some ds /\ ds.length <= 1000 /\ Q ds S1
theorem cC {H0 H : Hp} {p : Addr} {o : HO} (hp : H p = none) (h : Reps K (NM Z σ S) (FM H0 true) H vs ds) : Reps K (fun b => NM Z σ S b /\ b ≠ p) (Fr H0) (upd H p o) vs ds :=
 h.mono (fun a n e => ⟨⟨n, fun z => e (by rw [z]; exact hp)⟩, ba hp a e⟩) fun _ x => x rfl
theorem cf (h : VA K X true es tr vr) : VN K X (.List es pos) (AT tr) (A3 vr) := ⟨ye h.pe, fun H0 Z σ H S Q C k t hc =>
 h.snd H0 Z σ H S _ _ k t fun vs H1 rs S1 k1 st1 rrs ⟨ds, e, hl, q⟩ => ⟨small (by rw [rrs.length, <- eh e]; exact hl), fun p hp =>
  hc p vs ds H1 _ S1 k1 st1 hp (ba hp) aD (cC hp (rrs.allD e)) q⟩⟩
def uo (t : VTN) : VT := fun S Q => t S fun ds S1 => Q (.d (.lst ds)) S1
theorem aT {t : VTN} (h : VN K X e te t) : VE K X m e te (uo t) := ⟨h.pe, fun H0 Z σ H S Q C k t hc => h.snd H0 Z σ H S _ _ k t fun a vs ds H1 H' S1 k1 st1 ha hg hl rr q => by
 refine hc _ H' (.d (.lst ds)) S1 (k1.grow hg) (st1.trans (.grow hg)) (Rep.lst (k1.nm ha) (fun _ => ⟨a, rfl, k1.dom a ha⟩) hl (rr.mono (fun b n e => ⟨n.1, rfl⟩) fun _ x _ => x)) q⟩
end
theorem e7.elems {H0 H : Hp} (h : e7 K F Z σ S H v r) (k : OK K H0 Z σ H S) (e : VL.get S r = some (.lst ds)) : ∃ a vs, v = .ref a /\ SqL K H a vs /\ Reps K (NM Z σ S) AnyF H vs ds := by
 cases r with
 | d y =>
  cases e
  obtain ⟨a, vs, rfl, hq, rr⟩ := Rep.sqL h
  exact ⟨a, vs, rfl, hq, rr.mono (fun _ n _ => ⟨n, rfl⟩) fun _ _ => trivial⟩
 | own i =>
  have h : σ[i]? = some (some v) := h
  have e : getO S[i]? = some (.lst ds) := e
  cases es : S[i]? with
  | none => rw [es] at e; cases e
  | some s =>
   rw [es] at e
   cases s with
   | no => cases e
   | val d => cases e
   | fre d => cases e
   | own ds =>
    cases e
    obtain ⟨a, vs, h1, h2, h3, h4⟩ := k.at_ i _ _ h es
    cases h1
    exact ⟨a, vs, rfl, .inl (.inl h2), h4.mono (fun _ n _ => ⟨n, rfl⟩) fun _ _ => trivial⟩
   | pen ad ns =>
    cases e
    obtain ⟨a, h1, _, h2⟩ := k.at_ i _ _ h es
    cases h1
    exact ⟨a, _, rfl, .inl (.inl h2), Reps.ints⟩
   | odi ks ds => cases e
   | obj k => cases e
theorem e7.elemsT {H0 H : Hp} (h : e7 K F Z σ S H v r) (k : OK K H0 Z σ H S) (e : VL.get S r = some (.tup ds)) : ∃ a vs, v = .ref a /\ SqT K H a vs /\ Reps K (NM Z σ S) AnyF H vs ds := by
 cases r with
 | d y =>
  cases e
  cases (show Rep K (NM Z σ S) F H v (.tup ds) from h) with
  | tup n h2 r2 => exact ⟨_, _, rfl, .inl h2, r2.mono (fun _ n _ => ⟨n, rfl⟩) fun _ _ => trivial⟩
  | tupK h2 r2 => exact ⟨_, _, rfl, fF h2, r2.mono (fun _ n _ => ⟨n, rfl⟩) fun _ _ => trivial⟩
 | own i =>
  have e : getO S[i]? = some (.tup ds) := e
  cases es : S[i]? with
  | none => rw [es] at e; cases e
  | some s => rw [es] at e; cases s <;> cases e
end
end VL
end
section
namespace VL
open PySem L2
section
variable {K : PySem.W.Frag} {X : Cx} {m : Bool} {e a b c : Expr} {ta tb tc te : TE} {va vb vc : VT} {pos : Pos}
theorem lu {N : AP} {i : Int} (r : Reps K N F H vs ds) (h : atI ds i = some d) : ∃ v, atI vs i = some v /\ Rep K N F H v d := by
 unfold atI at h ⊢
 rw [r.length]
 cases e : ixN ds.length i with
 | none => rw [e] at h; cases h
 | some j =>
  rw [e] at h
  exact r.getD h
def vIx (va vb : VT) : VT := fun S Q => va S fun ra S1 => vb S1 fun rb S2 => ∃ ds i d, (get S2 ra = some (.lst ds) \/ get S2 ra = some (.tup ds)) /\ get S2 rb = some (.int i) /\ atI ds i = some d /\ Q (.d d) S2
theorem bj (hK : X.K = K) (ha : VE K X false a ta va) (hb : VE K X false b tb vb) (hs : gL b) : VE K X false (.Subscript a b pos) (tOp (rIx K) ta tb) (vIx va vb) := ⟨by subst hK; exact qr qt ha.pe hb.pe hs, fun H0 Z σ H S Q C k t hc =>
 ha.snd H0 Z σ H S _ _ k t fun x H1 ra S1 k1 st1 r1 t1 => hb.snd H0 Z σ H1 S1 _ _ k1 t1 fun y H2 rb S2 k2 st2 r2 zq1 => by
  obtain ⟨ds, i, d, e1, e2, e3, q⟩ := zq1
  cases r2.get k2 e2
  have fin : ∀ v, Rep K (NM Z σ S2) AnyF H2 v d -> C v H2 := fun v rv => hc v H2 (.d d) S2 k2 (st1.trans st2) (show Rep K _ _ H2 v d from rv.mono (fun _ n _ => ⟨n, rfl⟩) fun _ _ => FM.any) q
  rcases e1 with e1 | e1
  ·obtain ⟨p, vs, rfl, hq, rr⟩ := (r1.step st2).elems k2 e1
   obtain ⟨v, h1, h2⟩ := lu rr e3
   exact .inl ⟨p, vs, i, v, rfl, rfl, hq, h1, fin v h2⟩
  ·obtain ⟨p, vs, rfl, hq, rr⟩ := (r1.step st2).elemsT k2 e1
   obtain ⟨v, h1, h2⟩ := lu rr e3
   exact .inr (.inl ⟨p, vs, i, v, rfl, rfl, hq, h1, fin v h2⟩)⟩
section
variable {es : List Expr} {tr : TA} {vr : VTA} {x : Str} {p : Pos} {id T : String} {r : List V -> Hp -> VK -> Prop}
def vCB (w : List D -> (D -> Prop) -> Prop) (vr : VTA) : VT := fun S Q => vr S fun rs S1 => ∃ ds, gets S1 rs = some ds /\ w ds fun d => Q (.d d) S1
def dv (K : PySem.W.Frag) (r : List V -> Hp -> VK -> Prop) (w : List D -> (D -> Prop) -> Prop) : Prop := ∀ (xs : List V) (H : Hp) (ds : List D) (q : D -> Prop) (C : VK), Reps K Any AnyF H xs ds -> w ds q -> (∀ z dz, q dz -> (∀ N F, Rep K N F H z dz) -> C z H) -> r xs H C
theorem A4 {w : List D -> (D -> Prop) -> Prop} (L : dv K r w) (ha : yq K false tr vr) : SndE K m (tCB r tr) (vCB w vr) := fun H0 Z σ H S Q C k t hc =>
 ha H0 Z σ H S _ _ k t fun vs H1 rs S1 k1 st1 rrs zt1 => by obtain ⟨ds, e, q⟩ := zt1; exact L vs H1 ds _ _ (rrs.gets k1 e) q fun z dz q rz => hc z H1 (.d dz) S1 k1 st1 (rz _ _) q
theorem ay {w : List D -> (D -> Prop) -> Prop} (hc : bW X (.builtin id) r) (L : dv K r w) (hg : Gl X x) (hm : X.mg x = none) (hv : bootBuiltins x = some (.builtin id)) (ha : VA K X false (e :: es) tr vr) (hn : x ≠ "__name__" := by decide) (hdb : (x == ("__debug__" : Str)) = false := by decide)
  (he : starEach (e :: es) X.env = (false, eval e X.env) :: starEach es X.env := by rfl) (hpl : (backTo pos (starEach es X.env)).any (·.1) = false := by rfl) : VE K X m (.Call (.Name x p) (e :: es) [] pos) (tCB r tr) (vCB w vr) := ⟨fw hc hg hm hv ha.pe hn hdb he hpl, A4 L ha.snd⟩
theorem eQ {w : List D -> (D -> Prop) -> Prop} (hc : bW X (.type T) r) (L : dv K r w) (hg : Gl X x) (hm : X.mg x = none) (hv : bootBuiltins x = some (.type T)) (ha : VA K X false (e :: es) tr vr) (hn : x ≠ "__name__" := by decide) (hdb : (x == ("__debug__" : Str)) = false := by decide)
  (he : starEach (e :: es) X.env = (false, eval e X.env) :: starEach es X.env := by rfl) (hpl : (backTo pos (starEach es X.env)).any (·.1) = false := by rfl) : VE K X m (.Call (.Name x p) (e :: es) [] pos) (tCB r tr) (vCB w vr) := ⟨jq hc hg hm hv ha.pe hn hdb he hpl, A4 L ha.snd⟩
theorem rep1 {N : AP} {xs : List V} (h : Reps K N F H xs [d]) : ∃ v, xs = [v] /\ Rep K N F H v d := by
 cases h with | cons h t => cases t; exact ⟨_, rfl, h⟩
theorem rep2 {N : AP} {xs : List V} {d d' : D} (h : Reps K N F H xs [d, d']) : ∃ v u, xs = [v, u] /\ Rep K N F H v d /\ Rep K N F H u d' := by
 cases h with | cons h t => cases t with | cons h' t => cases t; exact ⟨_, _, rfl, h, h'⟩
def yu : List D -> (D -> Prop) -> Prop := fun ds q => ∃ es, (ds = [.lst es] \/ ds = [.tup es]) /\ q (.int es.length)
theorem gv : dv K (fun xs H Q => ∃ p ys, xs = [.ref p] /\ (SqL K H p ys \/ SqT K H p ys) /\ Q (.int ys.length) H) yu := by
 rintro xs H ds q C r ⟨es, rfl | rfl, h⟩ hc
 ·obtain ⟨v, rfl, rv⟩ := rep1 r
  obtain ⟨a, vs, rfl, hq, rr⟩ := rv.sqL
  exact ⟨a, vs, rfl, .inl hq, by rw [rr.length]; exact hc _ _ h fun _ _ => .int _⟩
 ·obtain ⟨v, rfl, rv⟩ := rep1 r
  obtain ⟨a, vs, rfl, hq, rr⟩ := rv.sqT
  exact ⟨a, vs, rfl, .inr hq, by rw [rr.length]; exact hc _ _ h fun _ _ => .int _⟩
def A5 : List D -> (D -> Prop) -> Prop := fun ds q => ∃ i, ds = [.int i] /\ q (.int (if i < 0 then -i else i))
theorem qI : dv K (fun xs H Q => ∃ i, xs = [.int i] /\ Q (.int (if i < 0 then -i else i)) H) A5 := by
 rintro xs H ds q C r ⟨i, rfl, h⟩ hc
 obtain ⟨v, rfl, rv⟩ := rep1 r
 cases rv
 exact ⟨i, rfl, hc _ _ h fun _ _ => .int _⟩
def wMM (g : Int -> Int -> Int) : List D -> (D -> Prop) -> Prop := fun ds q => ∃ i j, ds = [.int i, .int j] /\ q (.int (g i j))
theorem Dk {g : Int -> Int -> Int} : dv K (fun xs H Q => ∃ i j, xs = [.int i, .int j] /\ Q (.int (g i j)) H) (wMM g) := by
 rintro xs H ds q C r ⟨i, j, rfl, h⟩ hc
 obtain ⟨v, u, rfl, rv, ru⟩ := rep2 r
 cases rv; cases ru
 exact ⟨i, j, rfl, hc _ _ h fun _ _ => .int _⟩
def Dl : List D -> (D -> Prop) -> Prop := fun ds q => (∃ i, ds = [.int i] /\ q (.int i)) \/ ∃ k : Bool, ds = [.bl k] /\ q (.int (if k then 1 else 0))
theorem wN : dv K (fun xs H Q => (∃ i, xs = [.int i] /\ Q (.int i) H) \/ ∃ k, xs = [.bl k] /\ Q (.int (if k then 1 else 0)) H) Dl := by
 rintro xs H ds q C r (⟨i, rfl, h⟩ | ⟨i, rfl, h⟩) hc
 ·obtain ⟨v, rfl, rv⟩ := rep1 r
  cases rv
  exact .inl ⟨i, rfl, hc _ _ h fun _ _ => .int _⟩
 ·obtain ⟨v, rfl, rv⟩ := rep1 r
  cases rv
  exact .inr ⟨i, rfl, hc _ _ h fun _ _ => .int _⟩
def tyD : D -> String
 | .int _ => "int" | .bl _ => "bool" | .non => "NoneType" | .str _ => "str" | .tup _ => "tuple" | .lst _ => "list" | .ty _ => "type" | .dic _ _ => "dict" | .exc _ => ""
def isE : D -> Bool
 | .exc _ => true
 | _ => false
def A6 : List D -> (D -> Prop) -> Prop := fun ds q => ∃ x c b, ds = [x, .ty c] /\ (∀ n, x ≠ .ty n) /\ isE x = false /\ o9 (tyD x) c = some b /\ q (.bl b)
theorem eX : dv K (yo K) A6 := by
 rintro xs H ds q C r ⟨x, c, b, rfl, hn, hE, e, h⟩ hc
 obtain ⟨v, u, rfl, rv, ru⟩ := rep2 r
 cases ru
 refine ⟨v, tyD x, c, b, rfl, ?_, e, hc _ _ h fun _ _ => .bl _⟩
 cases rv with
 | int i => exact .int i
 | bl i => exact .bl i
 | non => exact .non
 | str i => exact .str i
 | ty i => exact (hn _ rfl).elim
 | tup n h r => exact .tup (.inl h)
 | tupK h r => exact .tup (fF h)
 | lst n f h r => exact .lst (.inl (.inl h))
 | lstF n f h r => exact .lst (.inl (.inr ⟨_, h⟩))
 | lstK f h r => exact .lst (ik h)
 | dic n f h e _ r => exact .dE h
 | exc n h e => cases hE
theorem cI.one {r : VR} (h : cI K F Z σ S H vs [r]) : ∃ v, vs = [v] /\ e7 K F Z σ S H v r := by
 cases h with | cons h t => cases t; exact ⟨_, rfl, h⟩
def nF (vr : VTA) : VTN := fun S Q => vr S fun rs S1 => ∃ r ds, rs = [r] /\ (get S1 r = some (.lst ds) \/ get S1 r = some (.tup ds)) /\ flats ds = true /\ Q ds S1
theorem fX {H0 H : Hp} {p : Addr} {o : HO} (hp : H p = none) (h : Reps K (NM Z σ S) F H vs ds) (f : flats ds = true) : Reps K (fun b => NM Z σ S b /\ b ≠ p) (Fr H0) (upd H p o) vs ds :=
 cC hp (Reps.flat h f)
theorem uq (hK : X.K = K) (hg : Gl X "list") (hm : X.mg "list" = none) (ha : VA K X false [e] tr vr) (he : starEach [e] X.env = [(false, eval e X.env)] := by rfl) :
  VN K X (.Call (.Name "list" p) [e] [] pos) (tCB (fun xs H Q => ∃ p ys, xs = [.ref p] /\ (SqL K H p ys \/ SqT K H p ys) /\ ∀ l, H l = none -> Q (.ref l) (upd H l (.lst ys))) tr) (nF vr) :=
 ⟨by subst hK; exact jq jT hg hm jU ha.pe (by decide) (by decide) he rfl, fun H0 Z σ H S Q C k t hc => ha.snd H0 Z σ H S _ _ k t fun vs H1 rs S1 k1 st1 rrs zq1 => by
  obtain ⟨r, ds, e1, e2, f, q⟩ := zq1
  subst e1
  obtain ⟨v, rfl, rv⟩ := rrs.one
  rcases e2 with e2 | e2
  ·obtain ⟨a, ys, rfl, hq, rr⟩ := rv.elems k1 e2
   exact ⟨a, ys, rfl, .inl hq, fun l hl => hc l ys ds H1 _ S1 k1 st1 hl (ba hl) aD (fX hl rr f) q⟩
  ·obtain ⟨a, ys, rfl, hq, rr⟩ := rv.elemsT k1 e2
   exact ⟨a, ys, rfl, .inr hq, fun l hl => hc l ys ds H1 _ S1 k1 st1 hl (ba hl) aD (fX hl rr f) q⟩⟩
@[reducible] def eT (ms : List Int) : D := .tup (ms.map .int)
@[reducible] def eL (mss : List (List Int)) : D := .lst (mss.map eT)
theorem dG : ∀ ms : List Int, flats (ms.map D.int) = true
 | [] => rfl
 | _ :: r => by simp [flats, flat, dG r]
theorem iq : ∀ mss : List (List Int), flats (mss.map eT) = true
 | [] => rfl
 | _ :: r => by simp [flats, eT, flat, dG, iq r]
theorem jx {N : AP} : ∀ {vs : List V} {mss : List (List Int)}, Reps K N F H vs (mss.map eT) -> ∃ ps, vs = ps.map V.ref /\ gI K H ps mss /\ (∀ p ∈ ps, H p = none -> N p -> False \/ True)
 | _, [], .nil => ⟨[], rfl, .nil, fun _ h => nomatch h⟩
 | _, ms :: r, .cons h t => by
  obtain ⟨ps, rfl, h1, h2⟩ := jx t
  obtain ⟨a, vs, rfl, hq, rr⟩ := Rep.sqT h
  cases Reps.toInts rr
  exact ⟨a :: ps, rfl, .cons hq h1, fun _ _ _ _ => .inr trivial⟩
theorem fH {N : AP} (hN : ∀ p vs, Rd H p (.tup vs) -> N p) : ∀ {ps : List Addr} {mss : List (List Int)}, gI K H ps mss -> Reps K N F H (ps.map V.ref) (mss.map eT)
 | _, _, .nil => .nil
 | _, _, .cons h t => by
  refine .cons ?_ (fH hN t)
  rcases h with h | h
  ·exact .tup (hN _ _ h) h Reps.ints
  ·exact .tupK (.inr h) Reps.ints
def qJ (vr : VTA) : VTN := fun S Q => vr S fun rs S1 => ∃ r mss, rs = [r] /\ get S1 r = some (eL mss) /\ (∀ ms ∈ mss, ms ≠ []) /\ mss.length < 64 /\ Q ((srt mss).map eT) S1
theorem OK.tupN {H0 H : Hp} (k : OK K H0 Z σ H S) : ∀ p vs, Rd H p (.tup vs) -> NM Z σ S p := fun p vs h z => by
 have e := k.mo z
 rcases h with h | ⟨o, h⟩ <;> rw [h] at e <;> exact e
theorem qK (hK : X.K = K) (hex : X.ex = []) (hg : Gl X "sorted") (hm : X.mg "sorted" = none) (hb : bootBuiltins "sorted" = some (.builtin "sorted")) (ha : VA K X false [e] tr vr) (he : starEach [e] X.env = [(false, eval e X.env)] := by rfl) :
  VN K X (.Call (.Name "sorted" p) [e] [] pos) (tCB (qC K) tr) (qJ vr) :=
 ⟨by subst hK; exact fw (mG hex) hg hm hb ha.pe (by decide) (by decide) he rfl, fun H0 Z σ H S Q C k t hc => ha.snd H0 Z σ H S _ _ k t fun vs H1 rs S1 k1 st1 rrs zq1 => by
  obtain ⟨r, mss, e1, e2, h1, h2, q⟩ := zq1
  subst e1
  obtain ⟨v, rfl, rv⟩ := rrs.one
  obtain ⟨a, ys, rfl, hq, rr⟩ := rv.elems k1 e2
  obtain ⟨ps, rfl, ht, _⟩ := jx rr
  exact ⟨a, ps, mss, rfl, hq, ht, h1, h2, fun l ps' hl ht' => hc l _ _ H1 _ S1 k1 st1 hl (ba hl) aD (cC hl (fH k1.tupN ht')) q⟩⟩
end
def spP (K : PySem.W.Frag) (p : List D -> (D -> Prop) -> Prop) : Sp := fun vs H Q _ => ∃ ds R, Reps K Any AnyF H vs ds /\ p ds R /\ ∀ d v H', R d -> (∀ a, H a ≠ none -> H' a = H a) -> Rep K Any (Fr H) H' v d -> Q v H'
def spI (K : PySem.W.Frag) (j : Nat) (p : List Int -> List D -> (D -> List Int -> Prop) -> Prop) : Sp := fun vs H Q _ => ∃ a ws us ns ds es R, vs = ws ++ .ref a :: us /\ ws.length = j /\ H a = some (.lst (ns.map .int)) /\ Reps K (· ≠ a) AnyF H ws ds /\ Reps K (· ≠ a) AnyF H us es /\ p ns (ds ++ es) R /\
 ∀ d ns' v H', R d ns' -> (∀ b, b ≠ a -> H b ≠ none -> H' b = H b) -> H' a = some (.lst (ns'.map .int)) -> Rep K (· ≠ a) (Fr H) H' v d -> Q v H'
section
variable {es : List Expr} {tr : TA} {vr : VTA} {x : Str} {p0 : Pos} {j k : Nat} {ps : List Str}
def vFn (p : List D -> (D -> Prop) -> Prop) (vr : VTA) : VT := fun S Q => vr S fun rs S1 => ∃ ds, gets S1 rs = some ds /\ p ds fun d => Q (.d d) S1
def A7 (p : List D -> (D -> Prop) -> Prop) (vr : VTA) : VTN := fun S Q => vr S fun rs S1 => ∃ ds, gets S1 rs = some ds /\ p ds fun d => ∃ es, d = .lst es /\ flats es = true /\ Q es S1
theorem bA (E : Has X.prog X.w X.K X.mg X.base k x ps (spP K p)) (hr : cj j X.A) (ha : VA K X false (e :: es) tr vr)
  (hk : k <= j := by decide) (hg : Gl X x := by rfl) (hdb : (x == ("__debug__" : Str)) = false := by decide) (he : starEach (e :: es) X.env = (false, eval e X.env) :: starEach es X.env := by rfl)
  (hpl : (backTo pos (starEach es X.env)).any (·.1) = false := by rfl) : VE K X m (.Call (.Name x p0) (e :: es) [] pos) (jh (spP K p) [] E0 tr) (vFn p vr) := ⟨nr E hr ha.pe hk hg hdb he hpl, fun H0 Z σ H S Q C k t hc =>
 ha.snd H0 Z σ H S _ _ k t fun vs H1 rs S1 k1 st1 rrs zq1 => by
  obtain ⟨ds, e, q⟩ := zq1
  refine ⟨ds, _, by rw [List.append_nil]; exact rrs.gets k1 e, q, fun d v H' q g r => ?_⟩
  refine hc v H' (.d d) S1 (k1.grow g) (st1.trans (.grow g)) (show Rep K _ _ H' v d from ?_) q
  refine (Rep.avoid (N' := NM Z σ S1) (fun a z => ?_) (fun a zq1 => by obtain ⟨b, e, f⟩ := zq1; cases e; exact k1.nm f) r).mono (fun _ n _ => ⟨n, rfl⟩) (fun o zt1 _ => by obtain ⟨b, e, f⟩ := zt1; exact ⟨b, e, k1.dom b f⟩)
  have e := k1.mo (Classical.not_not.mp z)
  rw [g a e.ne]; exact e⟩
theorem qL (E : Has X.prog X.w X.K X.mg X.base k x ps (spP K p)) (hr : cj j X.A) (ha : VA K X false (e :: es) tr vr)
  (hk : k <= j := by decide) (hg : Gl X x := by rfl) (hdb : (x == ("__debug__" : Str)) = false := by decide) (he : starEach (e :: es) X.env = (false, eval e X.env) :: starEach es X.env := by rfl)
  (hpl : (backTo pos (starEach es X.env)).any (·.1) = false := by rfl) : VN K X (.Call (.Name x p0) (e :: es) [] pos) (jh (spP K p) [] E0 tr) (A7 p vr) := ⟨nr E hr ha.pe hk hg hdb he hpl, fun H0 Z σ H S Q C k t hc =>
 ha.snd H0 Z σ H S _ _ k t fun vs H1 rs S1 k1 st1 rrs zq1 => by
  obtain ⟨ds, e, q⟩ := zq1
  refine ⟨ds, _, by rw [List.append_nil]; exact rrs.gets k1 e, q, fun d v H' ⟨es, ed, hf, q⟩ g r => ?_⟩
  subst ed
  have r2 := Rep.avoid (N' := NM Z σ S1) (fun a z => by
   have e := k1.mo (Classical.not_not.mp z)
   rw [g a e.ne]; exact e) (fun a zq1 => by obtain ⟨b, e, f⟩ := zq1; cases e; exact k1.nm f) r
  cases r2 with
  | @lst a ws _ n f h rs =>
   obtain ⟨b, e, f⟩ := f
   cases e
   refine hc a ws es H1 H' S1 k1 st1 f g h ?_ q
   refine (Reps.avoid (N' := fun b => NM Z σ S1 b /\ b ≠ a) (fun b z => ?_) (fun b fb => fb.elim) (Reps.flat (F' := fun _ => False) rs hf)).mono (fun _ n _ => ⟨n, rfl⟩) (fun o f => f.elim)
   by_cases hb : b = a
   ·subst hb; rw [h]; trivial
   ·have e := k1.mo (Classical.byContradiction fun y => z ⟨y, hb⟩)
    rw [g b e.ne]; exact e
  | lstF n f h rs => obtain ⟨b, e, f⟩ := f; cases e
  | lstK f h rs => obtain ⟨b, e, f⟩ := f; cases e⟩
end
end
end VL
end
section
namespace VL
open PySem L2
section
variable {K : PySem.W.Frag} {H H' H0 : Hp} {Z : AP} {σ : St} {S : List Sl}
theorem OK.put (k : OK K H0 Z σ H S) {i : Nat} {o : Option V} {s : Sl} (hi : i < S.length)
  (hN : ∀ a, NM Z σ S a -> H a ≠ none -> NM Z (σ.set i o) (S.set i s) a /\ H' a = H a)
  (hM : ∀ j s', j ≠ i -> S[j]? = some s' -> s'.mut = true -> ∀ a, σ[j]? = some (some (V.ref a)) -> H' a = H a)
  (hs : ph K H0 (NM Z (σ.set i o) (S.set i s)) H' o s)
  (hj : ∀ j a t, j ≠ i -> S[j]? = some t -> t.mut = true -> s.mut = true -> o = some (V.ref a) -> σ[j]? ≠ some (some (V.ref a)))
  (hd : ∀ a, H' a = none -> H a = none) (hz : ∀ a, Z a -> IsM (H' a)) (hnz : ∀ a, s.mut = true -> o = some (V.ref a) -> ¬Z a) : OK K H0 Z (σ.set i o) H' (S.set i s) where
 len := by simp [k.len]
 dom := fun a e => k.dom a (hd a e)
 zl := hz
 nz := fun j t a h1 h2 h3 => by
  have hi' : i < σ.length := by rw [k.len]; exact hi
  by_cases hji : i = j
  ·subst hji
   rw [List.getElem?_set_self hi] at h1
   rw [List.getElem?_set_self hi'] at h3
   cases h1
   exact hnz a h2 (Option.some.inj h3)
  ·rw [List.getElem?_set_ne hji] at h1 h3
   exact k.nz j t a h1 h2 h3
 inj := fun a b c t u h1 h2 m1 m2 h3 h4 => by
  have hi' : i < σ.length := by rw [k.len]; exact hi
  by_cases ha : i = a
  ·by_cases hb : i = b
   ·lia
   ·subst ha
    rw [List.getElem?_set_self hi] at h1
    rw [List.getElem?_set_self hi'] at h3
    rw [List.getElem?_set_ne hb] at h2 h4
    cases h1
    exact (hj b c u (fun z => hb z.symm) h2 m2 m1 (Option.some.inj h3) h4).elim
  ·by_cases hb : i = b
   ·subst hb
    rw [List.getElem?_set_self hi] at h2
    rw [List.getElem?_set_self hi'] at h4
    rw [List.getElem?_set_ne ha] at h1 h3
    cases h2
    exact (hj a c t (fun z => ha z.symm) h1 m1 m2 (Option.some.inj h4) h3).elim
   ·rw [List.getElem?_set_ne ha] at h1 h3
    rw [List.getElem?_set_ne hb] at h2 h4
    exact k.inj a b c t u h1 h2 m1 m2 h3 h4
 at_ := fun j o' s' h1 h2 => by
  have hi' : i < σ.length := by rw [k.len]; exact hi
  by_cases hji : i = j
  ·subst hji
   rw [List.getElem?_set_self hi'] at h1
   rw [List.getElem?_set_self hi] at h2
   cases h1; cases h2
   exact hs
  ·rw [List.getElem?_set_ne hji] at h1 h2
   have q := k.at_ j o' s' h1 h2
   cases s' with
   | no => trivial
   | val d => obtain ⟨v, e, r⟩ := q; exact ⟨v, e, r.mono hN fun _ x => x⟩
   | fre d => obtain ⟨v, e, r⟩ := q; exact ⟨v, e, r.mono hN fun _ x => x⟩
   | own ds =>
    obtain ⟨a, vs, e, e', e0, r⟩ := q
    exact ⟨a, vs, e, by rw [hM j _ (fun z => hji z.symm) h2 rfl a (by rw [h1, e])]; exact e', e0, r.mono hN fun _ x => x⟩
   | pen ad ns =>
    obtain ⟨a, e, e1, e'⟩ := q
    exact ⟨a, e, e1, by rw [hM j _ (fun z => hji z.symm) h2 rfl a (by rw [h1, e])]; exact e'⟩
   | odi ks ds =>
    obtain ⟨a, vs, e, e', e0, ek, r⟩ := q
    exact ⟨a, vs, e, by rw [hM j _ (fun z => hji z.symm) h2 rfl a (by rw [h1, e])]; exact e', e0, ⟨ek.1, ek.2.mono hN fun _ x => x⟩, r.mono hN fun _ x => x⟩
   | obj k =>
    obtain ⟨a, e, e0, r⟩ := q
    exact ⟨a, e, e0, k.mono hN (hM j _ (fun z => hji z.symm) h2 rfl a (by rw [h1, e])) r⟩
theorem ir {i : Nat} {o : Option V} {s : Sl} {a : Addr} (h : Mo Z (σ.set i o) (S.set i s) a) : Mo Z σ S a \/ (s.mut = true /\ o = some (V.ref a)) := by
 rcases h with ⟨j, t, h1, h2, h3⟩ | h
 ·by_cases hji : i = j
  ·subst hji
   have l1 := (List.getElem?_eq_some_iff.mp h1).1
   have l2 := (List.getElem?_eq_some_iff.mp h3).1
   rw [List.length_set] at l1 l2
   rw [List.getElem?_set_self l1] at h1
   rw [List.getElem?_set_self l2] at h3
   cases h1
   exact .inr ⟨h2, Option.some.inj h3⟩
  ·rw [List.getElem?_set_ne hji] at h1 h3
   exact .inl (.inl ⟨j, t, h1, h2, h3⟩)
 ·exact .inl (.inr h)
theorem OK.setVal (k : OK K H0 Z σ H S) {i : Nat} (hi : i < S.length) (h : Rep K (NM Z σ S) AnyF H v d) : OK K H0 Z (σ.set i (some v)) H (S.set i (.val d)) /\ Step Z σ S H (σ.set i (some v)) (S.set i (.val d)) H := by
 have n : ∀ a, NM Z σ S a -> NM Z (σ.set i (some v)) (S.set i (.val d)) a := fun a x z => by
  rcases ir z with z | ⟨z, _⟩
  ·exact x z
  ·cases z
 exact ⟨k.put hi (fun a x _ => ⟨n a x, rfl⟩) (fun _ _ _ _ _ _ _ => rfl) ⟨v, rfl, h.mono (fun a x _ => ⟨n a x, rfl⟩) fun _ x => x⟩ (fun _ _ _ _ _ _ z => nomatch z) (fun _ e => e) k.zl (fun _ z => nomatch z), fun a x _ => ⟨rfl, n a x⟩, fun _ e => e, fun _ _ _ => rfl⟩
theorem OK.setNew (k : OK K H0 Z σ H S) {i : Nat} {a : Addr} {s : Sl} (hi : i < S.length) (ha : H a = none) (hg : ∀ b, H b ≠ none -> H' b = H b) (hs : ph K H0 (fun b => NM Z σ S b /\ b ≠ a) H' (some (.ref a)) s) (hm : s.mut = true) :
  OK K H0 Z (σ.set i (some (.ref a))) H' (S.set i s) /\ Step Z σ S H (σ.set i (some (.ref a))) (S.set i s) H' := by
 have n : ∀ b, NM Z σ S b /\ b ≠ a -> NM Z (σ.set i (some (.ref a))) (S.set i s) b := fun b x z => by
  rcases ir z with z | ⟨_, z⟩
  ·exact x.1 z
  ·cases z; exact x.2 rfl
 have n' : ∀ b, NM Z σ S b -> H b ≠ none -> NM Z (σ.set i (some (.ref a))) (S.set i s) b := fun b x e => n b ⟨x, fun z => e (by rw [z]; exact ha)⟩
 refine ⟨k.put hi (fun b x e => ⟨n' b x e, hg b e⟩) (fun j s' hj h1 h2 b h3 => ?_) ?_ (fun j b t hj h1 h2 h3 h4 h5 => ?_) (fun b e => Classical.byContradiction fun z => by rw [hg b z] at e; exact z e) (fun b z => ?_) (fun b h1 h2 z => ?_), fun b x e => ⟨hg b e, n' b x e⟩, fun b e => Classical.byContradiction fun z => by rw [hg b z] at e; exact z e, fun b z e => hg b e⟩
 ·have e := k.mo (.inl ⟨j, s', h1, h2, h3⟩)
  exact hg b e.ne
 ·cases s with
  | no => trivial
  | val d => cases hm
  | fre d => cases hm
  | own ds => obtain ⟨b, vs, e, e', e0, r⟩ := hs; exact ⟨b, vs, e, e', e0, r.mono (fun c x _ => ⟨n c x, rfl⟩) fun _ x => x⟩
  | pen ad ns => exact hs
  | obj k => obtain ⟨b, e, e0, r⟩ := hs; exact ⟨b, e, e0, k.mono (fun c x _ => ⟨n c x, rfl⟩) rfl r⟩
  | odi ks ds => obtain ⟨b, vs, e, e', e0, ek, r⟩ := hs; exact ⟨b, vs, e, e', e0, ⟨ek.1, ek.2.mono (fun c x _ => ⟨n c x, rfl⟩) fun _ x => x⟩, r.mono (fun c x _ => ⟨n c x, rfl⟩) fun _ x => x⟩
 ·cases h4
  have e := k.mo (.inl ⟨j, t, h1, h2, h5⟩)
  rw [ha] at e; exact e
 ·have e := k.zl b z
  rw [hg b e.ne]; exact e
 ·cases h2
  have e := k.zl _ z
  rw [ha] at e; exact e
theorem lw {α : Type} {l : List α} {i : Nat} {o : α} (h : l[i]? = some o) : l.set i o = l := by
 obtain ⟨h1, rfl⟩ := List.getElem?_eq_some_iff.mp h
 exact List.set_getElem_self h1
theorem OK.chgD (k : OK K H0 Z σ H S) {i : Nat} {a : Addr} {s₀ s : Sl} {o : HO} (h1 : S[i]? = some s₀) (h2 : s₀.mut = true) (h3 : σ[i]? = some (some (.ref a))) (hm : s.mut = true) (hs : ph K H0 (NM Z σ S) (upd H a o) (some (.ref a)) s) :
  OK K H0 Z σ (upd H a o) (S.set i s) /\ Step Z σ S H σ (S.set i s) (upd H a o) := by
 have hi : i < S.length := (List.getElem?_eq_some_iff.mp h1).1
 have ma : Mo Z σ S a := .inl ⟨i, s₀, h1, h2, h3⟩
 have ea := k.mo ma
 have hza : ¬Z a := k.nz i s₀ a h1 h2 h3
 have e3 := lw h3
 have n : ∀ b, NM Z σ S b -> NM Z σ (S.set i s) b := fun b x z => by
  rw [<- e3] at z
  rcases ir z with z | ⟨_, z⟩
  ·exact x z
  ·cases z; exact x ma
 have ne : ∀ b, NM Z σ S b -> b ≠ a := fun b x z => x (by rw [z]; exact ma)
 have q := k.put (H' := upd H a o) (i := i) (o := some (.ref a)) (s := s) hi (fun b x e => ⟨by rw [e3]; exact n b x, au (ne b x)⟩) (fun j s' hj g1 g2 b g3 => au fun z => hj (by subst z; exact k.inj j i b s' s₀ g1 h1 g2 h2 g3 h3)) (by
  rw [e3]
  cases s with
  | no => trivial
  | val d => cases hm
  | fre d => cases hm
  | own ds => obtain ⟨b, vs, e, e', e0, r⟩ := hs; exact ⟨b, vs, e, e', e0, r.mono (fun c x _ => ⟨n c x, rfl⟩) fun _ x => x⟩
  | pen ad ns => exact hs
  | obj k => obtain ⟨b, e, e0, r⟩ := hs; exact ⟨b, e, e0, k.mono (fun c x _ => ⟨n c x, rfl⟩) rfl r⟩
  | odi ks ds => obtain ⟨b, vs, e, e', e0, ek, r⟩ := hs; exact ⟨b, vs, e, e', e0, ⟨ek.1, ek.2.mono (fun c x _ => ⟨n c x, rfl⟩) fun _ x => x⟩, r.mono (fun c x _ => ⟨n c x, rfl⟩) fun _ x => x⟩) (fun j b t hj g1 g2 g3 g4 g5 => by
   cases g4
   exact hj (k.inj j i a t s₀ g1 h1 g2 h2 g5 h3)) (fun b e => by
   by_cases hb : b = a
   ·subst hb; rw [aD] at e; cases e
   ·rw [au hb] at e; exact e) (fun b z => by
   by_cases hb : b = a
   ·subst hb; exact (hza z).elim
   ·have e := k.zl b z
    rw [au hb]; exact e) (fun b _ e => by cases e; exact hza)
 rw [e3] at q
 refine ⟨q, fun b x e => ⟨au (ne b x), n b x⟩, fun b e => ?_, fun b z e => au fun y => hza (by rw [<- y]; exact z)⟩
 by_cases hb : b = a
 ·subst hb; rw [aD] at e; cases e
 ·rw [au hb] at e; exact e
theorem OK.chg (k : OK K H0 Z σ H S) {i : Nat} {a : Addr} {s₀ s : Sl} {o : HO} (h1 : S[i]? = some s₀) (h2 : s₀.mut = true) (h3 : σ[i]? = some (some (.ref a))) (ho : ∃ us, o = .lst us) (hm : s.mut = true) (hs : ph K H0 (NM Z σ S) (upd H a o) (some (.ref a)) s) :
  OK K H0 Z σ (upd H a o) (S.set i s) /\ Step Z σ S H σ (S.set i s) (upd H a o) := k.chgD h1 h2 h3 hm hs
end
structure bM where
 nx : List Sl -> Prop
 rt : D -> List Sl -> Prop
 bk : List Sl -> Prop := fun _ => False
 ct : List Sl -> Prop := fun _ => False
abbrev VTS := bM -> List Sl -> Prop
def NP (σ : St) (S : List Sl) : AP := fun a => ∀ (i : Nat) (ad : Option Addr) (ns : List Int), S[i]? = some (.pen ad ns) -> σ[i]? ≠ some (some (V.ref a))
structure Lf (K : PySem.W.Frag) (H0 : Hp) (Z : AP) (σ : St) (S : List Sl) (H : Hp) (V : bM) (E : Ends) : Prop where
 nx : ∀ σ' H' S', OK K H0 Z σ' H' S' -> Step Z σ S H σ' S' H' -> V.nx S' -> E.nx σ' H'
 bk : ∀ σ' H' S', OK K H0 Z σ' H' S' -> Step Z σ S H σ' S' H' -> V.bk S' -> E.bk σ' H'
 ct : ∀ σ' H' S', OK K H0 Z σ' H' S' -> Step Z σ S H σ' S' H' -> V.ct S' -> E.ct σ' H'
 rt : ∀ v d σ' H' S', OK K H0 Z σ' H' S' -> Step Z σ S H σ' S' H' -> Rep K (NP σ' S') (Fr H0) H' v d -> V.rt d S' -> E.rt v H'
theorem Lf.step {H0 H H1 : Hp} {σ σ1 : St} {S S1 : List Sl} {V : bM} {E : Ends} (l : Lf K H0 Z σ S H V E) (st : Step Z σ S H σ1 S1 H1) : Lf K H0 Z σ1 S1 H1 V E :=
 ⟨fun _ _ _ k s => l.nx _ _ _ k (st.trans s), fun _ _ _ k s => l.bk _ _ _ k (st.trans s), fun _ _ _ k s => l.ct _ _ _ k (st.trans s), fun _ _ _ _ _ k s => l.rt _ _ _ _ _ k (st.trans s)⟩
def yv (K : PySem.W.Frag) (ts : TS) (t : VTS) : Prop := ∀ H0 Z σ H S V E, OK K H0 Z σ H S -> t V S -> Lf K H0 Z σ S H V E -> ts E σ H
structure VS (K : PySem.W.Frag) (X : Cx) (st : Stmt) (ts : TS) (t : VTS) : Prop where
 ps : PS X st ts
 snd : yv K ts t
structure VSs (K : PySem.W.Frag) (X : Cx) (st : List Stmt) (ts : TS) (t : VTS) : Prop where
 ps : PSs X st ts
 snd : yv K ts t
inductive Wk : List Sl -> List Sl -> Prop where
 | nil : Wk [] []
 | keep {s : Sl} {S S' : List Sl} : Wk S S' -> Wk (s :: S) (s :: S')
 | fz {ds : List D} {S S' : List Sl} : Wk S S' -> Wk (.own ds :: S) (.val (.lst ds) :: S')
 | fd {ks : List (List Int)} {ds : List D} {S S' : List Sl} : Wk S S' -> Wk (.odi ks ds :: S) (.val (.dic ks ds) :: S')
 | drop {s : Sl} {S S' : List Sl} : Wk S S' -> Wk (s :: S) (.no :: S')
theorem Wk.refl : ∀ S, Wk S S
 | [] => .nil
 | _ :: r => .keep (Wk.refl r)
theorem Wk.len {S S' : List Sl} (h : Wk S S') : S.length = S'.length := by induction h <;> simp_all
theorem Wk.at_ {S S' : List Sl} (h : Wk S S') : ∀ {i : Nat} {s : Sl}, S'[i]? = some s -> ∃ s₀, S[i]? = some s₀ /\ (s = s₀ \/ s = .no \/ (∃ ds, s₀ = .own ds /\ s = .val (.lst ds)) \/ ∃ ks ds, s₀ = .odi ks ds /\ s = .val (.dic ks ds)) := by
 induction h with
 | nil => intro i s h; simp at h
 | keep h ih =>
  intro i s e
  cases i with
  | zero => simp at e; subst e; exact ⟨_, rfl, .inl rfl⟩
  | succ i => simpa using ih (i := i) (by simpa using e)
 | fz h ih =>
  intro i s e
  cases i with
  | zero => simp at e; subst e; exact ⟨_, rfl, .inr (.inr (.inl ⟨_, rfl, rfl⟩))⟩
  | succ i => simpa using ih (i := i) (by simpa using e)
 | fd h ih =>
  intro i s e
  cases i with
  | zero => simp at e; subst e; exact ⟨_, rfl, .inr (.inr (.inr ⟨_, _, rfl, rfl⟩))⟩
  | succ i => simpa using ih (i := i) (by simpa using e)
 | drop h ih =>
  intro i s e
  cases i with
  | zero => simp at e; subst e; exact ⟨_, rfl, .inr (.inl rfl)⟩
  | succ i => simpa using ih (i := i) (by simpa using e)
theorem Wk.mut {S S' : List Sl} (h : Wk S S') {i : Nat} {s : Sl} (e : S'[i]? = some s) (m : s.mut = true) : S[i]? = some s := by
 obtain ⟨s₀, h1, rfl | rfl | ⟨ds, rfl, rfl⟩ | ⟨ks, ds, rfl, rfl⟩⟩ := h.at_ e
 ·exact h1
 ·cases m
 ·cases m
 ·cases m
theorem OK.wk {H H0 : Hp} {S S' : List Sl} (k : OK K H0 Z σ H S) (w : Wk S S') : OK K H0 Z σ H S' /\ Step Z σ S H σ S' H := by
 have n : ∀ a, NM Z σ S a -> NM Z σ S' a := fun a x z => by
  rcases z with ⟨i, s, h1, h2, h3⟩ | z
  ·exact x (.inl ⟨i, s, w.mut h1 h2, h2, h3⟩)
  ·exact x (.inr z)
 refine ⟨⟨by rw [k.len, w.len], fun i o s h1 h2 => ?_, fun i j a s t h1 h2 m1 m2 h3 h4 => k.inj i j a s t (w.mut h1 m1) (w.mut h2 m2) m1 m2 h3 h4, k.dom, k.zl, fun i s a h1 m h3 => k.nz i s a (w.mut h1 m) m h3⟩, fun a x _ => ⟨rfl, n a x⟩, fun _ e => e, fun _ _ _ => rfl⟩
 obtain ⟨s₀, e, rfl | rfl | ⟨ds, rfl, rfl⟩ | ⟨ks, ds, rfl, rfl⟩⟩ := w.at_ h2
 ·have q := k.at_ i o s h1 e
  cases s with
  | no => trivial
  | val d => obtain ⟨v, e, r⟩ := q; exact ⟨v, e, r.mono (fun a x _ => ⟨n a x, rfl⟩) fun _ x => x⟩
  | fre d => obtain ⟨v, e, r⟩ := q; exact ⟨v, e, r.mono (fun a x _ => ⟨n a x, rfl⟩) fun _ x => x⟩
  | own ds => obtain ⟨a, vs, e, e', e0, r⟩ := q; exact ⟨a, vs, e, e', e0, r.mono (fun a x _ => ⟨n a x, rfl⟩) fun _ x => x⟩
  | pen ad ns => exact q
  | odi ks ds => obtain ⟨a, vs, e, e', e0, ek, r⟩ := q; exact ⟨a, vs, e, e', e0, ⟨ek.1, ek.2.mono (fun a x _ => ⟨n a x, rfl⟩) fun _ x => x⟩, r.mono (fun a x _ => ⟨n a x, rfl⟩) fun _ x => x⟩
  | obj k => obtain ⟨a, e, e0, r⟩ := q; exact ⟨a, e, e0, k.mono (fun a x _ => ⟨n a x, rfl⟩) rfl r⟩
 ·trivial
 ·obtain ⟨a, vs, e1, e2, e3, r⟩ := k.at_ i o _ h1 e
  subst e1
  refine ⟨.ref a, rfl, .lst ?_ trivial e2 (r.mono (fun a x _ => ⟨n a x, rfl⟩) fun _ _ => trivial)⟩
  intro z
  rcases z with ⟨j, s, g1, g2, g3⟩ | z
  ·have := k.inj i j a _ s e (w.mut g1 g2) rfl g2 h1 g3
   subst this
   rw [h2] at g1; cases g1; cases g2
  ·exact k.nz i _ a e rfl h1 z
 ·obtain ⟨a, vs, e1, ⟨ob, e2⟩, e3, ek, r⟩ := k.at_ i o _ h1 e
  subst e1
  refine ⟨.ref a, rfl, .dic ?_ trivial e2 ek.1 (ek.2.mono (fun a x _ => ⟨n a x, rfl⟩) fun _ _ => trivial) (r.mono (fun a x _ => ⟨n a x, rfl⟩) fun _ _ => trivial)⟩
  intro z
  rcases z with ⟨j, s, g1, g2, g3⟩ | z
  ·have := k.inj i j a _ s e (w.mut g1 g2) rfl g2 h1 g3
   subst this
   rw [h2] at g1; cases g1; cases g2
  ·exact k.nz i _ a e rfl h1 z
section
variable {K : PySem.W.Frag} {X : Cx} {m : Bool} {e a b c : Expr} {ta tb tc te : TE} {va vb vc : VT} {pos : Pos} {st : Stmt} {rest : List Stmt} {t u : TS} {v w : VTS}
def wO : VTS := fun V S => V.nx S
def A8 (t u : VTS) : VTS := fun V S => t { V with nx := fun S' => ∃ S'', Wk S' S'' /\ u V S'' } S
theorem aN : VSs K X [] d8 wO := ⟨eJ, fun H0 Z σ H S V E k h l => l.nx σ H S k .refl h⟩
theorem ao (h : VS K X st t v) : VSs K X [st] t v := ⟨jL h.ps, h.snd⟩
theorem ai (h1 : VS K X st t v) (h2 : VSs K X rest u w) : VSs K X (st :: rest) (gW t u) (A8 v w) := ⟨cA h1.ps h2.ps, fun H0 Z σ H S V E k h l =>
 h1.snd H0 Z σ H S _ _ k h ⟨fun σ' H' S' k' st zt1 => by obtain ⟨S'', wk, q⟩ := zt1; exact h2.snd H0 Z σ' H' S'' V E (k'.wk wk).1 q (l.step (st.trans (k'.wk wk).2)), l.bk, l.ct, l.rt⟩⟩
def yw : VTS := fun _ _ => False
theorem cD : VS K X st jM yw := ⟨pZ, fun _ _ _ _ _ _ _ _ h _ => h.elim⟩
def wQ (va : VT) : VTS := fun V S => va S fun _ S1 => V.nx S1
theorem j4 (h : VE K X false e te va) (hs : swapsWith e none pos.line X.env = pure false := by rfl) : VS K X (.Expr e pos) (wC te) (wQ va) := ⟨tX h.pe hs, fun H0 Z σ H S V E k t l => h.snd H0 Z σ H S _ _ k t fun v H' r S' k' st _ q => l.nx σ H' S' k' st q⟩
def retO : Option Sl -> Option D
 | some (.own ds) => some (.lst ds)
 | some (.odi ks ds) => some (.dic ks ds)
 | _ => none
def retD (S : List Sl) : VR -> Option D
 | .d x => some x
 | .own i => retO S[i]?
def yx (va : VT) : VTS := fun V S => va S fun r S1 => ∃ d, retD S1 r = some d /\ V.rt d S1
theorem OK.ret {H0 H : Hp} {v : V} (k : OK K H0 Z σ H S) (h : e7 K (FM H0 true) Z σ S H v r) (e : retD S r = some d) : Rep K (NP σ S) (Fr H0) H v d := by
 have np : ∀ a, NM Z σ S a -> NP σ S a := fun a n i ad ns h1 h2 => n (.inl ⟨i, _, h1, rfl, h2⟩)
 cases r with
 | d x => cases e; exact Rep.mono (fun a n _ => ⟨np a n, rfl⟩) (fun _ x => x rfl) h
 | own i =>
  have h : σ[i]? = some (some v) := h
  have e : retO S[i]? = some d := e
  cases es : S[i]? with
  | none => rw [es] at e; cases e
  | some s =>
   rw [es] at e
   cases s with
   | fre d => cases e
   | own ds =>
    cases e
    obtain ⟨a, vs, h1, h2, h3, h4⟩ := k.at_ _ _ _ h es
    cases h1
    refine .lst (fun i2 ad ns g1 g2 => ?_) ⟨a, rfl, h3⟩ h2 (h4.mono (fun a n _ => ⟨np a n, rfl⟩) fun _ x => x)
    have := k.inj _ _ a _ _ es g1 rfl rfl h g2
    subst this
    rw [es] at g1; cases g1
   | odi ks ds =>
    cases e
    obtain ⟨a, vs, h1, ⟨ob, h2⟩, h3, hk, h4⟩ := k.at_ _ _ _ h es
    cases h1
    refine .dic (fun i2 ad ns g1 g2 => ?_) ⟨a, rfl, h3⟩ h2 hk.1 (Reps.flat (hk.2.mono (fun a n _ => ⟨np a n, rfl⟩) fun _ x => x) (li _)) (h4.mono (fun a n _ => ⟨np a n, rfl⟩) fun _ x => x)
    have := k.inj _ _ a _ _ es g1 rfl rfl h g2
    subst this
    rw [es] at g1; cases g1
   | no => cases e
   | val x => cases e
   | pen a b => cases e
   | obj k => cases e
theorem aH (h : VE K X true e te va) : VS K X (.Return (some e) pos) (AN te) (yx va) := ⟨xW h.pe, fun H0 Z σ H S V E k t l => h.snd H0 Z σ H S _ _ k t fun v H' r S' k' st rr zt1 => by obtain ⟨d, e, q⟩ := zt1; exact l.rt v d σ H' S' k' st (k'.ret rr e) q⟩
def A9 (c : VTT) (t u : VTS) : VTS := fun V S => c S fun b S1 => if b = true then t V S1 else u V S1
theorem bw {A B : List Stmt} {tA : TT} {wA : VTT} (hc : VTe K X c tA wA) (ha : VSs K X A t v) (hb : VSs K X B u w) : VS K X (.If c A B pos) (kM tA t u) (A9 wA v w) := ⟨m4 hc.pe ha.ps hb.ps, fun H0 Z σ H S V E k t l =>
 hc.snd H0 Z σ H S _ _ k t fun b H1 S1 k1 st1 q => by
  cases b with
  | true => rw [if_pos rfl] at q ⊢; exact ha.snd H0 Z σ H1 S1 V E k1 q (l.step st1)
  | false => rw [if_neg Bool.false_ne_true] at q ⊢; exact hb.snd H0 Z σ H1 S1 V E k1 q (l.step st1)⟩
abbrev VG := D -> List Sl -> (List Sl -> Prop) -> Prop
def SndG (K : PySem.W.Frag) (g : TG) (vg : VG) : Prop := ∀ H0 Z σ H S v d Q C, OK K H0 Z σ H S -> Rep K (NM Z σ S) AnyF H v d -> vg d S Q -> (∀ σ' H' S', OK K H0 Z σ' H' S' -> Step Z σ S H σ' S' H' -> Q S' -> C σ' H') -> g v σ H C
def wR (g : TG) : Prop := ∀ x σ H Q1 Q2, (∀ σ H, Q1 σ H -> Q2 σ H) -> g x σ H Q1 -> g x σ H Q2
def yz (g : TGs) : Prop := ∀ x σ H Q1 Q2, (∀ σ H, Q1 σ H -> Q2 σ H) -> g x σ H Q1 -> g x σ H Q2
structure VGe (K : PySem.W.Frag) (X : Cx) (e : Expr) (g : TG) (vg : VG) : Prop where
 pg : PG X e g
 snd : SndG K g vg
 mono : wR g
def vgN (i : Nat) : VG := fun d S Q => i < S.length /\ Q (S.set i (.val d))
theorem az {i : Nat} (h : PG X e (bq i)) : VGe K X e (bq i) (vgN i) := ⟨h, fun H0 Z σ H S v d Q C k r zt1 hc => by obtain ⟨hi, q⟩ := zt1; exact hc _ _ _ (k.setVal hi r).1 (k.setVal hi r).2 q, fun _ _ _ _ _ h q => h _ _ q⟩
def Ba (K : PySem.W.Frag) (g : TGs) (vg : List D -> List Sl -> (List Sl -> Prop) -> Prop) : Prop := ∀ H0 Z σ H S vs ds Q C, OK K H0 Z σ H S -> Reps K (NM Z σ S) AnyF H vs ds -> vg ds S Q -> (∀ σ' H' S', OK K H0 Z σ' H' S' -> Step Z σ S H σ' S' H' -> Q S' -> C σ' H') -> g vs σ H C
structure VGs (K : PySem.W.Frag) (X : Cx) (es : List Expr) (g : TGs) (vg : List D -> List Sl -> (List Sl -> Prop) -> Prop) : Prop where
 pg : PGs X es g
 snd : Ba K g vg
 mono : yz g
def wU : List D -> List Sl -> (List Sl -> Prop) -> Prop := fun ds S Q => ds = [] /\ Q S
def qM (t : VG) (u : List D -> List Sl -> (List Sl -> Prop) -> Prop) : List D -> List Sl -> (List Sl -> Prop) -> Prop := fun ds S Q => ∃ d r, ds = d :: r /\ t d S fun S1 => u r S1 Q
theorem cL : VGs K X [] xY wU := ⟨tY, fun H0 Z σ H S vs ds Q C k r zq1 hc => by obtain ⟨e, q⟩ := zq1; subst e; cases r; exact ⟨rfl, hc _ _ _ k .refl q⟩, fun _ _ _ _ _ h q => ⟨q.1, h _ _ q.2⟩⟩
theorem aP {es : List Expr} {g : TG} {gs : TGs} {vg : VG} {vgs : List D -> List Sl -> (List Sl -> Prop) -> Prop} (h1 : VGe K X e g vg) (h2 : VGs K X es gs vgs) (hs : (assignEach (e :: es) X.env).map (·.2) = assign e X.env :: (assignEach es X.env).map (·.2) := by rfl) :
  VGs K X (e :: es) (m5 g gs) (qM vg vgs) := ⟨p5 h1.pg h2.pg hs, fun H0 Z σ H S vs ds Q C k r zq1 hc => by
 obtain ⟨d, rd, e, q⟩ := zq1
 subst e
 cases r with
 | cons rv rr => exact ⟨_, _, rfl, h1.snd H0 Z σ H S _ _ _ _ k rv q fun σ1 H1 S1 k1 st1 q1 => h2.snd H0 Z σ1 H1 S1 _ _ _ _ k1 (rr.step st1) q1 fun σ2 H2 S2 k2 st2 q2 => hc _ _ _ k2 (st1.trans st2) q2⟩, fun x σ H Q1 Q2 h zt1 => by obtain ⟨v, r, e, q⟩ := zt1; exact ⟨v, r, e, h1.mono _ _ _ _ _ (fun σ' H' q' => h2.mono _ _ _ _ _ h q') q⟩⟩
def vgT (n : Nat) (u : List D -> List Sl -> (List Sl -> Prop) -> Prop) : VG := fun d S Q => ∃ ds, d = .tup ds /\ ds.length = n /\ u ds S Q
theorem dH {es : List Expr} {kk : Nat} {gs : TGs} {vgs : List D -> List Sl -> (List Sl -> Prop) -> Prop} {n : Nat} (hK : X.K = K) (hc : X.calm = true) (h : VGs K X es gs vgs) (hn : (assignEach es X.env).length = n := by rfl) (hst : (assignEach es X.env).findIdx? (·.1) = none := by rfl) :
  VGe K X (.Tuple es kk pos) (xZ K n gs) (vgT n vgs) := ⟨by subst hK; exact x3 hc h.pg hn hst, fun H0 Z σ H S v d Q C k r zq1 hcc => by
 obtain ⟨ds, e, hl, q⟩ := zq1
 subst e
 obtain ⟨a, vs, rfl, hq, rr⟩ := r.sqT
 exact ⟨a, vs, rfl, hq, by rw [rr.length]; exact hl, h.snd H0 Z σ H S _ _ _ _ k rr q hcc⟩, fun x σ H Q1 Q2 hh zt1 => by obtain ⟨a, xs, e1, e2, e3, q⟩ := zt1; exact ⟨a, xs, e1, e2, e3, h.mono _ _ _ _ _ hh q⟩⟩
def mH (va : VT) (g : VG) : VTS := fun V S => va S fun r S1 => ∃ d, r = .d d /\ g d S1 V.nx
theorem j5 {g : TG} {vg : VG} (ha : SndE K m te va) (hg : SndG K g vg) : yv K (dk te g) (mH va vg) := fun H0 Z σ H S V E k t l => ha H0 Z σ H S _ _ k t fun v H1 r S1 k1 st1 rr zq1 => by
 obtain ⟨d, e, q⟩ := zq1
 subst e
 exact hg H0 Z σ H1 S1 v d _ _ k1 (Rep.mono (fun _ n _ => ⟨n, rfl⟩) (fun _ _ => trivial) rr) q fun σ2 H2 S2 k2 st2 q2 => l.nx σ2 H2 S2 k2 (st1.trans st2) q2
theorem yA {i : Nat} {x : Str} {pos' : Pos} (ps : ∀ te, PE X e te -> PS X (.Assign [.Name x pos'] e pos) (dk te (bq i))) (h : VE K X false e te va) : VS K X (.Assign [.Name x pos'] e pos) (dk te (bq i)) (mH va (vgN i)) :=
 ⟨ps te h.pe, j5 h.snd fun H0 Z σ H S v d Q C k r zt1 hc => by obtain ⟨hi, q⟩ := zt1; exact hc _ _ _ (k.setVal hi r).1 (k.setVal hi r).2 q⟩
theorem iu {tg : Expr} {g : TG} {vg : VG} (h : VE K X false e te va) (hg : VGe K X tg g vg) (hs : swapsWithSole [tg] e pos.line X.env = pure false := by rfl) (hw : swappedStores [tg] e X.env = pure none := by rfl)
  (h1 : (assignEach [tg] X.env).map (·.2) = [assign tg X.env] := by rfl) : VS K X (.Assign [tg] e pos) (dk te g) (mH va vg) := ⟨mh h.pe hg.pg hs hw h1, j5 h.snd hg.snd⟩
def qN (i : Nat) (t : VTN) : VTS := fun V S => t S fun ds S1 => i < S1.length /\ V.nx (S1.set i (.own ds))
theorem nG {i : Nat} {x : Str} {pos' : Pos} {tn : VTN} (ps : ∀ te, PE X e te -> PS X (.Assign [.Name x pos'] e pos) (dk te (bq i))) (h : VN K X e te tn) : VS K X (.Assign [.Name x pos'] e pos) (dk te (bq i)) (qN i tn) :=
 ⟨ps te h.pe, fun H0 Z σ H S V E k t l => h.snd H0 Z σ H S _ _ k t fun a vs ds H1 H' S' k1 st1 ha hg hl rr zq1 => by
  obtain ⟨hi, q⟩ := zq1
  obtain ⟨k2, st2⟩ := k1.setNew (s := .own ds) hi ha hg ⟨a, vs, rfl, hl, k1.dom a ha, rr⟩ rfl
  exact l.nx _ _ _ k2 (st1.trans st2) q⟩
end
end VL
end
section
namespace VL
open PySem L2
section
variable {K : PySem.W.Frag} {X : Cx} {m : Bool} {e a b c : Expr} {ta tb tc te ti : TE} {va vb vc vi : VT} {pos : Pos} {st : Stmt} {rest : List Stmt} {t u : TS} {v w : VTS}
theorem OK.ownAt {H0 H : Hp} (k : OK K H0 Z σ H S) {i : Nat} {s : Sl} (e : S[i]? = some s) : ∃ o, σ[i]? = some o /\ ph K H0 (NM Z σ S) H o s := by
 have hi : i < σ.length := by rw [k.len]; exact (List.getElem?_eq_some_iff.mp e).1
 exact ⟨_, List.getElem?_eq_getElem hi, k.at_ i _ s (List.getElem?_eq_getElem hi) e⟩
def yB (i : Nat) (ve : VT) : VT := fun S Q => (∃ ds, S[i]? = some (.own ds)) /\ ve S fun r S1 => ∃ d ds, r = .d d /\ S1[i]? = some (.own ds) /\ ds.length <= 1000000 /\ Q (.d .non) (S1.set i (.own (ds ++ [d])))
theorem yC {apos : Pos} {o : Expr} (i : Nat) (hK : X.K = K) (ho : PE X o (di i)) (h : VE K X true e te va) (pe : ∀ te, PE X e te -> PE X (.Call (.Attribute o "append" apos) [e] [] pos) (tBM X.K "list" gM (di i) (cQ te fU))) :
  VE K X m (.Call (.Attribute o "append" apos) [e] [] pos) (tBM K "list" gM (di i) (cQ te fU)) (yB i va) := ⟨by subst hK; exact pe te h.pe, fun H0 Z σ H S Q C k zq1 hc => by
 obtain ⟨⟨ds0, e0⟩, t⟩ := zq1
 obtain ⟨o, h1, a, vs, rfl, h2, h3, h4⟩ := k.ownAt e0
 refine ⟨.ref a, h1, .inl ⟨rfl, vs, .inl (.inl h2)⟩, ?_⟩
 refine h.snd H0 Z σ H S _ _ k t fun x H1 r S1 k1 st1 rr zr1 => ?_
 obtain ⟨d, ds, er, e1, hl, q⟩ := zr1
 subst er
 obtain ⟨o', g1, a', vs', rfl, g2, g3, g4⟩ := k1.ownAt e1
 rw [h1] at g1; cases g1
 refine ⟨a, vs', x, rfl, rfl, g2, by rw [g4.length, sizeLine_eq]; lia, ?_⟩
 have na : NM Z σ S1 a -> False := fun n => n (.inl ⟨i, _, e1, rfl, h1⟩)
 have hm : ∀ b, NM Z σ S1 b -> H1 b ≠ none -> NM Z σ S1 b /\ upd H1 a (.lst (vs' ++ [x])) b = H1 b := fun b n _ => ⟨n, au fun z => na (by rw [<- z]; exact n)⟩
 obtain ⟨k2, st2⟩ := k1.chg (s := .own (ds ++ [d])) (o := .lst (vs' ++ [x])) e1 rfl h1 ⟨_, rfl⟩ rfl ⟨a, _, rfl, aD, g3, Reps.append (g4.mono hm fun _ x => x) (.cons (Rep.mono hm (fun _ x => x rfl) rr) .nil)⟩
 exact hc .non _ (.d .non) _ k2 (st1.trans st2) Rep.non q⟩
theorem qO {apos : Pos} {o : Expr} (i : Nat) (hK : X.K = K) (ho : PE X o (di i)) (h : VE K X true e te va) (hbase : attributeBase o "append" X.env (eval o X.env) = eval o X.env := by rfl)
  (hfew : ((backTo pos (starEach (e :: []) X.env)).all (fun x => !x.1) && (backToKw pos (keywordEach [] X.env)).all (fun x => x.1.isSome)
   && decide ((e :: []).length + ([] : List Keyword).length + (if ([] : List Keyword).isEmpty then 0 else 1) < 30)) = true := by rfl)
  (hline : (apos.endLine == pos.line) = true := by rfl) (hs : starEach (e :: []) X.env = (false, eval e X.env) :: starEach [] X.env := by rfl) (hplain : (backTo pos (starEach [] X.env)).any (·.1) = false := by rfl) :
  VE K X m (.Call (.Attribute o "append" apos) [e] [] pos) (tBM K "list" gM (di i) (cQ te fU)) (yB i va) :=
 yC i hK ho h fun te hp => kU PySem.F.plainAttrs_list PySem.F.slot_list_append PySem.F.type_list_append oY ho (bR hp dq hs) hbase hfew hline hs hplain
def vM0 (i : Nat) (g : List D -> List D) : VT := fun S Q => ∃ ds, S[i]? = some (.own ds) /\ Q (.d .non) (S.set i (.own (g ds)))
theorem yD {apos : Pos} {o : Expr} (i : Nat) (hK : X.K = K) (ho : PE X o (di i)) (hbase : attributeBase o "reverse" X.env (eval o X.env) = eval o X.env := by rfl) (hline : (apos.endLine == pos.line) = true := by rfl) :
  VE K X m (.Call (.Attribute o "reverse" apos) [] [] pos) (AX K "list" kW (di i)) (vM0 i List.reverse) := ⟨by subst hK; exact yk PySem.F.plainAttrs_list PySem.F.slot_list_reverse PySem.F.type_list_reverse my ho hbase hline, fun H0 Z σ H S Q C k zq1 hc => by
 obtain ⟨ds, e0, q⟩ := zq1
 obtain ⟨o, h1, a, vs, rfl, h2, h3, h4⟩ := k.ownAt e0
 refine ⟨.ref a, h1, .inl ⟨rfl, vs, .inl (.inl h2)⟩, a, vs, rfl, rfl, h2, ?_⟩
 have na : NM Z σ S a -> False := fun n => n (.inl ⟨i, _, e0, rfl, h1⟩)
 have hm : ∀ b, NM Z σ S b -> H b ≠ none -> NM Z σ S b /\ upd H a (.lst vs.reverse) b = H b := fun b n _ => ⟨n, au fun z => na (by rw [<- z]; exact n)⟩
 obtain ⟨k2, st2⟩ := k.chg (s := .own ds.reverse) (o := .lst vs.reverse) e0 rfl h1 ⟨_, rfl⟩ rfl ⟨a, _, rfl, aD, h3, (h4.mono hm fun _ x => x).rev⟩
 exact hc .non _ (.d .non) _ k2 st2 Rep.non q⟩
def qP (i : Nat) (ve vi : VT) : VTS := fun V S => ve S fun r S1 => (∃ s, S1[i]? = some s /\ s.mut = true) /\ vi S1 fun ri S2 => ∃ j, get S2 ri = some (.int j) /\
  ((∃ ad ns k n, S2[i]? = some (.pen ad ns) /\ ixN ns.length j = some k /\ r = .d (.int n) /\ V.nx (S2.set i (.pen ad (ns.set k n)))) \/
   (∃ ds k d, S2[i]? = some (.own ds) /\ ixN ds.length j = some k /\ r = .d d /\ V.nx (S2.set i (.own (ds.set k d)))))
theorem ly {o ie : Expr} {posS : Pos} (i : Nat) (ho : PE X o (di i)) (h : VE K X true e te va) (hi : VE K X false ie ti vi)
  (ha : ∀ v, assign (.Subscript o ie posS) X.env v = (do
   let ov <- holding [v] (eval o X.env)
   let iv <- holding [v, ov] (eval ie X.env)
   standAt posS
   holding [v, ov, iv] (setItem ov iv v)
   release [v, ov, iv] []) := by intro _; rfl)
  (hs : swapsWithSole [.Subscript o ie posS] e pos.line X.env = pure false := by rfl) (hw : swappedStores [.Subscript o ie posS] e X.env = pure none := by rfl)
  (h1 : (assignEach [.Subscript o ie posS] X.env).map (·.2) = [assign (.Subscript o ie posS) X.env] := by rfl) :
  VS K X (.Assign [.Subscript o ie posS] e pos) (dk te (p6 (di i) ti kS)) (qP i va vi) := ⟨mh h.pe (p8 ho hi.pe set_list ha) hs hw h1, fun H0 Z σ H S V E k t l => by
 refine h.snd H0 Z σ H S _ _ k t fun x H1 r S1 k1 st1 rr zr1 => ?_
 obtain ⟨⟨s1, em, hm1⟩, q⟩ := zr1
 -- the slot's address stays: σ is one
 have fin : ∀ (p : Addr), σ[i]? = some (some (.ref p)) -> p6 (di i) ti kS x σ H1 E.nx := fun p hp => by
  refine ⟨.ref p, hp, hi.snd H0 Z σ H1 S1 _ _ k1 q fun y H2 ri S2 k2 st2 r2 zr1 => ?_⟩
  obtain ⟨j, ej, q2⟩ := zr1
  cases r2.get k2 ej
  have rr2 := rr.step st2
  rcases q2 with ⟨ad, ns, kk, n, e1, e2, er, q2⟩ | ⟨ds, kk, d, e1, e2, er, q2⟩
  ·subst er
   cases (show Rep K _ _ H2 x (.int n) from rr2)
   obtain ⟨o', g1, a', rfl, g2, g3⟩ := k2.ownAt e1
   rw [hp] at g1; cases g1
   refine ⟨p, _, j, kk, rfl, rfl, g3, by rw [List.length_map]; exact e2, ?_⟩
   obtain ⟨k3, st3⟩ := k2.chg (s := .pen ad (ns.set kk n)) (o := .lst ((ns.map L2.V.int).set kk (.int n))) e1 rfl hp ⟨_, rfl⟩ rfl ⟨p, rfl, g2, by rw [aD, List.map_set]⟩
   exact l.nx _ _ _ k3 ((st1.trans st2).trans st3) q2
  ·subst er
   obtain ⟨o', g1, a', vs, rfl, g2, g3, g4⟩ := k2.ownAt e1
   rw [hp] at g1; cases g1
   refine ⟨p, _, j, kk, rfl, rfl, g2, by rw [g4.length]; exact e2, ?_⟩
   have na : NM Z σ S2 p -> False := fun n => n (.inl ⟨i, _, e1, rfl, hp⟩)
   have hm : ∀ b, NM Z σ S2 b -> H2 b ≠ none -> NM Z σ S2 b /\ upd H2 p (.lst (vs.set kk x)) b = H2 b := fun b n _ => ⟨n, au fun z => na (by rw [<- z]; exact n)⟩
   obtain ⟨k3, st3⟩ := k2.chg (s := .own (ds.set kk d)) (o := .lst (vs.set kk x)) e1 rfl hp ⟨_, rfl⟩ rfl ⟨p, _, rfl, aD, g3, Reps.set (Rep.mono hm (fun _ x => x rfl) rr2) kk (g4.mono hm fun _ x => x)⟩
   exact l.nx _ _ _ k3 ((st1.trans st2).trans st3) q2
 -- which address it is: look once
 obtain ⟨o1, g1, g2⟩ := k1.ownAt em
 cases s1 with
 | no => cases hm1
 | val d => cases hm1
 | fre d => cases hm1
 | own ds => obtain ⟨p, _, rfl, _⟩ := g2; exact fin p g1
 | pen ad ns => obtain ⟨p, rfl, _⟩ := g2; exact fin p g1
 | odi ks ds => obtain ⟨p, _, rfl, _⟩ := g2; exact fin p g1
 | obj k => obtain ⟨p, rfl, _⟩ := g2; exact fin p g1⟩
def pick : List VR -> Nat -> Option (Nat × List VR)
 | .own i :: r, 0 => some (i, r)
 | x :: r, j + 1 => (pick r j).map fun p => (p.1, x :: p.2)
 | _, _ => none
def Bb (j : Nat) (p : List Int -> List D -> (D -> List Int -> Prop) -> Prop) (vr : VTA) : VT := fun S Q => vr S fun rs S1 => ∃ i rs' ad ns ds, pick rs j = some (i, rs') /\ S1[i]? = some (.pen ad ns) /\ allD rs' = some ds /\ p ns ds fun d ns' => Q (.d d) (S1.set i (.pen ad ns'))
theorem cI.pick : ∀ {j : Nat} {vs : List V} {rs : List VR} {i : Nat} {rs' : List VR}, cI K F Z σ S H vs rs -> VL.pick rs j = some (i, rs') -> ∃ v ws us, vs = ws ++ v :: us /\ ws.length = j /\ σ[i]? = some (some v) /\ cI K F Z σ S H (ws ++ us) rs' /\ ws.length <= (ws ++ us).length
 | 0, _, _, i, rs', .cons (r := r) h t, e => by
  cases r with
  | d x => cases e
  | own k => cases e; exact ⟨_, [], _, rfl, rfl, h, t, by simp⟩
 | j + 1, _, _, i, rs', .cons (r := r) (rs := rs) h t, e => by
  have e' : (VL.pick rs j).map (fun p => (p.1, r :: p.2)) = some (i, rs') := by cases r <;> exact e
  obtain ⟨⟨i', q⟩, h1, h2⟩ := Option.map_eq_some_iff.mp e'
  cases h2
  obtain ⟨v, ws, us, rfl, hl, hs, rr, _⟩ := cI.pick t h1
  exact ⟨v, _ :: ws, us, rfl, by simp [hl], hs, .cons h rr, by simp⟩
 | _, _, _, _, _, .nil, e => by cases e
theorem Reps.splitAt {N : AP} : ∀ {ws us : List V} {ds : List D}, Reps K N F H (ws ++ us) ds -> ∃ d1 d2, ds = d1 ++ d2 /\ Reps K N F H ws d1 /\ Reps K N F H us d2
 | [], us, ds, h => ⟨[], ds, rfl, .nil, h⟩
 | w :: ws, us, _, .cons h t => by
  obtain ⟨d1, d2, rfl, h1, h2⟩ := Reps.splitAt (ws := ws) t
  exact ⟨_ :: d1, d2, rfl, .cons h h1, h2⟩
section
variable {es : List Expr} {tr : TA} {vr : VTA} {x : Str} {p0 : Pos} {j k : Nat} {ps : List Str}
theorem bE {jj : Nat} {p : List Int -> List D -> (D -> List Int -> Prop) -> Prop} (E : Has X.prog X.w X.K X.mg X.base k x ps (spI K jj p)) (hr : cj j X.A) (ha : VA K X false (e :: es) tr vr)
  (hk : k <= j := by decide) (hg : Gl X x := by rfl) (hdb : (x == ("__debug__" : Str)) = false := by decide) (he : starEach (e :: es) X.env = (false, eval e X.env) :: starEach es X.env := by rfl)
  (hpl : (backTo pos (starEach es X.env)).any (·.1) = false := by rfl) : VE K X m (.Call (.Name x p0) (e :: es) [] pos) (jh (spI K jj p) [] E0 tr) (Bb jj p vr) := ⟨nr E hr ha.pe hk hg hdb he hpl, fun H0 Z σ H S Q C k t hc =>
 ha.snd H0 Z σ H S _ _ k t fun vs H1 rs S1 k1 st1 rrs zq1 => by
  obtain ⟨i, rs', ad, ns, ds, e1, e2, e3, q⟩ := zq1
  obtain ⟨v, ws, us, rfl, hl, hs, rr, _⟩ := rrs.pick e1
  obtain ⟨o, g1, a, rfl, g2, g3⟩ := k1.ownAt e2
  rw [hs] at g1; cases g1
  have ma : Mo Z σ S1 a := .inl ⟨i, _, e2, rfl, hs⟩
  obtain ⟨d1, d2, rfl, r1, r2⟩ := Reps.splitAt (rr.allD e3)
  have hm : ∀ b, NM Z σ S1 b -> H1 b ≠ none -> b ≠ a /\ H1 b = H1 b := fun b n _ => ⟨fun z => n (by rw [z]; exact ma), rfl⟩
  refine ⟨a, ws, us, ns, d1, d2, _, by rw [List.append_nil], hl, g3, r1.mono hm fun _ _ => trivial, r2.mono hm fun _ _ => trivial, q, fun d ns' v H' q g ga rv => ?_⟩
  -- the pen changed, and the heap grown
  have hG : ∀ b, upd H1 a (.lst (ns'.map V.int)) b ≠ none -> H' b = upd H1 a (.lst (ns'.map V.int)) b := fun b hb => by
   by_cases hba : b = a
   ·subst hba; rw [aD]; exact ga
   ·rw [au hba] at hb ⊢; exact g b hba hb
  obtain ⟨k2, st2⟩ := k1.chg (s := .pen ad ns') (o := .lst (ns'.map V.int)) e2 rfl hs ⟨_, rfl⟩ rfl ⟨a, rfl, g2, aD⟩
  have k3 := k2.grow hG
  refine hc v H' (.d d) _ k3 ((st1.trans st2).trans (.grow hG)) (show Rep K _ _ H' v d from ?_) q
  refine (Rep.avoid (N' := NM Z σ (S1.set i (.pen ad ns'))) (fun b z => k3.mo (Classical.not_not.mp z)) (fun b zr1 => ?_) rv).mono (fun _ n _ => ⟨n, rfl⟩) (fun o zt1 _ => by obtain ⟨c, ec, f⟩ := zt1; exact ⟨c, ec, k1.dom c f⟩)
  obtain ⟨c, ec, f⟩ := zr1
  cases ec
  refine k2.nm ?_
  rw [au]
  ·exact f
  ·intro z; subst z; rw [g3] at f; cases f⟩
end
end
end VL
end
section
namespace VL
open PySem L2
def Gd (K : PySem.W.Frag) (Z : AP) (J : It) (ds : List D) (σ : St) (S : List Sl) (H : Hp) : Prop := ∀ σ2 S2 H2, (∀ p, H2 p = none -> NM Z σ2 S2 p) -> Step Z σ S H σ2 S2 H2 -> ∀ i, (i < ds.length -> J.go i H2) /\ (∀ x H3, J.yld i H2 x H3 -> i < ds.length -> (∀ a, H2 a ≠ none -> H3 a = H2 a) /\ ∃ d, ds[i]? = some d /\ Rep K (NM Z σ2 S2) AnyF H3 x d) /\ (i = ds.length -> J.stop i H2)
def SndI (K : PySem.W.Frag) (wi : TI) (vi : VTN) : Prop := ∀ H0 Z σ H S Q C, OK K H0 Z σ H S -> vi S Q -> (∀ J ds H' S', OK K H0 Z σ H' S' -> Step Z σ S H σ S' H' -> Gd K Z J ds σ S' H' -> Q ds S' -> C J H') -> wi σ H C
structure VI (K : PySem.W.Frag) (X : Cx) (tg e : Expr) (wi : TI) (vi : VTN) : Prop where
 pi : PI X tg e wi
 snd : SndI K wi vi
section
variable {K : PySem.W.Frag} {X : Cx} {m : Bool} {e a b c tg : Expr} {ta tb tc te ti : TE} {va vb vc : VT} {pos : Pos} {st : Stmt} {rest : List Stmt} {t u : TS} {v w : VTS}
def yE (va : VT) : VTN := fun S Q => va S fun r S1 => ∃ ds, r = .d (.lst ds) /\ Q ds S1
def yF (va : VT) : VTN := fun S Q => va S fun r S1 => ∃ ds, r = .d (.tup ds) /\ Q ds S1
theorem bL (hK : X.K = K) (h : VE K X false e te va) : VI K X tg e (qc K te) (yE va) := ⟨by subst hK; exact m7 h.pe, fun H0 Z σ H S Q C k t hc => h.snd H0 Z σ H S _ _ k t fun v H1 r S1 k1 st1 rr zq1 => by
 obtain ⟨ds, e, q⟩ := zq1
 subst e
 have rr : Rep K _ _ H1 v (.lst ds) := rr
 obtain ⟨a, vs, rfl, hq, _⟩ := rr.sqL
 refine ⟨a, rfl, ⟨vs, hq⟩, hc _ ds H1 S1 k1 st1 (fun σ2 S2 H2 _ st2 i => ?_) q⟩
 obtain ⟨a', vs', e, hq2, r2⟩ := (rr.step st2).sqL
 cases e
 refine ⟨fun hi => ?_, fun x H3 hy hi => ?_, fun hi => ⟨vs', hq2, by rw [r2.length]; lia⟩⟩
 ·obtain ⟨v, h1, _⟩ := r2.getD (List.getElem?_eq_getElem hi)
  exact ⟨vs', v, hq2, h1⟩
 ·obtain ⟨e, h2⟩ := hy
  obtain ⟨d, h3, h4⟩ := r2.get (h2 vs' hq2)
  exact ⟨fun _ _ => by rw [e], d, h3, h4.mono (fun _ n _ => ⟨n, by rw [e]⟩) fun _ _ => trivial⟩⟩
theorem yG (hK : X.K = K) (h : VE K X false e te va) : VI K X tg e (AQ K te) (yF va) := ⟨by subst hK; exact x5 h.pe, fun H0 Z σ H S Q C k t hc => h.snd H0 Z σ H S _ _ k t fun v H1 r S1 k1 st1 rr zq1 => by
 obtain ⟨ds, e, q⟩ := zq1
 subst e
 have rr : Rep K _ _ H1 v (.tup ds) := rr
 obtain ⟨a, vs, rfl, hq, _⟩ := rr.sqT
 refine ⟨a, rfl, ⟨vs, hq⟩, hc _ ds H1 S1 k1 st1 (fun σ2 S2 H2 _ st2 i => ?_) q⟩
 obtain ⟨a', vs', e, hq2, r2⟩ := (rr.step st2).sqT
 cases e
 refine ⟨fun hi => ?_, fun x H3 hy hi => ?_, fun hi => ⟨vs', hq2, by rw [r2.length]; lia⟩⟩
 ·obtain ⟨v, h1, _⟩ := r2.getD (List.getElem?_eq_getElem hi)
  exact ⟨vs', v, hq2, h1⟩
 ·obtain ⟨e, h2⟩ := hy
  obtain ⟨d, h3, h4⟩ := r2.get (h2 vs' hq2)
  exact ⟨fun _ _ => by rw [e], d, h3, h4.mono (fun _ n _ => ⟨n, by rw [e]⟩) fun _ _ => trivial⟩⟩
def rg (lo : Int) (n : Nat) : List D := (List.range n).map fun (i : Nat) => D.int (lo + (i : Int))
theorem mI (lo : Int) (n : Nat) : (rg lo n).length = n := by simp [rg]
theorem wV {lo : Int} {n i : Nat} (h : i < n) : (rg lo n)[i]? = some (.int (lo + (i : Int))) := by simp [rg, h]
theorem yH {lo : Int} {n : Nat} : Gd K Z (Itr lo n) (rg lo n) σ S H := fun σ2 S2 H2 _ st2 i => by
 rw [mI]
 refine ⟨fun h => h, fun x H3 zt1 hi => by obtain ⟨e, hx⟩ := zt1; exact ⟨fun _ _ => by rw [e], _, wV hi, by rw [hx]; exact .int _⟩, fun h => by rw [h]; exact Nat.le_refl _⟩
section
variable {tr : TA} {vr : VTA} {p : Pos}
def yI (vr : VTA) : VTN := fun S Q => vr S fun rs S1 => ∃ j : Int, rs = [.d (.int j)] /\ -(2 ^ 62) <= j /\ j < 2 ^ 62 /\ Q (rg 0 j.toNat) S1
theorem bB (hg : Gl X "range") (hm : X.mg "range" = none) (ha : VA K X false [a] tr vr) (hs : starEach [a] X.env = [(false, eval a X.env)] := by rfl) : VI K X tg (.Call (.Name "range" p) [a] [] pos) (wD tr) (yI vr) := ⟨oS hg hm ha.pe hs, fun H0 Z σ H S Q C k t hc =>
 ha.snd H0 Z σ H S _ _ k t fun vs H1 rs S1 k1 st1 rrs zq1 => by
  obtain ⟨j, e, h1, h2, q⟩ := zq1
  subst e
  cases rrs with
  | cons r t =>
   cases t
   cases (show Rep K _ _ H1 _ (.int j) from r)
   exact ⟨j, rfl, h1, h2, hc _ _ H1 S1 k1 st1 yH q⟩⟩
end
def runFor (vg : VG) (vb : VTS) (V : bM) : List D -> List Sl -> Prop
 | [] => V.nx
 | d :: r => fun S => vg d S fun S3 => vb ⟨runFor vg vb V r, V.rt, V.nx, runFor vg vb V r⟩ S3
def Bc (vi : VTN) (vg : VG) (vb : VTS) : VTS := fun V S => vi S fun ds S1 => runFor vg vb V ds S1 \/ ∃ Iv : Nat -> List Sl -> Prop, Iv 0 S1 /\ (∀ i d S2, ds[i]? = some d -> Iv i S2 -> vg d S2 fun S3 => vb { V with nx := Iv (i + 1), ct := Iv (i + 1), bk := V.nx } S3) /\ ∀ S2, Iv ds.length S2 -> V.nx S2
theorem qQ {body : List Stmt} {wi : TI} {vi : VTN} {g : TG} {vg : VG} (hp : PassesOwn (model X.prog X.w) X.A X.env X.xe) (hc : X.calm = true) (hi : VI K X tg e wi vi) (hg : VGe K X tg g vg) (hb : VSs K X body t v) (hs : ∀ x, foldedSetIterable e X.env x = pure x := by intro _; rfl) :
  VS K X (.For tg e body [] pos) (oT wi g t) (Bc vi vg v) := ⟨jN hp hc hi.pi hg.pg hb.ps hs, fun H0 Z σ H S V E k t l => hi.snd H0 Z σ H S _ _ k t fun J ds H1 S1 k1 st1 gd hh => by
 rcases hh with hr | ⟨Iv, i0, hs, hd⟩
 ·refine ⟨fun i m σ H => m = ds.length - i /\ i <= ds.length /\ ∃ S2, OK K H0 Z σ H S2 /\ Step Z _ S1 H1 σ S2 H /\ runFor vg v V (ds.drop i) S2, ⟨ds.length, by simp, Nat.zero_le _, S1, k1, .refl, by simpa using hr⟩, ?_⟩
  rintro i m σ2 H2 ⟨rfl, hi, S2, k2, st2, p⟩
  obtain ⟨g1, g2, g3⟩ := gd σ2 S2 H2 (fun _ => k2.nm) st2 i
  by_cases hlt : i < ds.length
  ·rw [List.drop_eq_getElem_cons hlt] at p
   refine .inr ⟨g1 hlt, fun σ' H' => ∃ S', OK K H0 Z σ' H' S' /\ Step Z σ S1 H1 σ' S' H' /\ runFor vg v V (ds.drop (i + 1)) S', fun σ' H' p' => ⟨ds.length - (i + 1), by lia, rfl, hlt, p'⟩, fun x H3 y => ?_⟩
   obtain ⟨hgr, d, hd', rd⟩ := g2 x H3 y hlt
   replace k2 := k2.grow hgr
   replace st2 := st2.trans (.grow hgr)
   rw [List.getElem?_eq_getElem hlt] at hd'
   cases hd'
   refine hg.snd H0 Z σ2 H3 S2 x _ _ _ k2 rd p fun σ4 H4 S4 k4 st4 q4 => ?_
   refine hb.snd H0 Z σ4 H4 S4 _ _ k4 q4 ⟨fun σ' H' S' k' s' q' => ⟨S', k', (st2.trans st4).trans s', q'⟩, fun σ' H' S' k' s' q' => l.nx σ' H' S' k' (((st1.trans st2).trans st4).trans s') q', fun σ' H' S' k' s' q' => ⟨S', k', (st2.trans st4).trans s', q'⟩, fun v d σ' H' S' k' s' r' q' => l.rt v d σ' H' S' k' (((st1.trans st2).trans st4).trans s') r' q'⟩
  ·have e : i = ds.length := by lia
   rw [e, List.drop_length] at p
   exact .inl ⟨g3 e, l.nx _ _ _ k2 (st1.trans st2) p⟩
 refine ⟨fun i m σ H => m = ds.length - i /\ i <= ds.length /\ ∃ S2, OK K H0 Z σ H S2 /\ Step Z _ S1 H1 σ S2 H /\ Iv i S2, ⟨ds.length, by simp, Nat.zero_le _, S1, k1, .refl, i0⟩, ?_⟩
 rintro i m σ2 H2 ⟨rfl, hi, S2, k2, st2, p⟩
 obtain ⟨g1, g2, g3⟩ := gd σ2 S2 H2 (fun _ => k2.nm) st2 i
 by_cases hlt : i < ds.length
 ·refine .inr ⟨g1 hlt, fun σ' H' => ∃ S', OK K H0 Z σ' H' S' /\ Step Z σ S1 H1 σ' S' H' /\ Iv (i + 1) S', fun σ' H' p' => ⟨ds.length - (i + 1), by lia, rfl, hlt, p'⟩, fun x H3 y => ?_⟩
  obtain ⟨hgr, d, hd', rd⟩ := g2 x H3 y hlt
  replace k2 := k2.grow hgr
  replace st2 := st2.trans (.grow hgr)
  refine hg.snd H0 Z σ2 H3 S2 x d _ _ k2 rd (hs i d S2 hd' p) fun σ4 H4 S4 k4 st4 q4 => ?_
  refine hb.snd H0 Z σ4 H4 S4 _ _ k4 q4 ⟨fun σ' H' S' k' s' q' => ⟨S', k', (st2.trans st4).trans s', q'⟩, fun σ' H' S' k' s' q' => l.nx σ' H' S' k' (((st1.trans st2).trans st4).trans s') q', fun σ' H' S' k' s' q' => ⟨S', k', (st2.trans st4).trans s', q'⟩, fun v d σ' H' S' k' s' r' q' => l.rt v d σ' H' S' k' (((st1.trans st2).trans st4).trans s') r' q'⟩
 ·have e : i = ds.length := by lia
  exact .inl ⟨g3 e, l.nx _ _ _ k2 (st1.trans st2) (hd S2 (by rw [<- e]; exact p))⟩⟩
end
def aZ (n : Nat) (ix : List Nat) (S : List Sl) : List Sl := List.replicate n .no ++ ix.map fun i => (S[i]?).getD .no
def lz (s t : Sl) : Sl := if s.mut then (if t.mut then t else .no) else s
def dw (n : Nat) (ix : List Nat) (T : List Sl) : Nat -> List Sl -> List Sl
 | _, [] => []
 | k, s :: r => (match ix.idxOf? k with | some j => lz s ((T[n + j]?).getD .no) | none => s) :: dw n ix T (k + 1) r
def backS (n : Nat) (ix : List Nat) (S T : List Sl) : List Sl := dw n ix T 0 S
def Zin (Z : AP) (ix : List Nat) (σ : St) (S : List Sl) : AP := fun a => Z a \/ ∃ (i : Nat) (s : Sl), i ∉ ix /\ S[i]? = some s /\ s.mut = true /\ σ[i]? = some (some (V.ref a))
section
variable {K : PySem.W.Frag} {H H' H0 : Hp} {Z : AP} {σ σ' : St} {S T : List Sl} {n : Nat} {ix : List Nat}
theorem iw (k : Nat) : (dw n ix T k S).length = S.length := by
 induction S generalizing k with
 | nil => rfl
 | cons s r ih => simp [dw, ih]
theorem ur (k : Nat) {i : Nat} {s : Sl} (h : S[i]? = some s) : (dw n ix T k S)[i]? = some (match ix.idxOf? (k + i) with | some j => lz s ((T[n + j]?).getD .no) | none => s) := by
 induction S generalizing k i with
 | nil => simp at h
 | cons s' r ih =>
  cases i with
  | zero => simp at h; subst h; rfl
  | succ i =>
   simp at h
   simp only [dw, List.getElem?_cons_succ]
   rw [ih (k + 1) h, show k + 1 + i = k + (i + 1) by lia]
theorem j6 {j : Nat} {s : Sl} (h : (aZ n ix S)[j]? = some s) (m : s.mut = true) : ∃ k i, j = n + k /\ ix[k]? = some i /\ S[i]? = some s := by
 unfold aZ at h
 by_cases hj : j < n
 ·rw [List.getElem?_append_left (by simpa using hj)] at h
  simp [hj] at h
  subst h; cases m
 ·rw [List.getElem?_append_right (by simp; lia)] at h
  simp only [List.length_replicate, List.getElem?_map] at h
  cases hk : ix[j - n]? with
  | none => rw [hk] at h; cases h
  | some i =>
   rw [hk] at h
   simp at h
   refine ⟨j - n, i, by lia, hk, ?_⟩
   cases hs : S[i]? with
   | none => rw [hs] at h; simp at h; subst h; cases m
   | some s' => rw [hs] at h; simp at h; subst h; rfl
theorem uu {j : Nat} {s : Sl} (h : (aZ n ix S)[j]? = some s) : s = .no \/ ∃ k i, j = n + k /\ ix[k]? = some i /\ S[i]? = some s := by
 unfold aZ at h
 by_cases hj : j < n
 ·rw [List.getElem?_append_left (by simpa using hj)] at h
  simp [hj] at h
  exact .inl h.symm
 ·rw [List.getElem?_append_right (by simp; lia)] at h
  simp only [List.length_replicate, List.getElem?_map] at h
  cases hk : ix[j - n]? with
  | none => rw [hk] at h; cases h
  | some i =>
   rw [hk] at h
   simp at h
   cases hs : S[i]? with
   | none => rw [hs] at h; simp at h; exact .inl h.symm
   | some s' => rw [hs] at h; simp at h; subst h; exact .inr ⟨j - n, i, by lia, hk, hs⟩
theorem fI {k i : Nat} (h : ix[k]? = some i) : (capt n ix σ)[n + k]? = some ((σ[i]?).getD none) := by
 unfold capt
 rw [List.getElem?_append_right (by simp)]
 simp [h]
theorem uv {k i : Nat} (h : ix[k]? = some i) : (aZ n ix S)[n + k]? = some ((S[i]?).getD .no) := by
 unfold aZ
 rw [List.getElem?_append_right (by simp)]
 simp [h]
theorem cT {k i : Nat} (h : ix[k]? = some i) (e : (capt n ix σ)[n + k]? = some (some v)) : σ[i]? = some (some v) := by
 rw [fI h] at e
 cases hs : σ[i]? with
 | none => rw [hs] at e; cases e
 | some o => rw [hs] at e; simp at e; rw [e]
theorem ei {a : Addr} : Mo (Zin Z ix σ S) (capt n ix σ) (aZ n ix S) a ↔ Mo Z σ S a := by
 constructor
 ·rintro (⟨j, s, h1, h2, h3⟩ | h | ⟨i, s, _, h1, h2, h3⟩)
  ·obtain ⟨k, i, rfl, hk, hs⟩ := j6 h1 h2
   exact .inl ⟨i, s, hs, h2, cT hk h3⟩
  ·exact .inr h
  ·exact .inl ⟨i, s, h1, h2, h3⟩
 ·rintro (⟨i, s, h1, h2, h3⟩ | h)
  ·by_cases hi : i ∈ ix
   ·obtain ⟨k, hk⟩ := List.getElem?_of_mem hi
    refine .inl ⟨n + k, s, ?_, h2, ?_⟩
    ·rw [uv hk, h1]; rfl
    ·rw [fI hk, h3]; rfl
   ·exact .inr (.inr ⟨i, s, hi, h1, h2, h3⟩)
  ·exact .inr (.inl h)
theorem pw {l : List Nat} (h : l.Nodup) : ∀ {i j x : Nat}, l[i]? = some x -> l[j]? = some x -> i = j := fun {i j x} h1 h2 => by
 obtain ⟨a, e1⟩ := List.getElem?_eq_some_iff.mp h1
 obtain ⟨b, e2⟩ := List.getElem?_eq_some_iff.mp h2
 have hp := List.pairwise_iff_getElem.mp h
 rcases Nat.lt_trichotomy i j with c | c | c
 ·exact (hp i j a b c (by rw [e1, e2])).elim
 ·exact c
 ·exact (hp j i b a c (by rw [e1, e2])).elim
theorem OK.capt (k : OK K H0 Z σ H S) (hn : ix.Nodup) : OK K H0 (Zin Z ix σ S) (L2.capt n ix σ) H (aZ n ix S) where
 len := by simp [L2.capt, aZ]
 dom := k.dom
 zl := fun a z => by
  rcases z with z | ⟨i, s, _, h1, h2, h3⟩
  ·exact k.zl a z
  ·exact k.mo (.inl ⟨i, s, h1, h2, h3⟩)
 nz := fun j s a h1 h2 h3 z => by
  obtain ⟨q, i, rfl, hk, hs⟩ := j6 h1 h2
  have e := cT hk h3
  rcases z with z | ⟨i', s', hi', g1, g2, g3⟩
  ·exact k.nz i s a hs h2 e z
  ·have := k.inj i i' a s s' hs g1 h2 g2 e g3
   subst this
   exact hi' (List.mem_of_getElem? hk)
 inj := fun j j' a s s' h1 h2 m1 m2 h3 h4 => by
  obtain ⟨q, i, rfl, hk, hs⟩ := j6 h1 m1
  obtain ⟨q', i', rfl, hk', hs'⟩ := j6 h2 m2
  have := k.inj i i' a s s' hs hs' m1 m2 (cT hk h3) (cT hk' h4)
  subst this
  rw [pw hn hk hk']
 at_ := fun j o s h1 h2 => by
  have hN : ∀ a, NM Z σ S a -> NM (Zin Z ix σ S) (L2.capt n ix σ) (aZ n ix S) a := fun a x z => x (ei.mp z)
  rcases uu h2 with rfl | ⟨q, i, rfl, hk, hs⟩
  ·trivial
  ·rw [fI hk] at h1
   obtain ⟨o', e1, sl⟩ := k.ownAt hs
   rw [e1] at h1
   simp at h1
   subst h1
   cases s with
   | no => trivial
   | val d => obtain ⟨v, e, r⟩ := sl; exact ⟨v, e, r.mono (fun a x _ => ⟨hN a x, rfl⟩) fun _ x => x⟩
   | fre d => obtain ⟨v, e, r⟩ := sl; exact ⟨v, e, r.mono (fun a x _ => ⟨hN a x, rfl⟩) fun _ x => x⟩
   | own ds => obtain ⟨a, vs, e, e', e0, r⟩ := sl; exact ⟨a, vs, e, e', e0, r.mono (fun a x _ => ⟨hN a x, rfl⟩) fun _ x => x⟩
   | pen ad ns => exact sl
   | odi ks ds => obtain ⟨a, vs, e, e', e0, ek, r⟩ := sl; exact ⟨a, vs, e, e', e0, ⟨ek.1, ek.2.mono (fun a x _ => ⟨hN a x, rfl⟩) fun _ x => x⟩, r.mono (fun a x _ => ⟨hN a x, rfl⟩) fun _ x => x⟩
   | obj k => obtain ⟨a, e, e0, r⟩ := sl; exact ⟨a, e, e0, k.mono (fun a x _ => ⟨hN a x, rfl⟩) rfl r⟩
theorem qR {i j : Nat} (h : ix.idxOf? i = some j) : ix[j]? = some i := by
 unfold List.idxOf? at h
 obtain ⟨h1, h2, _⟩ := List.findIdx?_eq_some_iff_getElem.mp h
 rw [List.getElem?_eq_getElem h1]
 simpa using h2
theorem qS {i : Nat} (h : ix.idxOf? i = none) : i ∉ ix := by
 unfold List.idxOf? at h
 intro hm
 have := List.findIdx?_eq_none_iff.mp h i hm
 simp at this
theorem lA {i : Nat} {s : Sl} (h : S[i]? = some s) : (backS n ix S T)[i]? = some (match ix.idxOf? i with | some j => lz s ((T[n + j]?).getD .no) | none => s) := by
 have := ur (n := n) (ix := ix) (T := T) 0 h
 rwa [Nat.zero_add] at this
theorem dA {i : Nat} {s' : Sl} (h : (backS n ix S T)[i]? = some s') (m : s'.mut = true) : ∃ s, S[i]? = some s /\ s.mut = true /\ ((∃ j, ix[j]? = some i /\ T[n + j]? = some s') \/ (i ∉ ix /\ s = s')) := by
 have hl : i < S.length := by
  have := (List.getElem?_eq_some_iff.mp h).1
  rwa [show (backS n ix S T).length = S.length from iw 0] at this
 have e := lA (n := n) (ix := ix) (T := T) (List.getElem?_eq_getElem hl)
 rw [h] at e
 have e := Option.some.inj e
 refine ⟨_, List.getElem?_eq_getElem hl, ?_⟩
 cases hx : ix.idxOf? i with
 | none =>
  rw [hx] at e
  have e : s' = S[i] := e
  exact ⟨by rw [<- e]; exact m, .inr ⟨qS hx, e.symm⟩⟩
 | some j =>
  rw [hx] at e
  simp only [lz] at e
  by_cases hm : (S[i]).mut = true
  ·rw [if_pos hm] at e
   refine ⟨hm, .inl ⟨j, qR hx, ?_⟩⟩
   cases ht : T[n + j]? with
   | none => rw [ht] at e; simp [Sl.mut] at e; subst e; cases m
   | some t =>
    rw [ht] at e
    simp only [Option.getD_some] at e
    by_cases htm : t.mut = true
    ·rw [if_pos htm] at e; rw [e]
    ·rw [if_neg htm] at e; subst e; cases m
  ·rw [if_neg hm] at e; subst e; exact (hm m).elim
theorem pz {i : Nat} {s' : Sl} (h : (backS n ix S T)[i]? = some s') (m : s'.mut = false) : s' = .no \/ S[i]? = some s' := by
 have hl : i < S.length := by
  have := (List.getElem?_eq_some_iff.mp h).1
  rwa [show (backS n ix S T).length = S.length from iw 0] at this
 have e := lA (n := n) (ix := ix) (T := T) (List.getElem?_eq_getElem hl)
 rw [h] at e
 have e := Option.some.inj e
 cases hx : ix.idxOf? i with
 | none => rw [hx] at e; exact .inr (by rw [List.getElem?_eq_getElem hl, e])
 | some j =>
  rw [hx] at e
  simp only [lz] at e
  by_cases hm : (S[i]).mut = true
  ·rw [if_pos hm] at e
   by_cases htm : ((T[n + j]?).getD .no).mut = true
   ·rw [if_pos htm] at e; rw [e, htm] at m; cases m
   ·rw [if_neg htm] at e; exact .inl e
  ·rw [if_neg hm] at e; exact .inr (by rw [List.getElem?_eq_getElem hl, e])
theorem OK.back (k : OK K H0 Z σ H S) (k' : OK K H0 (Zin Z ix σ S) σ' H' T) (st : Step (Zin Z ix σ S) (L2.capt n ix σ) (aZ n ix S) H σ' T H') (hσ : ∀ (i : Nat) (v : V), (L2.capt n ix σ)[i]? = some (some v) -> σ'[i]? = some (some v)) :
  OK K H0 Z σ H' (backS n ix S T) /\ Step Z σ S H σ (backS n ix S T) H' /\ ∀ a, NM (Zin Z ix σ S) σ' T a -> NM Z σ (backS n ix S T) a := by
 have mo' : ∀ a, Mo Z σ (backS n ix S T) a -> Mo (Zin Z ix σ S) σ' T a := fun a z => by
  rcases z with ⟨i, s', h1, h2, h3⟩ | z
  ·obtain ⟨s, e, em, ⟨j, hj, ht⟩ | ⟨hi, rfl⟩⟩ := dA h1 h2
   ·exact .inl ⟨n + j, s', ht, h2, hσ _ _ (by rw [fI hj, h3]; rfl)⟩
   ·exact .inr (.inr ⟨i, s, hi, e, em, h3⟩)
  ·exact .inr (.inl z)
 have nm' : ∀ a, NM (Zin Z ix σ S) σ' T a -> NM Z σ (backS n ix S T) a := fun a x z => x (mo' a z)
 have nm0 : ∀ a, NM Z σ S a -> NM (Zin Z ix σ S) (L2.capt n ix σ) (aZ n ix S) a := fun a x z => x (ei.mp z)
 have old : ∀ a, NM Z σ S a -> H a ≠ none -> NM Z σ (backS n ix S T) a /\ H' a = H a := fun a x e => ⟨nm' a (st.1 a (nm0 a x) e).2, (st.1 a (nm0 a x) e).1⟩
 refine ⟨⟨by rw [show (backS n ix S T).length = S.length from iw 0]; exact k.len, fun i o s' h1 h2 => ?_, fun i j a s t h1 h2 m1 m2 h3 h4 => ?_, fun a e => k'.dom a e, fun a z => k'.zl a (.inl z), fun i s a h1 m h3 z => ?_⟩, ⟨fun a x e => ⟨(old a x e).2, (old a x e).1⟩, st.2.1, fun a z e => st.2.2 a (.inl z) e⟩, nm'⟩
 ·cases hm : s'.mut with
  | true =>
   obtain ⟨s, e, em, ⟨j, hj, ht⟩ | ⟨hi, rfl⟩⟩ := dA h2 hm
   ·have eo : ∃ v, o = some v := by
     obtain ⟨o', e1, q⟩ := k.ownAt e
     rw [h1] at e1; cases e1
     cases s with
     | no => cases em
     | val d => cases em
     | fre d => cases em
     | own ds => obtain ⟨a, _, e, _⟩ := q; exact ⟨_, e⟩
     | pen ad ns => obtain ⟨a, e, _⟩ := q; exact ⟨_, e⟩
     | odi ks ds => obtain ⟨a, _, e, _⟩ := q; exact ⟨_, e⟩
     | obj k => obtain ⟨a, e, _⟩ := q; exact ⟨_, e⟩
    obtain ⟨v, rfl⟩ := eo
    have q := k'.at_ (n + j) (some v) s' (hσ _ _ (by rw [fI hj, h1]; rfl)) ht
    cases s' with
    | no => cases hm
    | val d => cases hm
    | fre d => cases hm
    | own ds => obtain ⟨a, vs, e, e', e0, r⟩ := q; exact ⟨a, vs, e, e', e0, r.mono (fun a x _ => ⟨nm' a x, rfl⟩) fun _ x => x⟩
    | pen ad ns => exact q
    | odi ks ds => obtain ⟨a, vs, e, e', e0, ek, r⟩ := q; exact ⟨a, vs, e, e', e0, ⟨ek.1, ek.2.mono (fun a x _ => ⟨nm' a x, rfl⟩) fun _ x => x⟩, r.mono (fun a x _ => ⟨nm' a x, rfl⟩) fun _ x => x⟩
    | obj k => obtain ⟨a, e, e0, r⟩ := q; exact ⟨a, e, e0, k.mono (fun a x _ => ⟨nm' a x, rfl⟩) rfl r⟩
   ·obtain ⟨o', e1, q⟩ := k.ownAt e
    rw [h1] at e1; cases e1
    have hz : ∀ a us, o = some (V.ref a) -> H a = some us -> H' a = H a := fun a us eo ea => st.2.2 a (.inr ⟨i, s, hi, e, em, by rw [h1, eo]⟩) (by simp [ea])
    cases s with
    | no => cases hm
    | val d => cases hm
    | fre d => cases hm
    | own ds => obtain ⟨a, vs, e, e', e0, r⟩ := q; exact ⟨a, vs, e, (hz a _ e e').trans e', e0, r.mono old fun _ x => x⟩
    | pen ad ns => obtain ⟨a, e, e1, e'⟩ := q; exact ⟨a, e, e1, (hz a _ e e').trans e'⟩
    | odi ks ds => obtain ⟨a, vs, e, ⟨ob, e'⟩, e0, ek, r⟩ := q; exact ⟨a, vs, e, ⟨ob, (hz a _ e e').trans e'⟩, e0, ⟨ek.1, ek.2.mono old fun _ x => x⟩, r.mono old fun _ x => x⟩
    | obj k => obtain ⟨a, e, e0, r⟩ := q; exact ⟨a, e, e0, k.mono old (hz a _ e (Option.ne_none_iff_exists'.mp (k.ism r).ne).choose_spec) r⟩
  | false =>
   rcases pz h2 hm with rfl | e
   ·trivial
   ·have q := k.at_ i o s' h1 e
    cases s' with
    | no => trivial
    | val d => obtain ⟨v, e, r⟩ := q; exact ⟨v, e, r.mono old fun _ x => x⟩
    | fre d => obtain ⟨v, e, r⟩ := q; exact ⟨v, e, r.mono old fun _ x => x⟩
    | own ds => cases hm
    | pen ad ns => cases hm
    | odi ks ds => cases hm
    | obj k => cases hm
 ·obtain ⟨s0, e0, em0, c1⟩ := dA h1 m1
  obtain ⟨t0, f0, fm0, c2⟩ := dA h2 m2
  exact k.inj i j a s0 t0 e0 f0 em0 fm0 h3 h4
 ·obtain ⟨s0, e0, em0, c1⟩ := dA h1 m
  exact k.nz i s0 a e0 em0 h3 z
end
section
variable {K : PySem.W.Frag} {X : Cx} {e a b c tg elt iter : Expr} {te : TE} {va : VT} {pos : Pos}
structure VTs (K : PySem.W.Frag) (X : Cx) (ifs : List Expr) (te : TT) (t : VTT) : Prop where
 pe : PTs X ifs te
 snd : SndT K te t
def qT : VTT := fun S Q => Q true S
theorem aX : VTs K X [] nv qT := ⟨ny, fun _ _ _ _ _ _ _ k h q => q _ _ _ k .refl h⟩
theorem uw {tA : TT} {wA : VTT} (h : VTe K X c tA wA) : VTs K X [c] tA wA := ⟨uh h.pe, h.snd⟩
def jy (vi : VTN) (n : Nat) (ix : List Nat) (vg : VG) (vt : VTT) (ve : VT) : VTN := fun S Q => vi S fun ds S1 => ds.length <= 1000000 /\ ∃ Iv : Nat -> List D -> List Sl -> Prop, Iv 0 [] S1 /\
 (∀ i d ys S2, ds[i]? = some d -> Iv i ys S2 -> vg d (aZ n ix S2) fun S3 => vt S3 fun b S4 => if b = true then ve S4 fun r S5 => ∃ x, r = .d x /\ Iv (i + 1) (ys ++ [x]) (backS n ix S2 S5) else Iv (i + 1) ys (backS n ix S2 S4)) /\
 ∀ ys S2, Iv ds.length ys S2 -> Q ys S2
theorem bF {ifs : List Expr} {scope : Scope} {tg cs : List Str} {target : Expr} {wi : TI} {vi : VTN} {g : TG} {vg : VG} {tc : TT} {vt : VTT} {te : TE} {ve : VT} (Sc : aV X scope tg cs ix) (hcalm : X.calm = true) (kg : bO tg.length ix g) (hnd : ix.Nodup)
  (hi : VI K X target iter wi vi) (hg : ∀ C fp s H, VGe K (ak X scope (tg ++ cs) C fp s H) target g vg) (hc : ∀ C fp s H, VTs K (ak X scope (tg ++ cs) C fp s H) ifs tc vt) (he : ∀ C fp s H, VE K (ak X scope (tg ++ cs) C fp s H) true elt te ve)
  (hs : ∀ x, foldedSetIterable iter X.env x = pure x := by intro _; rfl) : VN K X (.ListComp elt [⟨target, iter, ifs, 0⟩] scope pos) (dU wi tg.length ix g tc te) (jy vi tg.length ix vg vt ve) := by
 have sg : SndG K g vg := (hg 0 [] X.s₀ (fun _ => none)).snd
 have sc : SndT K tc vt := (hc 0 [] X.s₀ (fun _ => none)).snd
 have se : SndE K true te ve := (he 0 [] X.s₀ (fun _ => none)).snd
 refine ⟨ui Sc hcalm kg hi.pi (fun C fp s H => (hg C fp s H).pg) (fun C fp s H => (hc C fp s H).pe) (fun C fp s H => (he C fp s H).pe) hs, fun H0 Z σ H S Q C k t hq => ?_⟩
 refine hi.snd H0 Z σ H S _ _ k t fun J ds H1 S1 k1 st1 gd zr1 => ?_
 obtain ⟨hl, Iv, i0, hs, hd⟩ := zr1
 refine ⟨fun i m ys H => m = ds.length - i /\ i <= ds.length /\ ys.length <= i /\ ∃ S2 zs, OK K H0 Z σ H S2 /\ Step Z σ S1 H1 σ S2 H /\ Reps K (NM Z σ S2) (Fr H0) H ys zs /\ Iv i zs S2, ⟨ds.length, by simp, Nat.zero_le _, Nat.le_refl _, S1, [], k1, .refl, .nil, i0⟩, ?_⟩
 rintro i m ys H2 ⟨rfl, hi, hy, S2, zs, k2, st2, rz, p⟩
 obtain ⟨g1, g2, g3⟩ := gd σ S2 H2 (fun _ => k2.nm) st2 i
 have hsz : (1000000 : Nat) < sizeLine := by rw [sizeLine_eq]; lia
 by_cases hlt : i < ds.length
 ·refine .inr ⟨g1 hlt, by lia, fun ys' H' => ys'.length <= i + 1 /\ ∃ S' zs', OK K H0 Z σ H' S' /\ Step Z σ S1 H1 σ S' H' /\ Reps K (NM Z σ S') (Fr H0) H' ys' zs' /\ Iv (i + 1) zs' S', fun ys' H' zt1 => by obtain ⟨p1, p2⟩ := zt1; exact ⟨ds.length - (i + 1), by lia, rfl, hlt, p1, p2⟩, fun x H3 y => ?_⟩
  obtain ⟨hgr, d, hd', rd⟩ := g2 x H3 y hlt
  replace k2 := k2.grow hgr
  replace st2 := st2.trans (.grow hgr)
  replace rz := rz.step (.grow hgr)
  have kc := k2.capt (n := tg.length) hnd
  have rd' : Rep K (NM (Zin Z ix σ S2) (L2.capt tg.length ix σ) (aZ tg.length ix S2)) AnyF H3 x d := rd.mono (fun a n _ => ⟨fun z => n (ei.mp z), rfl⟩) fun _ x => x
  -- the target leaves what the block took over
  have h1 := sg H0 _ _ H3 _ x d _ (fun σ4 H4 => ∃ S4, OK K H0 (Zin Z ix σ S2) σ4 H4 S4 /\ Step (Zin Z ix σ S2) (L2.capt tg.length ix σ) (aZ tg.length ix S2) H3 σ4 S4 H4 /\ vt S4 fun b S5 => if b = true then ve S5 fun r S6 => ∃ x, r = .d x /\ Iv (i + 1) (zs ++ [x]) (backS tg.length ix S2 S6) else Iv (i + 1) zs (backS tg.length ix S2 S5)) kc rd' (hs i d zs S2 hd' p) (fun σ4 H4 S4 k4 st4 q4 => ⟨S4, k4, st4, q4⟩)
  have h2 := kg x σ H3 _ h1
  refine (hg 0 [] X.s₀ (fun _ => none)).mono _ _ _ _ _ ?_ h2
  rintro σ4 H4 ⟨⟨hl4, hσ4⟩, S4, k4, st4, q4⟩
  refine sc H0 _ σ4 H4 S4 _ _ k4 q4 fun bb H5 S5 k5 st5 q5 => ?_
  cases bb with
  | false =>
   rw [if_neg Bool.false_ne_true] at q5 ⊢
   obtain ⟨kb, sb, nb⟩ := k2.back k5 (st4.trans st5) hσ4
   exact ⟨by lia, _, zs, kb, st2.trans sb, rz.step sb, q5⟩
  | true =>
   rw [if_pos rfl] at q5 ⊢
   refine se H0 _ σ4 H5 S5 _ _ k5 q5 fun vv H6 r S6 k6 st6 rr zr1 => ?_
   obtain ⟨xx, er, q6⟩ := zr1
   subst er
   obtain ⟨kb, sb, nb⟩ := k2.back k6 ((st4.trans st5).trans st6) hσ4
   refine ⟨by simp; lia, _, zs ++ [xx], kb, st2.trans sb, Reps.append (rz.step sb) (.cons (Rep.mono (fun a n _ => ⟨nb a n, rfl⟩) (fun _ x => x rfl) rr) .nil), q6⟩
 ·have e : i = ds.length := by lia
  refine .inl ⟨g3 e, by lia, fun l hp => ?_⟩
  exact hq l ys zs H2 _ S2 k2 (st1.trans st2) hp (ba hp) aD (cC hp (rz.mono (fun _ n _ => ⟨n, rfl⟩) fun _ x _ => x)) (hd zs S2 (by rw [<- e]; exact p))
theorem iy {elt iter : Expr} {pos spos py : Pos} {yy : Str} {ii : Nat} {ifs : List Expr} {scope : Scope} {tg cs : List Str} {target : Expr} {wi : TI} {vi : VTN} {g : TG} {vg : VG} {tc : TT} {vt : VTT} {te : TE} {ve : VT} (hN0 : X.N.Nodup) (hi0 : X.N[ii]? = some yy) (hx0 : Loc X.env.scope yy) (hf0 : X.fn yy = true \/ X.env.scope.names.lookup yy = some .local)
  (Sc : aV X scope tg cs ix) (hcalm : X.calm = true) (kg : bO tg.length ix g) (hnd : ix.Nodup)
  (hi : VI K X target iter wi vi) (hg : ∀ C fp s H, VGe K (ak X scope (tg ++ cs) C fp s H) target g vg) (hc : ∀ C fp s H, VTs K (ak X scope (tg ++ cs) C fp s H) ifs tc vt) (he : ∀ C fp s H, VE K (ak X scope (tg ++ cs) C fp s H) true elt te ve)
  (hsw : swapsWith (.ListComp elt [⟨target, iter, ifs, 0⟩] scope pos) (some (.Name yy py)) spos.line X.env = pure true := by rfl) (hs : ∀ x, foldedSetIterable iter X.env x = pure x := by intro _; rfl) : VS K X (.Assign [.Name yy py] (.ListComp elt [⟨target, iter, ifs, 0⟩] scope pos) spos) (dk (dU wi tg.length ix g tc te) (bq ii)) (mH (uo (jy vi tg.length ix vg vt ve)) (vgN ii)) := by
 have h := bF (pos := pos) Sc hcalm kg hnd hi hg hc he hs
 refine ⟨lh hN0 hi0 hx0 Sc hcalm kg hi.pi (fun C fp s H => (hg C fp s H).pg) (fun C fp s H => (hc C fp s H).pe) (fun C fp s H => (he C fp s H).pe) hf0 hsw hs, j5 (aT (m := false) h).snd fun H0 Z σ H S v d Q C k r zt1 hc => by obtain ⟨hi, q⟩ := zt1; exact hc _ _ _ (k.setVal hi r).1 (k.setVal hi r).2 q⟩
end
end VL
end
section
namespace VL
open PySem L2
section
variable {P : Program} {w : World} {K : PySem.W.Frag} {mg : Str -> Option Value} {base : Heap}
def slots (n : Nat) (ds : List D) : List Sl := ds.map .val ++ List.replicate (n - ds.length) .no
theorem iz {N : List Str} {i : Nat} (h : vs[i]? = some v) : (start N vs)[i]? = some (some v) := by
 unfold L2.start
 have hi := (List.getElem?_eq_some_iff.mp h).1
 rw [List.getElem?_append_left (by simpa using hi)]
 simp [h]
theorem lB {n : Nat} {i : Nat} {s : Sl} (h : (slots n ds)[i]? = some s) : s = .no \/ ∃ d, s = .val d /\ ds[i]? = some d := by
 unfold slots at h
 by_cases hi : i < ds.length
 ·rw [List.getElem?_append_left (by simpa using hi)] at h
  simp [hi] at h
  subst h
  exact .inr ⟨_, rfl, by simp [hi]⟩
 ·rw [List.getElem?_append_right (by simpa using hi)] at h
  have := List.mem_of_getElem? h
  exact .inl (List.eq_of_mem_replicate this)
theorem cE {n : Nat} {i : Nat} {s : Sl} (h : (slots n ds)[i]? = some s) : s.mut = false := by
 rcases lB h with rfl | ⟨d, rfl, _⟩ <;> rfl
theorem lC {N : List Str} (r : Reps K Any AnyF H vs ds) : OK K H (fun _ => False) (start N vs) H (slots N.length ds) where
 len := by simp [L2.start, slots, r.length]
 dom := fun _ e => e
 zl := fun _ z => z.elim
 nz := fun i s a h m _ => by rw [cE h] at m; cases m
 inj := fun i j a s t h1 h2 m1 => by rw [cE h1] at m1; cases m1
 at_ := fun i o s h1 h2 => by
  rcases lB h2 with rfl | ⟨d, rfl, e⟩
  ·trivial
  ·obtain ⟨v, e1, e2⟩ := r.getD e
   rw [iz e1] at h1
   cases h1
   refine ⟨v, rfl, e2.mono (fun a _ _ => ⟨?_, rfl⟩) fun _ x => x⟩
   rintro (⟨j, s, g1, g2, _⟩ | z)
   ·rw [cE g1] at g2; cases g2
   ·exact z
theorem cF {x : Str} {st : Stmt} {N ps : List Str} {k : Nat} (S : Src K mg x st) (sc : aK N ps (aj st))
  (hb : ∀ (kV doc pm : Value) (an : Option Addr) (cdv ct : Value) (us : List Value), us.length = ps.length -> bindArgs (PySem.W.fnOf x x (cz st) (bu st) (aj st) .none kV doc pm an cdv ct) ⟨us, []⟩ = pure (ps.zip us))
  (len : ∀ ds R, p ds R -> ds.length = ps.length)
  (hbody : ∀ (f : Addr) (cdv : Value) (A : Around) (outer : List Env) (s : Shared) (H : Hp) (E : XK), cj k (A.deeper (PyProof.Rows.envOfC x (aj st) s.heap.objs.size f cdv)) ->
   ∃ ts t, VSs K (gE CX0 P w K mg base N x (aj st) f cdv A outer s H E).nox (bu st) ts t /\ ∀ ds R, p ds R -> t { nx := fun _ => R .non, rt := fun d _ => R d } (slots N.length ds)) : Has P w K mg base (k + 1) x ps (spP K p) := by
 refine S.has sc hb (fun vs H Q E zq1 => by obtain ⟨ds, R, r, h, _⟩ := zq1; rw [r.length]; exact len ds R h) fun f cdv A outer s H vs Q E hr ⟨ds, R, r, h, fin⟩ => ?_
 obtain ⟨ts, t, vs', q⟩ := hbody f cdv A outer s H E hr
 have k0 := lC (N := N) r
 have st0 : ∀ {σ' S' H'}, Step (fun _ => False) (start N vs) (slots N.length ds) H σ' S' H' -> ∀ a, H a ≠ none -> H' a = H a := fun st a e => (st.1 a (by
  rintro (⟨j, s, g1, g2, _⟩ | z)
  ·rw [cE g1] at g2; cases g2
  ·exact z) e).1
 refine ⟨ts, vs'.ps, vs'.snd H _ _ H _ _ _ k0 (q ds R h) ⟨fun σ' H' S' k' st q => fin .non .non H' q (st0 st) .non, fun σ' H' S' k' st q => q.elim, fun σ' H' S' k' st q => q.elim, fun v d σ' H' S' k' st rr q => fin d v H' q (st0 st) (rr.mono (fun _ _ _ => ⟨trivial, rfl⟩) fun _ x => x)⟩⟩
def dI (n : Nat) (a : Addr) (ns : List Int) (ds es : List D) : List Sl := ds.map .val ++ .pen (some a) ns :: (es.map .val ++ List.replicate (n - (ds.length + 1 + es.length)) .no)
theorem jz {n : Nat} {a : Addr} {ds es : List D} {i : Nat} {s : Sl} (h : (dI n a ns ds es)[i]? = some s) : s = .no \/ (∃ d, s = .val d /\ (ds ++ .non :: es)[i]? = some d /\ i ≠ ds.length) \/ (i = ds.length /\ s = .pen (some a) ns) := by
 unfold dI at h
 by_cases hi : i < ds.length
 ·rw [List.getElem?_append_left (by simpa using hi)] at h
  simp [hi] at h
  subst h
  exact .inr (.inl ⟨_, rfl, by rw [List.getElem?_append_left hi]; simp [hi], by lia⟩)
 ·by_cases hi2 : i = ds.length
  ·subst hi2
   rw [List.getElem?_append_right (by simp)] at h
   simp at h
   exact .inr (.inr ⟨rfl, h.symm⟩)
  ·rw [List.getElem?_append_right (by simp; lia)] at h
   rw [List.length_map] at h
   obtain ⟨j, hj⟩ : ∃ j, i - ds.length = j + 1 := ⟨i - ds.length - 1, by lia⟩
   rw [hj, List.getElem?_cons_succ] at h
   by_cases hj2 : j < es.length
   ·rw [List.getElem?_append_left (by simpa using hj2)] at h
    simp [hj2] at h
    subst h
    refine .inr (.inl ⟨_, rfl, ?_, hi2⟩)
    rw [List.getElem?_append_right (by lia), hj, List.getElem?_cons_succ]
    simp [hj2]
   ·rw [List.getElem?_append_right (by simpa using hj2)] at h
    exact .inl (List.eq_of_mem_replicate (List.mem_of_getElem? h))
theorem nH {x : Str} {st : Stmt} {N ps : List Str} {k : Nat} (j : Nat) {p : List Int -> List D -> (D -> List Int -> Prop) -> Prop} (S : Src K mg x st) (sc : aK N ps (aj st))
  (hb : ∀ (kV doc pm : Value) (an : Option Addr) (cdv ct : Value) (us : List Value), us.length = ps.length -> bindArgs (PySem.W.fnOf x x (cz st) (bu st) (aj st) .none kV doc pm an cdv ct) ⟨us, []⟩ = pure (ps.zip us))
  (len : ∀ ns ds R, p ns ds R -> ds.length + 1 = ps.length)
  (hbody : ∀ (f : Addr) (cdv : Value) (A : Around) (outer : List Env) (s : Shared) (H : Hp) (E : XK), cj k (A.deeper (PyProof.Rows.envOfC x (aj st) s.heap.objs.size f cdv)) ->
   ∃ ts t, VSs K (gE CX0 P w K mg base N x (aj st) f cdv A outer s H E).nox (bu st) ts t /\ ∀ a ns ds es R, ds.length = j -> p ns (ds ++ es) R -> t { nx := fun S' => ∃ ns', S'[j]? = some (.pen (some a) ns') /\ R .non ns', rt := fun d S' => ∃ ns', S'[j]? = some (.pen (some a) ns') /\ R d ns' } (dI N.length a ns ds es)) :
  Has P w K mg base (k + 1) x ps (spI K j p) := by
 refine S.has sc hb (fun vs H Q E zq1 => by
  obtain ⟨a, ws, us, ns, ds, es, R, e, hl, hp, r1, r2, h, _⟩ := zq1
  have := len _ _ _ h
  rw [e, List.length_append, List.length_cons, r1.length, r2.length]
  rw [List.length_append] at this
  lia) fun f cdv A outer s H vs Q E hr zr1 => ?_
 obtain ⟨a, ws, us, ns, ds, es, R, e, hl, hp, r1, r2, h, fin⟩ := zr1
 subst e
 obtain ⟨ts, t, vs', q⟩ := hbody f cdv A outer s H E hr
 have hdl : ds.length = j := by rw [<- r1.length]; exact hl
 subst hdl
 have hmut : ∀ {i : Nat} {s : Sl}, (dI N.length a ns ds es)[i]? = some s -> s.mut = true -> i = ds.length /\ s = .pen (some a) ns := fun {i s} h m => by
  rcases jz h with rfl | ⟨d, rfl, _⟩ | h
  ·cases m
  ·cases m
  ·exact h
 have hpen : (start N (ws ++ .ref a :: us))[ds.length]? = some (some (V.ref a)) := iz (by rw [<- hl]; simp)
 have hmo : ∀ b, Mo (fun _ => False) (start N (ws ++ .ref a :: us)) (dI N.length a ns ds es) b -> b = a := fun b z => by
  rcases z with ⟨i, s, g1, g2, g3⟩ | z
  ·obtain ⟨rfl, _⟩ := hmut g1 g2
   rw [hpen] at g3; cases g3; rfl
  ·exact z.elim
 have hll : N.length - (ws.length + (us.length + 1)) = N.length - (ds.length + 1 + es.length) := by rw [r1.length, r2.length]; lia
 have k0 : OK K H (fun _ => False) (start N (ws ++ .ref a :: us)) H (dI N.length a ns ds es) := {
  len := by simp [L2.start, dI, r1.length, r2.length]; lia
  dom := fun _ e => e
  zl := fun _ z => z.elim
  nz := fun _ _ _ _ _ _ z => z
  inj := fun i j a s t h1 h2 m1 m2 _ _ => by rw [(hmut h1 m1).1, (hmut h2 m2).1]
  at_ := fun i o s h1 h2 => by
   rcases jz h2 with rfl | ⟨d, rfl, e, hi⟩ | ⟨rfl, rfl⟩
   ·trivial
   ·have rr : ∃ v, (ws ++ .ref a :: us)[i]? = some v /\ Rep K (· ≠ a) AnyF H v d := by
     by_cases hi2 : i < ds.length
     ·rw [List.getElem?_append_left hi2] at e
      obtain ⟨v, e1, e2⟩ := r1.getD e
      exact ⟨v, by rw [List.getElem?_append_left (by rw [r1.length]; exact hi2)]; exact e1, e2⟩
     ·rw [List.getElem?_append_right (by lia)] at e
      obtain ⟨j, hj⟩ : ∃ j, i - ds.length = j + 1 := ⟨i - ds.length - 1, by lia⟩
      rw [hj, List.getElem?_cons_succ] at e
      obtain ⟨v, e1, e2⟩ := r2.getD e
      exact ⟨v, by rw [List.getElem?_append_right (by rw [r1.length]; lia), r1.length, hj, List.getElem?_cons_succ]; exact e1, e2⟩
    obtain ⟨v, e1, e2⟩ := rr
    rw [iz e1] at h1
    cases h1
    exact ⟨v, rfl, e2.mono (fun b n _ => ⟨fun z => n (hmo b z), rfl⟩) fun _ x => x⟩
   ·rw [hpen] at h1
    cases h1
    exact ⟨a, rfl, fun b z => by cases z; rfl, hp⟩ }
 have st0 : ∀ {σ' S' H'}, Step (fun _ => False) (start N (ws ++ .ref a :: us)) (dI N.length a ns ds es) H σ' S' H' -> ∀ b, b ≠ a -> H b ≠ none -> H' b = H b := fun st b n e => (st.1 b (fun z => n (hmo b z)) e).1
 have pn : ∀ {σ' S' H' ns'}, OK K H (fun _ => False) σ' H' S' -> S'[ds.length]? = some (.pen (some a) ns') -> σ'[ds.length]? = some (some (V.ref a)) /\ H' a = some (.lst (ns'.map .int)) := fun k' e => by
  obtain ⟨o, e1, b, rfl, e2, e3⟩ := k'.ownAt e
  obtain rfl := e2 a rfl
  exact ⟨e1, e3⟩
 refine ⟨ts, vs'.ps, vs'.snd H _ _ H _ _ _ k0 (q a ns ds es R rfl h) ⟨fun σ' H' S' k' st zt1 => by obtain ⟨ns', e, q⟩ := zt1; exact fin .non ns' .non H' q (st0 st) (pn k' e).2 .non, fun σ' H' S' k' st q => q.elim, fun σ' H' S' k' st q => q.elim, fun v d σ' H' S' k' st rr ⟨ns', e, q⟩ => fin d ns' v H' q (st0 st) (pn k' e).2 (rr.mono (fun b n _ => ⟨fun z => ?_, rfl⟩) fun _ x => x)⟩⟩
 subst z
 exact n _ _ _ e (pn k' e).1
end
end VL
end
section
namespace VL
open PySem L2
mutual
def pd : D -> PyData
 | .int i => .int i
 | .bl b => .bool b
 | .non => .none
 | .str x => .str x
 | .ty _ => .none
 | .dic _ _ => .none
 | .exc _ => .none
 | .tup ds => .tuple (pds ds)
 | .lst ds => .list (pds ds)
def pds : List D -> List PyData
 | [] => []
 | d :: r => pd d :: pds r
end
mutual
def noTy : D -> Bool
 | .ty _ => false
 | .dic _ _ => false
 | .exc _ => false
 | .tup ds => iC ds
 | .lst ds => iC ds
 | _ => true
def iC : List D -> Bool
 | [] => true
 | d :: r => noTy d && iC r
end
section
variable {K : PySem.W.Frag} {X : Cx} {pins : List (Addr × Obj)} {σ : St} {H : Hp} {s : Shared} {N : AP} {F : FP}
mutual
theorem bY (I : Inv X pins σ H s) (hK : X.K = K) {v : V} {d : D} {u : Value} : Rep K N F H v d -> noTy d = true -> RelV v u -> ∃ as, Reads s.heap u (pd d) as := fun hh ee rr => by
 cases hh with
 | int i => have r := rr; obtain ⟨t, rfl⟩ := r; exact ⟨_, .int i t⟩
 | bl b => have r := rr; cases r; exact ⟨_, .bool b⟩
 | non => have r := rr; cases r; exact ⟨_, .none⟩
 | str x => have r := rr; obtain ⟨t, rfl⟩ := r; exact ⟨_, .str x t⟩
 | ty x => have e := ee; cases e
 | dic n f h _ _ rs => have e := ee; simp [noTy] at e
 | exc n h _ => have e := ee; simp [noTy] at e
 | tup n h rs =>
  have e := ee
  have r := rr
  cases r
  obtain ⟨its, rv, ⟨o, ho, hc, n, hd⟩, _⟩ := I.tuple (xs := _) (.inl h)
  obtain ⟨as, ra⟩ := cw I hK rs (by simpa [noTy] using e) rv
  exact ⟨as, .tuple ho hc hd (by simpa using ra)⟩
 | tupK h rs =>
  have e := ee
  have r := rr
  cases r
  obtain ⟨its, rv, ⟨o, ho, hc, n, hd⟩, _⟩ := I.tuple (xs := _) (by rw [hK]; exact fF h)
  obtain ⟨as, ra⟩ := cw I hK rs (by simpa [noTy] using e) rv
  exact ⟨as, .tuple ho hc hd (by simpa using ra)⟩
 | lst n f h rs =>
  have e := ee
  have r := rr
  cases r
  obtain ⟨its, rv, pl, _⟩ := I.list (xs := _) (.inl (.inl h))
  obtain ⟨o, ho, hc, n, hd⟩ := pl.isList
  obtain ⟨as, ra⟩ := cw I hK rs (by simpa [noTy] using e) rv
  exact ⟨_, .list ho hc hd (by simpa using ra)⟩
 | lstF n f h rs =>
  have e := ee
  have r := rr
  cases r
  obtain ⟨its, rv, pl, _⟩ := I.list (xs := _) (.inl (.inr ⟨_, h⟩))
  obtain ⟨o, ho, hc, n, hd⟩ := pl.isList
  obtain ⟨as, ra⟩ := cw I hK rs (by simpa [noTy] using e) rv
  exact ⟨_, .list ho hc hd (by simpa using ra)⟩
 | lstK f h rs =>
  have e := ee
  have r := rr
  cases r
  obtain ⟨its, rv, pl, _⟩ := I.list (xs := _) (by rw [hK]; exact ik h)
  obtain ⟨o, ho, hc, n, hd⟩ := pl.isList
  obtain ⟨as, ra⟩ := cw I hK rs (by simpa [noTy] using e) rv
  exact ⟨_, .list ho hc hd (by simpa using ra)⟩
theorem cw (I : Inv X pins σ H s) (hK : X.K = K) {vs : List V} {ds : List D} {us : List Value} : Reps K N F H vs ds -> iC ds = true -> Vals vs us -> ∃ as, ReadsAll s.heap us (pds ds) as := fun hh ee rr => by
 cases hh with
 | nil => have r := rr; cases r; exact ⟨_, .nil⟩
 | cons h t =>
  have e := ee
  have r := rr
  simp only [iC, Bool.and_eq_true] at e
  cases r with
  | cons r1 r2 =>
   obtain ⟨as, ra⟩ := bY I hK h e.1 r1
   obtain ⟨bs, rb⟩ := cw I hK t e.2 r2
   exact ⟨_, .cons ra rb⟩
end
end
structure Okd (d : D) : Prop where
 ty : noTy d = true
 lay : (pd d).canLay0 = true
 dep : (pd d).depth <= 40
def yJ (K : PySem.W.Frag) (neg : Bool) : R2 := fun x y H Q => ∃ d1 d2, Rep K Any AnyF H x d1 /\ Rep K Any AnyF H y d2 /\ Okd d1 /\ Okd d2 /\ Q (.bl (if neg then !PyData.eqv (pd d1) (pd d2) else PyData.eqv (pd d1) (pd d2))) H
def fY (neg : Bool) : D -> D -> (D -> Prop) -> Prop := fun d1 d2 q => Okd d1 /\ Okd d2 /\ q (.bl (if neg then !PyData.eqv (pd d1) (pd d2) else PyData.eqv (pd d1) (pd d2)))
def Be (K : PySem.W.Frag) (neg : Bool) : R2 := fun x y H Q => ∃ d ds, Rep K Any AnyF H x d /\ (Rep K Any AnyF H y (.lst ds) \/ Rep K Any AnyF H y (.tup ds)) /\ Okd d /\ Okd (.lst ds) /\ Q (.bl (if neg then !(pds ds).any (fun y => PyData.eqv y (pd d)) else (pds ds).any (fun y => PyData.eqv y (pd d)))) H
def mJ (neg : Bool) : D -> D -> (D -> Prop) -> Prop := fun d d2 q => ∃ ds, (d2 = .lst ds \/ d2 = .tup ds) /\ Okd d /\ Okd (.lst ds) /\ q (.bl (if neg then !(pds ds).any (fun y => PyData.eqv y (pd d)) else (pds ds).any (fun y => PyData.eqv y (pd d))))
section
variable {K : PySem.W.Frag} {X : Cx}
theorem j7 (hK : X.K = K) (hu : X.A.units + 64 < cLine) : OpR X (compareOp .Eq) (yJ K false) := by
 rintro pins s σ H x y v u Q I rx ry ⟨d1, d2, r1, r2, o1, o2, q⟩
 obtain ⟨as, ra⟩ := bY I hK r1 o1.ty rx
 obtain ⟨bs, rb⟩ := bY I hK r2 o2.ty ry
 exact SeqAt.compareEq_reads ra rb o1.lay o2.lay (by have := o1.dep; lia) ⟨.bl _, H, I, rfl, q⟩
theorem j8 (hK : X.K = K) (hu : X.A.units + 64 < cLine) : OpR X (compareOp .NotEq) (yJ K true) := by
 rintro pins s σ H x y v u Q I rx ry ⟨d1, d2, r1, r2, o1, o2, q⟩
 obtain ⟨as, ra⟩ := bY I hK r1 o1.ty rx
 obtain ⟨bs, rb⟩ := bY I hK r2 o2.ty ry
 exact SeqAt.compareNe_reads ra rb o1.lay o2.lay (by have := o1.dep; lia) ⟨.bl _, H, I, rfl, q⟩
theorem pA (o : Okd (.lst ds)) : PyData.canLayAll0 (pds ds) = true /\ PyData.depthAll (pds ds) <= 40 /\ noTy (.tup ds) = true := by
 refine ⟨by simpa [pd, PyData.canLay0] using o.lay, ?_, by simpa [noTy] using o.ty⟩
 have := o.dep
 simp only [pd, PyData.depth] at this
 lia
theorem pB (hK : X.K = K) (hu : X.A.units + 64 < cLine) : OpR X (compareOp .NotIn) (Be K true) := by
 rintro pins s σ H x y v u Q I rx ry ⟨d, ds, r1, r2, o1, o2, q⟩
 obtain ⟨as, ra⟩ := bY I hK r1 o1.ty rx
 obtain ⟨h1, h2, h3⟩ := pA o2
 rcases r2 with r2 | r2
 ·obtain ⟨bs, rb⟩ := bY I hK r2 o2.ty ry
  exact SeqAt.notIn_list_reads (by simpa [pd] using rb) ra h1 o1.lay (by lia) ⟨.bl _, H, I, rfl, q⟩
 ·obtain ⟨bs, rb⟩ := bY I hK r2 h3 ry
  exact SeqAt.notIn_tuple_reads (by simpa [pd] using rb) ra h1 o1.lay (by lia) ⟨.bl _, H, I, rfl, q⟩
theorem gw {neg : Bool} : bX K (yJ K neg) (fY neg) := fun x y H d1 d2 q C r1 r2 zt1 hc => by obtain ⟨o1, o2, h⟩ := zt1; exact ⟨d1, d2, r1, r2, o1, o2, hc _ _ h fun _ _ => .bl _⟩
theorem Bf {neg : Bool} : bX K (Be K neg) (mJ neg) := fun x y H d1 d2 q C r1 r2 zt1 hc => by obtain ⟨ds, e, o1, o2, h⟩ := zt1; exact ⟨d1, ds, r1, e.imp (fun e => by rw [<- e]; exact r2) (fun e => by rw [<- e]; exact r2), o1, o2, hc _ _ h fun _ _ => .bl _⟩
end
theorem cZ {α : Type} (f : α -> D) : ∀ l : List α, pds (l.map f) = l.map fun x => pd (f x)
 | [] => rfl
 | _ :: r => by simp [pds, cZ f r]
theorem fZ {α : Type} {f : α -> D} (h : ∀ x, noTy (f x) = true) : ∀ l : List α, iC (l.map f) = true
 | [] => rfl
 | _ :: r => by simp [iC, h, fZ h r]
theorem iD {α : Type} {f : α -> PyData} (h : ∀ x, (f x).canLay0 = true) : ∀ l : List α, PyData.canLayAll0 (l.map f) = true
 | [] => rfl
 | _ :: r => by simp [PyData.canLayAll0, h, iD h r]
theorem iE {α : Type} {f : α -> PyData} {n : Nat} (h : ∀ x, (f x).depth <= n) : ∀ l : List α, PyData.depthAll (l.map f) <= n
 | [] => by simp [PyData.depthAll]
 | x :: r => by simp only [List.map_cons, PyData.depthAll]; exact Nat.max_le.mpr ⟨h x, iE h r⟩
structure Enc {α : Type} (n : Nat) (f : α -> D) : Prop where
 ty : ∀ x, noTy (f x) = true
 lay : ∀ x, (pd (f x)).canLay0 = true
 dep : ∀ x, (pd (f x)).depth <= n
 eq : ∀ x y, PyData.eqv (pd (f x)) (pd (f y)) = true ↔ x = y
theorem fe {α : Type} {f : α -> PyData} (h : ∀ x y, PyData.eqv (f x) (f y) = true ↔ x = y) : ∀ l m : List α, PyData.eqvAll (l.map f) (m.map f) = true ↔ l = m
 | [], [] => by simp [PyData.eqvAll]
 | [], _ :: _ => by simp [PyData.eqvAll]
 | _ :: _, [] => by simp [PyData.eqvAll]
 | x :: r, y :: t => by simp [PyData.eqvAll, h, fe h r t]
theorem ux : Enc 0 D.int := ⟨fun _ => rfl, fun _ => rfl, fun _ => Nat.le_refl _, fun x y => by simp [pd, PyData.eqv]⟩
theorem Enc.tup {α : Type} {n : Nat} {f : α -> D} (e : Enc n f) : Enc (n + 1) (fun l : List α => D.tup (l.map f)) where
 ty := fun l => by simp only [noTy]; exact fZ e.ty l
 lay := fun l => by simp only [pd, PyData.canLay0, cZ]; exact iD e.lay l
 dep := fun l => by simp only [pd, PyData.depth, cZ]; exact Nat.succ_le_succ (iE e.dep l)
 eq := fun l m => by simp only [pd, PyData.eqv, cZ]; exact fe e.eq l m
theorem Enc.lst {α : Type} {n : Nat} {f : α -> D} (e : Enc n f) : Enc (n + 1) (fun l : List α => D.lst (l.map f)) where
 ty := fun l => by simp only [noTy]; exact fZ e.ty l
 lay := fun l => by simp only [pd, PyData.canLay0, cZ]; exact iD e.lay l
 dep := fun l => by simp only [pd, PyData.depth, cZ]; exact Nat.succ_le_succ (iE e.dep l)
 eq := fun l m => by simp only [pd, PyData.eqv, cZ]; exact fe e.eq l m
theorem et : Enc 1 eT := ux.tup
theorem ff : Enc 2 eL := et.lst
theorem Enc.okd {α : Type} {n : Nat} {f : α -> D} (e : Enc n f) (hn : n <= 40) (x : α) : Okd (f x) := ⟨e.ty x, e.lay x, Nat.le_trans (e.dep x) hn⟩
theorem Enc.eqv {α : Type} [DecidableEq α] {n : Nat} {f : α -> D} (e : Enc n f) (x y : α) : PyData.eqv (pd (f x)) (pd (f y)) = decide (x = y) := by
 rw [Bool.eq_iff_iff, e.eq, decide_eq_true_iff]
theorem Enc.any {α : Type} [DecidableEq α] {n : Nat} {f : α -> D} (e : Enc n f) (x : α) (l : List α) : (pds (l.map f)).any (fun y => PyData.eqv y (pd (f x))) = decide (x ∈ l) := by
 rw [cZ, List.any_map]
 induction l with
 | nil => simp
 | cons a r ih =>
  rw [List.any_cons, ih]
  simp only [Function.comp, e.eqv]
  rw [Bool.eq_iff_iff]
  simp only [Bool.or_eq_true, decide_eq_true_eq, List.mem_cons]
  exact ⟨fun z => z.elim (fun z => .inl z.symm) .inr, fun z => z.elim (fun z => .inl z.symm) .inr⟩
theorem wW {α : Type} [DecidableEq α] {n : Nat} {f : α -> D} (e : Enc n f) {x y : α} (h : q (.bl (decide (x = y)))) (hn : n <= 40 := by decide) : fY false (f x) (f y) q := ⟨e.okd hn x, e.okd hn y, by simpa [e.eqv] using h⟩
theorem Bg {α : Type} [DecidableEq α] {n : Nat} {f : α -> D} (e : Enc n f) {x y : α} (h : q (.bl (!decide (x = y)))) (hn : n <= 40 := by decide) : fY true (f x) (f y) q := ⟨e.okd hn x, e.okd hn y, by simpa [e.eqv] using h⟩
theorem lD {α : Type} [DecidableEq α] {n : Nat} {f : α -> D} (e : Enc n f) {x : α} {l : List α} (h : q (.bl (!decide (x ∈ l)))) (hn : n + 1 <= 40 := by decide) : mJ true (f x) (.lst (l.map f)) q := ⟨_, .inl rfl, e.okd (by lia) x, e.lst.okd hn l, by simpa only [e.any, if_true] using h⟩
end VL
namespace VL
open PySem L2
section
variable {K : PySem.W.Frag} {X : Cx}
theorem gx (hK : X.K = K) : bW X (.builtin "len") (fun xs H Q => ∃ p ys, xs = [.ref p] /\ (SqL K H p ys \/ SqT K H p ys) /\ Q (.int ys.length) H) := by subst hK; exact jS
theorem eY (hK : X.K = K) : bW X (.builtin "isinstance") (yo K) := by subst hK; exact qy
theorem pC : bootBuiltins "sorted" = some (.builtin "sorted") := by decide +kernel
theorem j9 : bootBuiltins "max" = some (.builtin "max") := by decide +kernel
theorem iF : bootBuiltins "min" = some (.builtin "min") := by decide +kernel
theorem iG : bootBuiltins "all" = some (.builtin "all") := by decide +kernel
theorem mK : bootBuiltins "str" = some (.type "str") := by decide +kernel
end
end VL
end
section
namespace VL
open PySem L2
section
variable {S S1 : List Sl} {Q : VR -> List Sl -> Prop} {QT : Bool -> List Sl -> Prop} {QN : List D -> List Sl -> Prop} {QA : List VR -> List Sl -> Prop} {W : bM} {va vb : VT} {vr : VTA} {vt vu : VTT} {vn : VTN} {s t : VTS} {g : VG}
def Bh (u : VTS) (W : bM) : List Sl -> Prop := fun S' => ∃ S'', Wk S' S'' /\ u W S''
theorem Bi {u : VTS} (h : t ⟨Bh u W, W.rt, W.bk, W.ct⟩ S) : A8 t u W S := h
theorem yK {u : VTS} (h : u W S) : Bh u W S := ⟨S, Wk.refl S, h⟩
def Bj (g : VG) (W : bM) : VR -> List Sl -> Prop := fun r S1 => ∃ d, r = .d d /\ g d S1 W.nx
theorem Bk (h : va S (Bj g W)) : mH va g W S := h
theorem yL (h : g d S W.nx) : Bj g W (.d d) S := ⟨d, rfl, h⟩
theorem Dm {i : Nat} {q : List Sl -> Prop} (e : Nat.ble (i + 1) S.length = true) (h : q (S.set i (.val d))) : vgN i d S q := ⟨Nat.le_of_ble_eq_true e, h⟩
theorem Do {n : Nat} {u : List D -> List Sl -> (List Sl -> Prop) -> Prop} {q : List Sl -> Prop} (e : ds.length = n) (h : u ds S q) : vgT n u (.tup ds) S q := ⟨ds, rfl, e, h⟩
theorem yM {q : List Sl -> Prop} (h : q S) : wU [] S q := ⟨rfl, h⟩
theorem uy {r : List D} {u : List D -> List Sl -> (List Sl -> Prop) -> Prop} {q : List Sl -> Prop} (h : g d S fun S1 => u r S1 q) : qM g u (d :: r) S q := ⟨d, r, rfl, h⟩
def wX (i : Nat) (W : bM) : List D -> List Sl -> Prop := fun ds S1 => i < S1.length /\ W.nx (S1.set i (.own ds))
theorem yN {i : Nat} (h : vn S (wX i W)) : qN i vn W S := h
theorem uz {i : Nat} (e : Nat.ble (i + 1) S.length = true) (h : W.nx (S.set i (.own ds))) : wX i W ds S := ⟨Nat.le_of_ble_eq_true e, h⟩
def Bl (W : bM) : VR -> List Sl -> Prop := fun r S1 => ∃ d, retD S1 r = some d /\ W.rt d S1
theorem Bm (h : va S (Bl W)) : yx va W S := h
theorem qU (e : retD S r = some d) (h : W.rt d S) : Bl W r S := ⟨d, e, h⟩
def kIf (t u : VTS) (W : bM) : Bool -> List Sl -> Prop := fun b S1 => if b = true then t W S1 else u W S1
theorem Bn {u : VTS} (h : vt S (kIf t u W)) : A9 vt t u W S := h
theorem Bo {u : VTS} {b : Bool} (h1 : b = true -> t W S) (h2 : b = false -> u W S) : kIf t u W b S := by
 cases b with
 | true => show (if true = true then _ else _); rw [if_pos rfl]; exact h1 rfl
 | false => show (if false = true then _ else _); rw [if_neg Bool.false_ne_true]; exact h2 rfl
theorem qV {u : VTS} (h : t W S) : kIf t u W true S := by show (if true = true then _ else _); rw [if_pos rfl]; exact h
theorem qW {u : VTS} (h : u W S) : kIf t u W false S := by show (if false = true then _ else _); rw [if_neg Bool.false_ne_true]; exact h
theorem eu {u : VTS} {p : Prop} [Decidable p] (h1 : p -> t W S) (h2 : ¬p -> u W S) : kIf t u W (decide p) S := Bo (fun e => h1 (of_decide_eq_true e)) (fun e => h2 (of_decide_eq_false e))
def wY (W : bM) : VR -> List Sl -> Prop := fun _ S1 => W.nx S1
theorem yO (h : va S (wY W)) : wQ va W S := h
theorem uA (h : W.nx S) : wY W r S := h
theorem yP (h : W.nx S) : wO W S := h
theorem j_c (h : Q (.d d) S) : vC d S Q := h
theorem Bp {i : Nat} (e : rdO i S[i]? = some r) (h : Q r S) : gJ i S Q := ⟨r, e, h⟩
def qX (Q : VR -> List Sl -> Prop) : VR -> List Sl -> Prop := fun r S' => (match r with | .d d => flat d = true | .own _ => True) /\ Q r S'
theorem yQ (h : va S (qX Q)) : wK va S Q := h
theorem uB (e : flat d = true) (h : Q (.d d) S) : qX Q (.d d) S := ⟨e, h⟩
theorem qY {i : Nat} (h : Q (.own i) S) : qX Q (.own i) S := ⟨trivial, h⟩
def k2a (w : D -> D -> (D -> Prop) -> Prop) (vb : VT) (Q : VR -> List Sl -> Prop) : VR -> List Sl -> Prop := fun ra S1 => vb S1 fun rb S2 => ∃ d1 d2, get S2 ra = some d1 /\ get S2 rb = some d2 /\ w d1 d2 fun d => Q (.d d) S2
def k2b (w : D -> D -> (D -> Prop) -> Prop) (Q : VR -> List Sl -> Prop) (ra : VR) : VR -> List Sl -> Prop := fun rb S2 => ∃ d1 d2, get S2 ra = some d1 /\ get S2 rb = some d2 /\ w d1 d2 fun d => Q (.d d) S2
theorem j_2 {w : D -> D -> (D -> Prop) -> Prop} (h : va S (k2a w vb Q)) : v2 w va vb S Q := h
theorem Dp {w : D -> D -> (D -> Prop) -> Prop} {ra : VR} (h : vb S (k2b w Q ra)) : k2a w vb Q ra S := h
theorem Dq {w : D -> D -> (D -> Prop) -> Prop} {ra rb : VR} {d1 d2 : D} (e1 : get S ra = some d1) (e2 : get S rb = some d2) (h : w d1 d2 fun d => Q (.d d) S) : k2b w Q ra rb S := ⟨d1, d2, e1, e2, h⟩
theorem Bq {f : Int -> Int -> L2.V} {i j : Int} (h : q (ofV (f i j))) : wI0 f (.int i) (.int j) q := ⟨i, j, rfl, rfl, h⟩
theorem yR {C : Int -> Int -> Prop} {f : Int -> Int -> L2.V} {i j : Int} (c : C i j) (h : q (ofV (f i j))) : wI C f (.int i) (.int j) q := ⟨i, j, rfl, rfl, c, h⟩
theorem Br {neg : Bool} (h : q (.bl (if neg then !qE d else qE d))) : A1 neg d .non q := ⟨rfl, h⟩
def Bs (vb : VT) (Q : VR -> List Sl -> Prop) : VR -> List Sl -> Prop := fun ra S1 => vb S1 fun rb S2 => ∃ ds i d, (get S2 ra = some (.lst ds) \/ get S2 ra = some (.tup ds)) /\ get S2 rb = some (.int i) /\ atI ds i = some d /\ Q (.d d) S2
def yS (Q : VR -> List Sl -> Prop) (ra : VR) : VR -> List Sl -> Prop := fun rb S2 => ∃ ds i d, (get S2 ra = some (.lst ds) \/ get S2 ra = some (.tup ds)) /\ get S2 rb = some (.int i) /\ atI ds i = some d /\ Q (.d d) S2
theorem Dr (h : va S (Bs vb Q)) : vIx va vb S Q := h
theorem Bt {ra : VR} (h : vb S (yS Q ra)) : Bs vb Q ra S := h
theorem dW {ra rb : VR} {i : Int} (e1 : get S ra = some (.lst ds)) (e2 : get S rb = some (.int i)) (e3 : atI ds i = some d) (h : Q (.d d) S) : yS Q ra rb S := ⟨ds, i, d, .inl e1, e2, e3, h⟩
theorem Bu {ra rb : VR} {i : Int} (e1 : get S ra = some (.tup ds)) (e2 : get S rb = some (.int i)) (e3 : atI ds i = some d) (h : Q (.d d) S) : yS Q ra rb S := ⟨ds, i, d, .inr e1, e2, e3, h⟩
def wZ (QT : Bool -> List Sl -> Prop) : VR -> List Sl -> Prop := fun r S' => ∃ k, r = .d (.bl k) /\ QT k S'
theorem yT (h : va S (wZ QT)) : ip va S QT := h
theorem uC {k : Bool} (h : QT k S) : wZ QT (.d (.bl k)) S := ⟨k, rfl, h⟩
def kOr (u : VTT) (QT : Bool -> List Sl -> Prop) : Bool -> List Sl -> Prop := fun c S1 => if c = true then QT true S1 else u S1 QT
def Bv (QT : Bool -> List Sl -> Prop) : Bool -> List Sl -> Prop := fun c S1 => QT (!c) S1
theorem Ds (h : vt S (kOr vu QT)) : vOr vt vu S QT := h
theorem Bw (h : vt S (Bv QT)) : A2 vt S QT := h
theorem yU {b : Bool} (h : QT (!b) S) : Bv QT b S := h
theorem w4 {b : Bool} (h1 : b = true -> QT true S) (h2 : b = false -> vu S QT) : kOr vu QT b S := by
 cases b with
 | true => show (if true = true then _ else _); rw [if_pos rfl]; exact h1 rfl
 | false => show (if false = true then _ else _); rw [if_neg Bool.false_ne_true]; exact h2 rfl
theorem qZ (h : vu S QT) : kOr vu QT false S := w4 (fun e => nomatch e) fun _ => h
theorem yV (h : QT true S) : kOr vu QT true S := w4 (fun _ => h) fun e => nomatch e
def lE (vb : VT) (Q : VR -> List Sl -> Prop) : VR -> List Sl -> Prop := fun r S1 => ∃ c, r = .d (.bl c) /\ if c = true then vb S1 Q else Q (.d (.bl false)) S1
def w6 (Q : VR -> List Sl -> Prop) : VR -> List Sl -> Prop := fun r S1 => ∃ c, r = .d (.bl c) /\ Q (.d (.bl (!c))) S1
theorem yW (h : va S (lE vb Q)) : wL va vb S Q := h
theorem yX (h : va S (w6 Q)) : wM va S Q := h
theorem uD {c : Bool} (h : Q (.d (.bl (!c))) S) : w6 Q (.d (.bl c)) S := ⟨c, rfl, h⟩
theorem nI {c : Bool} (h1 : c = true -> vb S Q) (h2 : c = false -> Q (.d (.bl false)) S) : lE vb Q (.d (.bl c)) S := ⟨c, rfl, by
 cases c with
 | true => rw [if_pos rfl]; exact h1 rfl
 | false => rw [if_neg Bool.false_ne_true]; exact h2 rfl⟩
def uE (va vb : VT) (Q : VR -> List Sl -> Prop) : Bool -> List Sl -> Prop := fun c S1 => if c = true then va S1 Q else vb S1 Q
theorem Bx (h : vt S (uE va vb Q)) : vIf vt va vb S Q := h
theorem rf {b : Bool} (h1 : b = true -> va S Q) (h2 : b = false -> vb S Q) : uE va vb Q b S := by
 cases b with
 | true => show (if true = true then _ else _); rw [if_pos rfl]; exact h1 rfl
 | false => show (if false = true then _ else _); rw [if_neg Bool.false_ne_true]; exact h2 rfl
theorem By (h : QA [] S) : um S QA := h
def rh (vr : VTA) (QA : List VR -> List Sl -> Prop) : VR -> List Sl -> Prop := fun r S1 => vr S1 fun rs S2 => QA (r :: rs) S2
theorem yY (h : va S (rh vr QA)) : lq va vr S QA := h
theorem uF (h : vr S fun rs S2 => QA (r :: rs) S2) : rh vr QA r S := h
def BA (Q : VR -> List Sl -> Prop) : List VR -> List Sl -> Prop := fun rs S1 => ∃ ds, allD rs = some ds /\ ds.length <= 1000 /\ Q (.d (.tup ds)) S1
theorem BB (h : vr S (BA Q)) : yt vr S Q := h
theorem yZ (e : allD rs = some ds) (e2 : Nat.ble ds.length 1000 = true) (h : Q (.d (.tup ds)) S) : BA Q rs S := ⟨ds, e, Nat.le_of_ble_eq_true e2, h⟩
def BC (QN : List D -> List Sl -> Prop) : List VR -> List Sl -> Prop := fun rs S1 => ∃ ds, allD rs = some ds /\ ds.length <= 1000 /\ QN ds S1
theorem BD (h : vr S (BC QN)) : A3 vr S QN := h
theorem y8 (e : allD rs = some ds) (e2 : Nat.ble ds.length 1000 = true) (h : QN ds S) : BC QN rs S := ⟨ds, e, Nat.le_of_ble_eq_true e2, h⟩
def BE (Q : VR -> List Sl -> Prop) : List D -> List Sl -> Prop := fun ds S1 => Q (.d (.lst ds)) S1
theorem BF (h : vn S (BE Q)) : uo vn S Q := h
theorem y9 (h : Q (.d (.lst ds)) S) : BE Q ds S := h
def kCB (w : List D -> (D -> Prop) -> Prop) (Q : VR -> List Sl -> Prop) : List VR -> List Sl -> Prop := fun rs S1 => ∃ ds, gets S1 rs = some ds /\ w ds fun d => Q (.d d) S1
theorem Dt {w : List D -> (D -> Prop) -> Prop} (h : vr S (kCB w Q)) : vCB w vr S Q := h
theorem BG {w : List D -> (D -> Prop) -> Prop} (e : gets S rs = some ds) (h : w ds fun d => Q (.d d) S) : kCB w Q rs S := ⟨ds, e, h⟩
theorem za {es : List D} (h : q (.int es.length)) : yu [.lst es] q := ⟨es, .inl rfl, h⟩
theorem zd {es : List D} (h : q (.int es.length)) : yu [.tup es] q := ⟨es, .inr rfl, h⟩
theorem BH {i : Int} (h : q (.int (if i < 0 then -i else i))) : A5 [.int i] q := ⟨i, rfl, h⟩
theorem Du {f : Int -> Int -> Int} {i j : Int} (h : q (.int (f i j))) : wMM f [.int i, .int j] q := ⟨i, j, rfl, h⟩
theorem Dv (h : vr S (kCB p Q)) : vFn p vr S Q := h
def BI (p : List D -> (D -> Prop) -> Prop) (QN : List D -> List Sl -> Prop) : List VR -> List Sl -> Prop := fun rs S1 => ∃ ds, gets S1 rs = some ds /\ p ds fun d => ∃ es, d = .lst es /\ flats es = true /\ QN es S1
theorem BJ (h : vr S (BI p QN)) : A7 p vr S QN := h
theorem ze (e : gets S rs = some ds) (h : p ds fun d => ∃ es, d = .lst es /\ flats es = true /\ QN es S) : BI p QN rs S := ⟨ds, e, h⟩
def BK (j : Nat) (p : List Int -> List D -> (D -> List Int -> Prop) -> Prop) (Q : VR -> List Sl -> Prop) : List VR -> List Sl -> Prop := fun rs S1 => ∃ i rs' ad ns ds, pick rs j = some (i, rs') /\ S1[i]? = some (.pen ad ns) /\ allD rs' = some ds /\ p ns ds fun d ns' => Q (.d d) (S1.set i (.pen ad ns'))
theorem BL {j : Nat} {p : List Int -> List D -> (D -> List Int -> Prop) -> Prop} (h : vr S (BK j p Q)) : Bb j p vr S Q := h
theorem zf {j : Nat} {p : List Int -> List D -> (D -> List Int -> Prop) -> Prop} {rs rs' : List VR} {i : Nat} {ad : Option Addr} (e1 : pick rs j = some (i, rs')) (e2 : S[i]? = some (.pen ad ns)) (e3 : allD rs' = some ds) (h : p ns ds fun d ns' => Q (.d d) (S.set i (.pen ad ns'))) : BK j p Q rs S := ⟨i, rs', ad, ns, ds, e1, e2, e3, h⟩
def nJ (QN : List D -> List Sl -> Prop) : List VR -> List Sl -> Prop := fun rs S1 => ∃ r ds, rs = [r] /\ (get S1 r = some (.lst ds) \/ get S1 r = some (.tup ds)) /\ flats ds = true /\ QN ds S1
theorem rj (h : vr S (nJ QN)) : nF vr S QN := h
theorem lF (e : get S r = some (.lst ds)) (f : flats ds = true) (h : QN ds S) : nJ QN [r] S := ⟨r, ds, rfl, .inl e, f, h⟩
def rm (QN : List D -> List Sl -> Prop) : List VR -> List Sl -> Prop := fun rs S1 => ∃ r mss, rs = [r] /\ get S1 r = some (eL mss) /\ (∀ ms ∈ mss, ms ≠ []) /\ mss.length < 64 /\ QN ((srt mss).map eT) S1
theorem uG (h : vr S (rm QN)) : qJ vr S QN := h
theorem rn (e : get S r = some (eL mss)) (h1 : ∀ ms ∈ mss, ms ≠ []) (h2 : mss.length < 64) (h : QN ((srt mss).map eT) S) : rm QN [r] S := ⟨r, mss, rfl, e, h1, h2, h⟩
def BM (i : Nat) (Q : VR -> List Sl -> Prop) : VR -> List Sl -> Prop := fun r S1 => ∃ d ds, r = .d d /\ S1[i]? = some (.own ds) /\ ds.length <= 1000000 /\ Q (.d .non) (S1.set i (.own (ds ++ [d])))
theorem BN {i : Nat} (e : S[i]? = some (.own ds)) (h : va S (BM i Q)) : yB i va S Q := ⟨⟨ds, e⟩, h⟩
theorem rp {i : Nat} (e : S[i]? = some (.own ds)) (e2 : ds.length <= 1000000) (h : Q (.d .non) (S.set i (.own (ds ++ [d])))) : BM i Q (.d d) S := ⟨d, ds, rfl, e, e2, h⟩
theorem Dw {i : Nat} {f : List D -> List D} (e : S[i]? = some (.own ds)) (h : Q (.d .non) (S.set i (.own (f ds)))) : vM0 i f S Q := ⟨ds, e, h⟩
def nK (i : Nat) (vi : VT) (W : bM) : VR -> List Sl -> Prop := fun r S1 => (∃ s, S1[i]? = some s /\ s.mut = true) /\ vi S1 fun ri S2 => ∃ j, get S2 ri = some (.int j) /\
  ((∃ ad ns k n, S2[i]? = some (.pen ad ns) /\ ixN ns.length j = some k /\ r = .d (.int n) /\ W.nx (S2.set i (.pen ad (ns.set k n)))) \/
   (∃ ds k d, S2[i]? = some (.own ds) /\ ixN ds.length j = some k /\ r = .d d /\ W.nx (S2.set i (.own (ds.set k d)))))
def nL (i : Nat) (W : bM) (r : VR) : VR -> List Sl -> Prop := fun ri S2 => ∃ j, get S2 ri = some (.int j) /\
  ((∃ ad ns k n, S2[i]? = some (.pen ad ns) /\ ixN ns.length j = some k /\ r = .d (.int n) /\ W.nx (S2.set i (.pen ad (ns.set k n)))) \/
   (∃ ds k d, S2[i]? = some (.own ds) /\ ixN ds.length j = some k /\ r = .d d /\ W.nx (S2.set i (.own (ds.set k d)))))
theorem uH {i : Nat} (h : va S (nK i vb W)) : qP i va vb W S := h
theorem rq {i : Nat} {s : Sl} (e : S[i]? = some s) (m : s.mut = true) (h : vb S (nL i W r)) : nK i vb W r S := ⟨⟨s, e, m⟩, h⟩
theorem pD {i : Nat} {ri : VR} {j n : Int} {ad : Option Addr} {k : Nat} (e1 : get S ri = some (.int j)) (e2 : S[i]? = some (.pen ad ns)) (e3 : ixN ns.length j = some k) (h : W.nx (S.set i (.pen ad (ns.set k n)))) : nL i W (.d (.int n)) ri S := ⟨j, e1, .inl ⟨ad, ns, k, n, e2, e3, rfl, h⟩⟩
def kFor (g : VG) (b : VTS) (W : bM) : List D -> List Sl -> Prop := fun ds S1 => runFor g b W ds S1 \/ ∃ Iv : Nat -> List Sl -> Prop, Iv 0 S1 /\ (∀ i d S2, ds[i]? = some d -> Iv i S2 -> g d S2 fun S3 => b { W with nx := Iv (i + 1), ct := Iv (i + 1), bk := W.nx } S3) /\ ∀ S2, Iv ds.length S2 -> W.nx S2
theorem BO {b : VTS} (h : vn S (kFor g b W)) : Bc vn g b W S := h
theorem nM {b : VTS} {lo : Int} {n : Nat} (Iv : Nat -> List Sl -> Prop) (h0 : Iv 0 S) (h1 : ∀ i S2, i < n -> Iv i S2 -> g (.int (lo + (i : Int))) S2 fun S3 => b ⟨Iv (i + 1), W.rt, W.nx, Iv (i + 1)⟩ S3) (h2 : ∀ S2, Iv n S2 -> W.nx S2) : kFor g b W (rg lo n) S :=
 .inr ⟨Iv, h0, fun i d S2 e p => by
  have hi : i < n := by have := (List.getElem?_eq_some_iff.mp e).1; rwa [mI] at this
  rw [wV hi] at e
  cases e
  exact h1 i S2 hi p, fun S2 p => h2 S2 (by rwa [mI] at p)⟩
def BP (QN : List D -> List Sl -> Prop) : VR -> List Sl -> Prop := fun r S1 => ∃ ds, r = .d (.lst ds) /\ QN ds S1
def BQ (QN : List D -> List Sl -> Prop) : VR -> List Sl -> Prop := fun r S1 => ∃ ds, r = .d (.tup ds) /\ QN ds S1
theorem BR (h : va S (BP QN)) : yE va S QN := h
theorem BS (h : va S (BQ QN)) : yF va S QN := h
theorem zg (h : QN ds S) : BP QN (.d (.lst ds)) S := ⟨ds, rfl, h⟩
theorem zh (h : QN ds S) : BQ QN (.d (.tup ds)) S := ⟨ds, rfl, h⟩
def BU (QN : List D -> List Sl -> Prop) : List VR -> List Sl -> Prop := fun rs S1 => ∃ j : Int, rs = [.d (.int j)] /\ -(2 ^ 62) <= j /\ j < 2 ^ 62 /\ QN (rg 0 j.toNat) S1
theorem BV (h : vr S (BU QN)) : yI vr S QN := h
theorem zi {j : Int} (h1 : 0 <= j /\ j < 1000000) (h : QN (rg 0 j.toNat) S) : BU QN [.d (.int j)] S := ⟨j, rfl, by lia, by lia, h⟩
def nN (n : Nat) (ix : List Nat) (g : VG) (vt : VTT) (ve : VT) (QN : List D -> List Sl -> Prop) : List D -> List Sl -> Prop := fun ds S1 => ds.length <= 1000000 /\ ∃ Iv : Nat -> List D -> List Sl -> Prop, Iv 0 [] S1 /\
 (∀ i d ys S2, ds[i]? = some d -> Iv i ys S2 -> g d (aZ n ix S2) fun S3 => vt S3 fun b S4 => if b = true then ve S4 fun r S5 => ∃ x, r = .d x /\ Iv (i + 1) (ys ++ [x]) (backS n ix S2 S5) else Iv (i + 1) ys (backS n ix S2 S4)) /\
 ∀ ys S2, Iv ds.length ys S2 -> QN ys S2
theorem zj {n : Nat} {ve : VT} (h : vn S (nN n ix g vt ve QN)) : jy vn n ix g vt ve S QN := h
def fh (ve : VT) (A : D -> List Sl -> Prop) (B : List Sl -> Prop) : Bool -> List Sl -> Prop := fun b S4 => if b = true then ve S4 fun r S5 => ∃ x, r = .d x /\ A x S5 else B S4
def mL (A : D -> List Sl -> Prop) : VR -> List Sl -> Prop := fun r S5 => ∃ x, r = .d x /\ A x S5
theorem uI {n : Nat} {ve : VT} (Iv : Nat -> List D -> List Sl -> Prop) (hl : ds.length <= 1000000) (h0 : Iv 0 [] S)
  (h1 : ∀ i d ys S2, ds[i]? = some d -> Iv i ys S2 -> g d (aZ n ix S2) fun S3 => vt S3 (fh ve (fun x S5 => Iv (i + 1) (ys ++ [x]) (backS n ix S2 S5)) (fun S4 => Iv (i + 1) ys (backS n ix S2 S4)))) (h2 : ∀ ys S2, Iv ds.length ys S2 -> QN ys S2) : nN n ix g vt ve QN ds S := ⟨hl, Iv, h0, h1, h2⟩
theorem zk (h : QT true S) : qT S QT := h
theorem iH {ve : VT} {A : D -> List Sl -> Prop} {B : List Sl -> Prop} {b : Bool} (h1 : b = true -> ve S (mL A)) (h2 : b = false -> B S) : fh ve A B b S := by
 cases b with
 | true => show (if true = true then _ else _); rw [if_pos rfl]; exact h1 rfl
 | false => show (if false = true then _ else _); rw [if_neg Bool.false_ne_true]; exact h2 rfl
theorem pE {ve : VT} {A : D -> List Sl -> Prop} {B : List Sl -> Prop} (h : ve S (mL A)) : fh ve A B true S := iH (fun _ => h) fun e => nomatch e
theorem rA {A : D -> List Sl -> Prop} {x : D} (h : A x S) : mL A (.d x) S := ⟨x, rfl, h⟩
theorem BW {i j : Int} (h : q (.bl (decide (i = j)))) : wEq (.int i) (.int j) q := ⟨.int i, .int j, rfl, rfl, rfl, by simpa using h⟩
theorem BX {i j : Int} (h : q (.bl (!decide (i = j)))) : wNe (.int i) (.int j) q := ⟨.int i, .int j, rfl, rfl, rfl, by simpa using h⟩
theorem BY {c : String} {b : Bool} (hn : ∀ n, d ≠ .ty n) (e : o9 (tyD d) c = some b) (h : q (.bl b)) (hE : isE d = false := by with_unfolding_all rfl) : A6 [d, .ty c] q := ⟨d, c, b, rfl, hn, hE, e, h⟩
end
end VL
end
section
namespace VL
open PySem L2
section
variable {K : PySem.W.Frag} {X : Cx} {m : Bool} {e a b c o : Expr} {ta tb tc te : TE} {va vb vc : VT} {pos : Pos}
def BZ : D -> D -> (D -> Prop) -> Prop := fun d1 d2 q => ∃ ns ms, d1 = eT ns /\ d2 = eT ms /\ q (.bl (HT.lexLt ns ms))
theorem B0 (hK : X.K = K) (hu : X.A.units + 64 < cLine) : OpR X (compareOp .Lt) (yg K) := by subst hK; exact yh (by lia)
theorem B1 : bX K (yg K) BZ := by
 rintro x y H d1 d2 q C r1 r2 ⟨ns, ms, rfl, rfl, h⟩ hc
 obtain ⟨p, vs, rfl, h1, rr⟩ := Rep.sqT r1
 obtain ⟨p', vs', rfl, h2, rr'⟩ := Rep.sqT r2
 cases Reps.toInts rr
 cases Reps.toInts rr'
 exact ⟨p, p', ns, ms, rfl, rfl, h1, h2, hc _ _ h fun _ _ => .bl _⟩
theorem B2 {ns ms : List Int} (h : q (.bl (HT.lexLt ns ms))) : BZ (eT ns) (eT ms) q := ⟨ns, ms, rfl, rfl, h⟩
def ke (w w' : D -> D -> (D -> Prop) -> Prop) (va vb vc : VT) : VT := fun S Q => va S fun ra S1 => vb S1 fun rb S2 => ∃ d1 d2, get S2 ra = some d1 /\ get S2 rb = some d2 /\ w d1 d2 fun d => ∃ k, d = .bl k /\
 if k = true then vc S2 fun rc S3 => ∃ d2' d3, get S3 rb = some d2' /\ get S3 rc = some d3 /\ w' d2' d3 fun d => Q (.d d) S3 else Q (.d (.bl false)) S2
theorem rB {r r' : R2} {w w' : D -> D -> (D -> Prop) -> Prop} (L : bX K r w) (L' : bX K r' w') (ha : SndE K false ta va) (hb : SndE K false tb vb) (hc : SndE K false tc vc) : SndE K m (mn r r' ta tb tc) (ke w w' va vb vc) := by
 intro H0 Z σ H S Q C k t hq
 refine ha H0 Z σ H S _ _ k t fun x H1 ra S1 k1 st1 r1 t1 => ?_
 refine hb H0 Z σ H1 S1 _ _ k1 t1 fun y H2 rb S2 k2 st2 r2 zr1 => ?_
 obtain ⟨d1, d2, e1, e2, t2⟩ := zr1
 refine L x y H2 d1 d2 _ _ ((r1.step st2).get k2 e1) (r2.get k2 e2) t2 fun z dz zr1 rz => ?_
 obtain ⟨b, eb, q⟩ := zr1
 subst eb
 cases rz Any AnyF
 refine ⟨b, rfl, ?_⟩
 cases b with
 | false => rw [if_neg Bool.false_ne_true] at q ⊢; exact hq _ H2 (.d (.bl false)) S2 k2 (st1.trans st2) (Rep.bl false) q
 | true =>
  rw [if_pos rfl] at q ⊢
  refine hc H0 Z σ H2 S2 _ _ k2 q fun u H3 rc S3 k3 st3 r3 zr1 => ?_
  obtain ⟨d2', d3, g1, g2, t3⟩ := zr1
  exact L' y u H3 d2' d3 _ _ ((r2.step st3).get k3 g1) (r3.get k3 g2) t3 fun z dz q rz => hq z H3 (.d dz) S3 k3 ((st1.trans st2).trans st3) (rz _ _) q
theorem rC {op op' : CmpOp} {r r' : R2} {w w' : D -> D -> (D -> Prop) -> Prop} (ho : OpR X (compareOp op) r) (L : bX K r w) (ho' : OpR X (compareOp op') r') (L' : bX K r' w') (ha : VE K X false a ta va) (hb : VE K X false b tb vb) (hc : VE K X false c tc vc)
  (hm : lastMarks [op, op'] [b, c] = false := by with_unfolding_all rfl) : VTe K X (.Compare a [op, op'] [b, c] pos) (kO (mn r r' ta tb tc)) (ip (ke w w' va vb vc)) := ⟨qh ho ho' ha.pe hb.pe hc.pe hm, nE (m := false) (rB L L' ha.snd hb.snd hc.snd)⟩
end
section
variable {S : List Sl} {Q : VR -> List Sl -> Prop} {QT : Bool -> List Sl -> Prop} {W : bM} {va vb : VT} {vt vu : VTT} {t u : VTS} {b : Bool}
theorem B3 {neg : Bool} {d1 d2 : D} (a1 : noTy d1 = true) (a2 : (pd d1).canLay0 = true) (a3 : Nat.ble (pd d1).depth 40 = true) (b1 : noTy d2 = true) (b2 : (pd d2).canLay0 = true) (b3 : Nat.ble (pd d2).depth 40 = true)
  (h : q (.bl (if neg then !PyData.eqv (pd d1) (pd d2) else PyData.eqv (pd d1) (pd d2)))) : fY neg d1 d2 q := ⟨⟨a1, a2, Nat.le_of_ble_eq_true a3⟩, ⟨b1, b2, Nat.le_of_ble_eq_true b3⟩, h⟩
theorem B4 (e : b = false) (h : vu S QT) : kOr vu QT b S := by subst e; exact qZ h
theorem B5 (e : b = true) (h : t W S) : kIf t u W b S := by subst e; exact qV h
theorem B6 (e : b = false) (h : u W S) : kIf t u W b S := by subst e; exact qW h
theorem Dy (e : b = true) (h : va S Q) : uE va vb Q b S := by subst e; exact rf (fun _ => h) fun e => nomatch e
theorem Dz (e : b = false) (h : vb S Q) : uE va vb Q b S := by subst e; exact rf (fun e => nomatch e) fun _ => h
theorem w9 {c : Bool} (e : c = true) (h : vb S Q) : lE vb Q (.d (.bl c)) S := by subst e; exact nI (fun _ => h) fun e => nomatch e
theorem xf {c : Bool} (e : c = false) (h : Q (.d (.bl false)) S) : lE vb Q (.d (.bl c)) S := by subst e; exact nI (fun e => nomatch e) fun _ => h
end
section
variable {α : Type} {S : List Sl} {QN : List D -> List Sl -> Prop} {g : VG} {vt : VTT} {ve : VT} {n : Nat} {ix : List Nat}
theorem bP {β : Type} {xs : List α} {en : α -> β} {i : Nat} {d : β} (h : (xs.map en)[i]? = some d) : ∃ x, xs[i]? = some x /\ d = en x /\ x ∈ xs /\ xs.take (i + 1) = xs.take i ++ [x] := by
 rw [List.getElem?_map] at h
 obtain ⟨x, h1, h2⟩ := Option.map_eq_some_iff.mp h
 refine ⟨x, h1, h2.symm, List.mem_of_getElem? h1, ?_⟩
 rw [List.take_add_one, h1]
 rfl
theorem lG {xs : List α} {en f : α -> D} {p : α -> Bool} (hl : xs.length <= 1000000)
  (h : ∀ x ∈ xs, ∀ (A : D -> List Sl -> Prop) (B : List Sl -> Prop), (∀ S5, backS n ix S S5 = S -> p x = true -> A (f x) S5) -> (∀ S5, backS n ix S S5 = S -> p x = false -> B S5) -> g (en x) (aZ n ix S) fun S3 => vt S3 (fh ve A B))
  (h2 : QN ((xs.filter p).map f) S) : nN n ix g vt ve QN (xs.map en) S := by
 refine uI (fun i ys S' => S' = S /\ ys = ((xs.take i).filter p).map f) (by simpa using hl) ⟨rfl, by simp⟩ ?_ ?_
 ·rintro i d ys S2 e ⟨rfl, rfl⟩
  obtain ⟨x, h1, rfl, hm, ht⟩ := bP e
  refine h x hm _ _ (fun S5 e5 hp => ⟨e5, ?_⟩) (fun S5 e5 hp => ⟨e5, ?_⟩)
  ·rw [ht, List.filter_append, List.map_append]
   simp [hp]
  ·rw [ht, List.filter_append, List.map_append]
   simp [hp]
 ·rintro ys S2 ⟨rfl, rfl⟩
  rw [List.length_map, List.take_length]
  exact h2
theorem comp_map {xs : List α} {en f : α -> D} (hl : xs.length <= 1000000)
  (h : ∀ x ∈ xs, ∀ (A : D -> List Sl -> Prop) (B : List Sl -> Prop), (∀ S5, backS n ix S S5 = S -> A (f x) S5) -> g (en x) (aZ n ix S) fun S3 => vt S3 (fh ve A B))
  (h2 : QN (xs.map f) S) : nN n ix g vt ve QN (xs.map en) S := by
 refine lG (p := fun _ => true) hl (fun x hx A B hA _ => h x hx A B fun S5 e => hA S5 e rfl) ?_
 rwa [List.filter_eq_self.mpr (by intros; rfl)]
end
theorem nO {n : Nat} {r : Int} (h0 : 0 <= r) (h1 : r < n) : ixN n r = some r.toNat := by
 unfold ixN
 rw [if_pos h0, if_pos h1]
section
variable {α : Type} [DecidableEq α] {n : Nat} {f : α -> D} {x y : α} {l : List α} {q : D -> Prop}
theorem rD (e : Enc n f) (hx : x ∉ l) (h : q (.bl true)) (hn : n + 1 <= 40 := by decide) : mJ true (f x) (.lst (l.map f)) q := lD e (by rw [decide_eq_false hx]; exact h) hn
theorem rE (e : Enc n f) (hx : x ∈ l) (h : q (.bl false)) (hn : n + 1 <= 40 := by decide) : mJ true (f x) (.lst (l.map f)) q := lD e (by rw [decide_eq_true hx]; exact h) hn
theorem rF (e : Enc n f) (hx : x = y) (h : q (.bl true)) (hn : n <= 40 := by decide) : fY false (f x) (f y) q := wW e (by rw [decide_eq_true hx]; exact h) hn
theorem B7 (e : Enc n f) (hx : x ≠ y) (h : q (.bl false)) (hn : n <= 40 := by decide) : fY false (f x) (f y) q := wW e (by rw [decide_eq_false hx]; exact h) hn
theorem nQ (e : Enc n f) (hx : x = y) (h : q (.bl false)) (hn : n <= 40 := by decide) : fY true (f x) (f y) q := Bg e (by rw [decide_eq_true hx]; exact h) hn
end
end VL
end
section
namespace VL
open PySem L2 PySem.SeqAt PySem.Spec PyProof.Rows
section
variable {X : Cx} {pins : List (Addr × Obj)} {σ : L2.St} {H : Hp} {s : Shared} {K : PySem.W.Frag}
def B8 (K : PySem.W.Frag) (g : List Bool -> Bool) : List V -> Hp -> VK -> Prop := fun xs H Q => ∃ (l : Addr) (bs : List Bool), xs = [.ref l] /\ SqL K H l (bs.map V.bl) /\ Q (.bl (g bs)) H
theorem lH : ∀ {bs : List Bool} {us : List Value}, Vals (bs.map V.bl) us -> PyProof.Rows.LSm.BoolsAre us bs
 | [], _, .nil => .nil
 | _ :: r, _, .cons h t => by cases h; exact .cons _ (lH (bs := r) t)
theorem lI (hK : X.K = K) (hc : X.calm = true) : bW X (.builtin "all") (B8 K (·.all id)) := by
 rintro pins s σ H xs us Q I r ⟨l, bs, e, hq, q⟩
 subst e hK
 obtain ⟨u, rfl, rx⟩ := Vals.one r
 cases rx
 obtain ⟨vs, rv, pl, _⟩ := I.list hq
 obtain ⟨m, F⟩ := I.fr
 exact PyProof.Rows.LSm.all_bools F d7 (I.ok.hd hc) pl.isList (lH rv) fun h' tk F' N' => ⟨.bl _, H, I.led (t' := tk) F.ns F' N', rfl, q⟩
def rG (K : PySem.W.Frag) (le : Int -> Int -> Prop) : List V -> Hp -> VK -> Prop := fun xs H Q => ∃ (l : Addr) (ns : List Int), xs = [.ref l] /\ SqL K H l (ns.map V.int) /\ ns ≠ [] /\ ∀ M, M ∈ ns -> (∀ a ∈ ns, le M a) -> Q (.int M) H
theorem kh (hK : X.K = K) (hc : X.calm = true) : bW X (.builtin "min") (rG K (· <= ·)) := by
 rintro pins s σ H xs us Q I r ⟨l, ns, e, hq, hne, q⟩
 subst e hK
 obtain ⟨u, rfl, rx⟩ := Vals.one r
 cases rx
 obtain ⟨vs, rv, pl, _⟩ := I.list hq
 obtain ⟨m, F⟩ := I.fr
 exact PySem.W.kso_min F d7 pl.isList (by simpa using intsAre_of rv) (List.length_pos_iff.mpr hne) (I.ok.hd hc) fun h' M t tk F' N' h1 h2 => ⟨.int M, H, I.led (t' := tk) F.ns F' N', ⟨_, rfl⟩, q M h1 h2⟩
theorem ki (hK : X.K = K) (hc : X.calm = true) : bW X (.builtin "max") (rG K fun M a => a <= M) := by
 rintro pins s σ H xs us Q I r ⟨l, ns, e, hq, hne, q⟩
 subst e hK
 obtain ⟨u, rfl, rx⟩ := Vals.one r
 cases rx
 obtain ⟨vs, rv, pl, _⟩ := I.list hq
 obtain ⟨m, F⟩ := I.fr
 exact PySem.W.kso_max F d7 pl.isList (by simpa using intsAre_of rv) (List.length_pos_iff.mpr hne) (I.ok.hd hc) fun h' M t tk F' N' h1 h2 => ⟨.int M, H, I.led (t' := tk) F.ns F' N', ⟨_, rfl⟩, q M h1 h2⟩
theorem lJ {N : AP} {H : Hp} : ∀ {vs : List V} {bs : List Bool}, Reps K N F H vs (bs.map D.bl) -> vs = bs.map V.bl
 | _, [], .nil => rfl
 | _, b :: bs, .cons h t => by cases h; rw [lJ t]; rfl
def B9 (g : List Bool -> Bool) : List D -> (D -> Prop) -> Prop := fun ds q => ∃ bs : List Bool, ds = [.lst (bs.map .bl)] /\ q (.bl (g bs))
theorem lK {g : List Bool -> Bool} : dv K (B8 K g) (B9 g) := by
 rintro xs H ds q C r ⟨bs, rfl, h⟩ hc
 obtain ⟨v, rfl, rv⟩ := rep1 r
 obtain ⟨a, vs, rfl, hq, rr⟩ := rv.sqL
 cases lJ rr
 exact ⟨a, bs, rfl, hq, hc _ _ h fun _ _ => .bl _⟩
def xg (le : Int -> Int -> Prop) : List D -> (D -> Prop) -> Prop := fun ds q => ∃ ns : List Int, ds = [.lst (ns.map .int)] /\ ns ≠ [] /\ ∀ M, M ∈ ns -> (∀ a ∈ ns, le M a) -> q (.int M)
theorem eD {le : Int -> Int -> Prop} : dv K (rG K le) (xg le) := by
 rintro xs H ds q C r ⟨ns, rfl, hne, h⟩ hc
 obtain ⟨v, rfl, rv⟩ := rep1 r
 obtain ⟨a, vs, rfl, hq, rr⟩ := rv.sqL
 cases Reps.toInts rr
 exact ⟨a, ns, rfl, hq, hne, fun M h1 h2 => hc _ _ (h M h1 h2) fun _ _ => .int _⟩
end
section
variable {K : PySem.W.Frag} {X : Cx} {m : Bool} {e a b : Expr} {ta tb te : TE} {va vb : VT} {tr : TA} {vr : VTA} {pos p : Pos}
def Ca (va : VT) : VTT := fun S Q => va S fun r S1 => ∃ d b, get S1 r = some d /\ tru d = some b /\ Q b S1
theorem zm (hK : X.K = K) (h : VE K X false e te va) (he : ∀ whole, isTrue e X.env whole = (do let v <- whole; standAt e.pos; holding [v] (truthy v)) := by intro _; rfl) : VTe K X e (fun σ H Q => te σ H fun x H' => ∃ k, TruV K x H' k /\ Q k H') (Ca va) :=
 ⟨by subst hK; exact qj h.pe he, fun H0 Z σ H S Q C k t hc => h.snd H0 Z σ H S _ _ k t fun v H1 r S1 k1 st1 rr zq1 => by
  obtain ⟨d, b, e1, e2, q⟩ := zq1
  refine ⟨b, ?_, hc b H1 S1 k1 st1 q⟩
  have r1 := rr.get k1 e1
  cases d with
  | int i => cases r1; cases e2; rfl
  | bl i => cases r1; cases e2; rfl
  | non => cases r1; cases e2; rfl
  | str i => cases e2
  | ty i => cases e2
  | dic ks i => cases e2
  | exc i => cases e2
  | tup ds => obtain ⟨a, vs, rfl, hq, rr'⟩ := r1.sqT; cases e2; exact .inr (.inl ⟨vs, hq, by cases rr' <;> rfl⟩)
  | lst ds => obtain ⟨a, vs, rfl, hq, rr'⟩ := r1.sqL; cases e2; exact .inl ⟨vs, hq, by cases rr' <;> rfl⟩⟩
def zo (i j : Nat) (vr : VTA) : VTS := fun W S => vr S fun rs S1 => ∃ d1 d2, rs = [.d d1, .d d2] /\ i < S1.length /\ j < S1.length /\ W.nx ((S1.set i (.val d1)).set j (.val d2))
theorem zp {i j : Nat} {stm : Stmt} (hp : PS X stm (p9 i j tr)) (ha : yq K false tr vr) : VS K X stm (p9 i j tr) (zo i j vr) := ⟨hp, fun H0 Z σ H S W E k t l => ha H0 Z σ H S _ _ k t fun vs H1 rs S1 k1 st1 rrs zq1 => by
 obtain ⟨d1, d2, e, hi, hj, q⟩ := zq1
 subst e
 cases rrs with
 | cons r1 t1 =>
  cases t1 with
  | cons r2 t2 =>
   cases t2
   have r1 : Rep K (NM Z σ S1) AnyF H1 _ d1 := Rep.mono (fun _ n _ => ⟨n, rfl⟩) (fun _ _ => trivial) r1
   have r2 : Rep K (NM Z σ S1) AnyF H1 _ d2 := Rep.mono (fun _ n _ => ⟨n, rfl⟩) (fun _ _ => trivial) r2
   obtain ⟨k2, st2⟩ := k1.setVal hi r1
   obtain ⟨k3, st3⟩ := k2.setVal (i := j) (by simpa using hj) (r2.step st2)
   exact ⟨_, _, rfl, l.nx _ _ _ k3 ((st1.trans st2).trans st3) q⟩⟩
abbrev VO := List Sl -> (Option Int -> List Sl -> Prop) -> Prop
def DA (K : PySem.W.Frag) (te : TO) (t : VO) : Prop := ∀ H0 Z σ H S Q C, OK K H0 Z σ H S -> t S Q -> (∀ o H' S', OK K H0 Z σ H' S' -> Step Z σ S H σ S' H' -> Q o S' -> C o H') -> te σ H C
structure VOe (K : PySem.W.Frag) (X : Cx) (e : Option Expr) (te : TO) (t : VO) : Prop where
 pe : PO X e te
 snd : DA K te t
def Cb : VO := fun S Q => Q none S
def rH (va : VT) : VO := fun S Q => va S fun r S1 => ∃ i, r = .d (.int i) /\ Q (some i) S1
theorem uJ : VOe K X none nh Cb := ⟨ua, fun _ _ _ _ _ _ _ k h q => q _ _ _ k .refl h⟩
theorem uK (h : VE K X false e te va) : VOe K X (some e) (wJ te) (rH va) := ⟨ub h.pe, fun H0 Z σ H S Q C k t hc => h.snd H0 Z σ H S _ _ k t fun v H1 r S1 k1 st1 rr zq1 => by
 obtain ⟨i, e, q⟩ := zq1
 subst e
 cases (show Rep K _ _ H1 v (.int i) from rr)
 exact ⟨i, rfl, hc _ H1 S1 k1 st1 q⟩⟩
def cutD (ds : List D) (lo hi : Option Int) : List D := (ds.drop (HT.sIx ds.length 0 lo)).take (HT.sIx ds.length ds.length hi - HT.sIx ds.length 0 lo)
theorem rJ {N : AP} (r : Reps K N F H vs ds) (lo hi : Option Int) : Reps K N F H (oX vs lo hi) (cutD ds lo hi) := by
 unfold oX cutD
 rw [r.length]
 exact (r.drop _).take _
def vSl (va : VT) (vl vh : VO) : VTN := fun S Q => va S fun r S1 => vl S1 fun lo S2 => vh S2 fun hi S3 => ∃ ds, get S3 r = some (.lst ds) /\ flats ds = true /\ Q (cutD ds lo hi) S3
theorem iI : ∀ {ds : List D} (n : Nat), flats ds = true -> flats (ds.drop n) = true
 | _, 0, h => by simpa using h
 | [], _ + 1, h => by simpa using h
 | d :: r, n + 1, h => by simp only [flats, Bool.and_eq_true] at h; simpa using iI n h.2
theorem iJ : ∀ {ds : List D} (n : Nat), flats ds = true -> flats (ds.take n) = true
 | _, 0, h => by simp [flats]
 | [], _ + 1, h => by simpa using h
 | d :: r, n + 1, h => by simp only [flats, Bool.and_eq_true] at h; simp [flats, h.1, iJ n h.2]
theorem Cd {lo hi : Option Expr} {tl th : TO} {vl vh : VO} {p2 : Pos} (hK : X.K = K) (h : VE K X false e te va) (hl : VOe K X lo tl vl) (hh : VOe K X hi th vh) : VN K X (.Subscript e (.Slice lo hi none p2) pos) (tSl (AW K) te tl th) (vSl va vl vh) :=
 ⟨by subst hK; exact qq ud h.pe hl.pe hh.pe, fun H0 Z σ H S Q C k t hc => h.snd H0 Z σ H S _ _ k t fun v H1 r S1 k1 st1 rr t1 => hl.snd H0 Z σ H1 S1 _ _ k1 t1 fun lo H2 S2 k2 st2 t2 => hh.snd H0 Z σ H2 S2 _ _ k2 t2 fun hi H3 S3 k3 st3 zq1 => by
  obtain ⟨ds, e, f, q⟩ := zq1
  obtain ⟨a, vs, rfl, hq, rs⟩ := ((rr.step st2).step st3).elems k3 e
  exact ⟨a, vs, rfl, hq, fun p hp => hc p _ _ H3 _ S3 k3 ((st1.trans st2).trans st3) hp (ba hp) aD (fX hp (rJ rs lo hi) (by unfold cutD; exact iJ _ (iI _ f))) q⟩⟩
end
end VL
end
section
namespace VL
open PySem L2
section
variable {K : PySem.W.Frag} {X : Cx} {m : Bool} {e a b : Expr} {ta tb te : TE} {va vb : VT} {tr : TA} {vr : VTA} {pos p : Pos}
def Ce (p : List Int -> List D -> (D -> List Int -> Prop) -> Prop) (t : VTN) : VT := fun S Q => t S fun ds S1 => ∃ ns : List Int, ds = ns.map D.int /\ p ns [] fun d _ => Q (.d d) S1
theorem rK {x : Str} {p0 : Pos} {j k : Nat} {ps : List Str} {t : VTN} {p : List Int -> List D -> (D -> List Int -> Prop) -> Prop} (E : Has X.prog X.w X.K X.mg X.base k x ps (spI K 0 p)) (hr : cj j X.A) (h : VN K X e te t)
  (hk : k <= j := by decide) (hg : Gl X x := by rfl) (hdb : (x == ("__debug__" : Str)) = false := by decide) (he : starEach (e :: []) X.env = (false, eval e X.env) :: starEach [] X.env := by rfl)
  (hpl : (backTo pos (starEach [] X.env)).any (·.1) = false := by rfl) : VE K X m (.Call (.Name x p0) (e :: []) [] pos) (jh (spI K 0 p) [] E0 (cQ te fU)) (Ce p t) := ⟨nr E hr (bR h.pe dq he) hk hg hdb he hpl, fun H0 Z σ H S Q C k t hc =>
 h.snd H0 Z σ H S _ _ k t fun a vs ds H1 H' S1 k1 st1 ha hg hl rr zq1 => by
  obtain ⟨ns, e1, q⟩ := zq1
  subst e1
  cases Reps.toInts rr
  refine ⟨a, [], [], ns, [], [], _, rfl, rfl, hl, .nil, .nil, q, fun d ns' v H2 q g ga rv => ?_⟩
  have hG : ∀ b, H1 b ≠ none -> H2 b = H1 b := fun b hb => by
   have hba : b ≠ a := fun z => hb (by rw [z]; exact ha)
   have e := hg b hb
   rw [g b hba (by rw [e]; exact hb), e]
  have hN : ∀ b, H' b = none -> H1 b = none := fun b hb => Classical.byContradiction fun z => by rw [hg b z] at hb; exact z hb
  have k3 := k1.grow hG
  refine hc v H2 (.d d) S1 k3 (st1.trans (.grow hG)) (show Rep K _ _ H2 v d from ?_) q
  exact (Rep.avoid (N' := NM Z σ S1) (fun b z => k3.mo (Classical.not_not.mp z)) (fun b zq1 => by obtain ⟨c, ec, f⟩ := zq1; cases ec; exact k1.nm (hN _ f)) rv).mono (fun _ n _ => ⟨n, rfl⟩) (fun o zt1 _ => by obtain ⟨c, ec, f⟩ := zt1; exact ⟨c, ec, k1.dom c (hN _ f)⟩)⟩
end
theorem uL {X : Cx} {i j : Nat} {stm : Stmt} {a b : Expr} {tr : TA} {vr : VTA} (hp : ∀ tr, PA X [a, b] tr -> PS X stm (p9 i j tr)) (ha : VA K X false [a, b] tr vr) : VS K X stm (p9 i j tr) (zo i j vr) := zp (hp _ ha.pe) ha.snd
section
variable {S : List Sl} {Q : VR -> List Sl -> Prop} {QT : Bool -> List Sl -> Prop} {QN : List D -> List Sl -> Prop} {W : bM} {va vb : VT} {vr : VTA} {vn : VTN} {vl vh : VO}
@[irreducible] def uM (p : List Int -> List D -> (D -> List Int -> Prop) -> Prop) (Q : VR -> List Sl -> Prop) : List D -> List Sl -> Prop := fun ds S1 => ∃ ns : List Int, ds = ns.map D.int /\ p ns [] fun d _ => Q (.d d) S1
theorem Cf {p : List Int -> List D -> (D -> List Int -> Prop) -> Prop} (h : vn S (uM p Q)) : Ce p vn S Q := by unfold uM at h; exact h
theorem rL {p : List Int -> List D -> (D -> List Int -> Prop) -> Prop} (e : ds = ns.map D.int) (h : p ns [] fun d _ => Q (.d d) S) : uM p Q ds S := by unfold uM; exact ⟨ns, e, h⟩
@[irreducible] def uN (QT : Bool -> List Sl -> Prop) : VR -> List Sl -> Prop := fun r S1 => ∃ d b, get S1 r = some d /\ tru d = some b /\ QT b S1
theorem Cg (h : va S (uN QT)) : Ca va S QT := by unfold uN at h; exact h
theorem rM {b : Bool} (e : get S r = some d) (e2 : tru d = some b) (h : QT b S) : uN QT r S := by unfold uN; exact ⟨d, b, e, e2, h⟩
@[irreducible] def uO (i j : Nat) (W : bM) : List VR -> List Sl -> Prop := fun rs S1 => ∃ d1 d2, rs = [.d d1, .d d2] /\ i < S1.length /\ j < S1.length /\ W.nx ((S1.set i (.val d1)).set j (.val d2))
theorem Ci {i j : Nat} (h : vr S (uO i j W)) : zo i j vr W S := by unfold uO at h; exact h
theorem zr {i j : Nat} {d1 d2 : D} (h1 : i < S.length) (h2 : j < S.length) (h : W.nx ((S.set i (.val d1)).set j (.val d2))) : uO i j W [.d d1, .d d2] S := by unfold uO; exact ⟨d1, d2, rfl, h1, h2, h⟩
@[irreducible] def uP (vl vh : VO) (QN : List D -> List Sl -> Prop) : VR -> List Sl -> Prop := fun r S1 => vl S1 fun lo S2 => vh S2 fun hi S3 => ∃ ds, get S3 r = some (.lst ds) /\ flats ds = true /\ QN (cutD ds lo hi) S3
@[irreducible] def uQ (r : VR) (vh : VO) (QN : List D -> List Sl -> Prop) : Option Int -> List Sl -> Prop := fun lo S2 => vh S2 fun hi S3 => ∃ ds, get S3 r = some (.lst ds) /\ flats ds = true /\ QN (cutD ds lo hi) S3
@[irreducible] def rN (r : VR) (lo : Option Int) (QN : List D -> List Sl -> Prop) : Option Int -> List Sl -> Prop := fun hi S3 => ∃ ds, get S3 r = some (.lst ds) /\ flats ds = true /\ QN (cutD ds lo hi) S3
theorem DB (h : va S (uP vl vh QN)) : vSl va vl vh S QN := by unfold uP at h; exact h
theorem zt (h : vl S (uQ r vh QN)) : uP vl vh QN r S := by unfold uP; unfold uQ at h; exact h
theorem zu {lo : Option Int} (h : vh S (rN r lo QN)) : uQ r vh QN lo S := by unfold uQ; unfold rN at h; exact h
theorem zv {lo hi : Option Int} (e : get S r = some (.lst ds)) (f : flats ds = true) (h : QN (cutD ds lo hi) S) : rN r lo QN hi S := by unfold rN; exact ⟨ds, e, f, h⟩
theorem uR {lo hi : Option Int} {ds es : List D} (e : get S r = some (.lst ds)) (f : flats ds = true) (e2 : cutD ds lo hi = es) (h : QN es S) : rN r lo QN hi S := zv e f (by rw [e2]; exact h)
variable {QO : Option Int -> List Sl -> Prop}
theorem zw (h : QO none S) : Cb S QO := h
@[irreducible] def kVo (QO : Option Int -> List Sl -> Prop) : VR -> List Sl -> Prop := fun r S1 => ∃ i, r = .d (.int i) /\ QO (some i) S1
theorem rO (h : va S (kVo QO)) : rH va S QO := by unfold kVo at h; exact h
theorem Cj {i : Int} (h : QO (some i) S) : kVo QO (.d (.int i)) S := by unfold kVo; exact ⟨i, rfl, h⟩
theorem eE {le : Int -> Int -> Prop} (hne : ns ≠ []) (h : ∀ M, M ∈ ns -> (∀ a ∈ ns, le M a) -> q (.int M)) : xg le [.lst (ns.map .int)] q := ⟨ns, rfl, hne, h⟩
end
def mnI : List Int -> Int
 | [] => 0
 | [a] => a
 | a :: r => min a (mnI r)
theorem eF : ∀ {ns : List Int} {a : Int}, a ∈ ns -> mnI ns <= a
 | [b], a, h => by simp at h; subst h; exact Int.le_refl _
 | b :: c :: r, a, h => by
  rw [mnI]
  ·rcases List.mem_cons.mp h with rfl | h
   ·exact Int.min_le_left ..
   ·exact Int.le_trans (Int.min_le_right ..) (eF h)
  ·simp
theorem bJ : ∀ {ns : List Int}, ns ≠ [] -> mnI ns ∈ ns
 | [b], _ => by simp [mnI]
 | b :: c :: r, _ => by
  rw [show mnI (b :: c :: r) = min b (mnI (c :: r)) from rfl]
  have := bJ (ns := c :: r) (by simp)
  rcases Int.le_total b (mnI (c :: r)) with h | h
  ·rw [Int.min_eq_left h]; simp
  ·rw [Int.min_eq_right h]; exact List.mem_cons_of_mem _ this
theorem eG {M : Int} (h : M ∈ ns) (h2 : ∀ a ∈ ns, M <= a) : M = mnI ns :=
 Int.le_antisymm (h2 _ (bJ (List.ne_nil_of_mem h))) (eF h)
end VL
end
section
namespace L2
open PySem PySem.Spec PyProof.Rows
theorem Inv.made_list {X : Cx} {s : Shared} {m : Str -> Option Value} {h' : Heap} {D : Addr} {vs' : List Value} {c : Nat} {ws : List V} (hex : X.ex = []) (I : Inv X pins σ H s) (Fn : s.heap.Ns X.env.locals m) (F' : Fr X.base X.env.locals h' m)
  (N' : News X.base X.env.locals h' ((D, PySem.W.listOf vs'.toArray c) :: bQ X.base s.heap X.env.locals)) (hlt : ∀ q ∈ bQ X.base s.heap X.env.locals, q.1 < D) (r : Vals ws vs') (hz : ws.length <= sizeLine) :
  H D = none /\ Inv X pins σ (upd H D (.lst ws)) { s with heap := h' } := by
 have N1 : News X.base X.env.locals h' (bQ X.base s.heap X.env.locals) := fun p hp => N' p (List.mem_cons_of_mem _ hp)
 have I1 : Inv X pins σ H { s with heap := h' } := I.led (t' := s.toks) Fn F' N1
 have ND := N' (D, _) List.mem_cons_self
 have young : ∀ b o, s.heap.get? b = some o -> b ≠ D := fun b o e z => by
  by_cases hb : b = X.env.locals
  ·exact ND.2.1 (z ▸ hb)
  ·cases q : X.base.get? b with
   | some u => rw [z, ND.2.2] at q; cases q
   | none => exact absurd (hlt (b, o) (dZ hb q e)) (by rw [z]; exact Nat.lt_irrefl _)
 have hDn : H D = none := by
  cases z : H D with
  | none => rfl
  | some u =>
   obtain ⟨ob, eo⟩ := bp.there (I.hok D u z)
   exact absurd rfl (young D ob eo)
 have s0D : X.s₀.heap.get? D = none := by
  cases z : X.s₀.heap.get? D with
  | none => rfl
  | some ob =>
   obtain ⟨o', e'⟩ := I.base.there D ob z (by rw [hex]; simp)
   exact absurd rfl (young D o' e')
 refine ⟨hDn, I1.trackN hDn s0D ND.2.1 (fun x c e z => ?_) (fun p hp z => ?_) ⟨hz, vs', c, r, ND.1⟩⟩
 ·obtain ⟨v, o, ho, _⟩ := I.cell x c e
  exact young c o ho z
 ·exact young p.1 p.2 (I.pin p hp).1 z
end L2
end
section
namespace L2
open PySem PySem.Spec PyProof.Rows
theorem iK {P : Program} {w : World} : ∀ {ms : List Int} {us : List Value}, Vals (ms.map V.int) us -> ItemsAre (intKind P w) ms us
 | [], _, r => by rw [List.map_nil] at r; cases r; exact .nil
 | m :: ms, _, r => by
  rw [List.map_cons] at r
  cases r with
  | cons h t => obtain ⟨tk, rfl⟩ := h; exact .cons (intKind_is _ _ _ _) (iK t)
section
variable {X : Cx} {pins : List (Addr × Obj)} {σ : St} {H : Hp} {s : Shared}
theorem kj {b : Addr} (I : Inv X pins σ H s) (h : SqT X.K H b (ms.map V.int)) : (tupleKind (intKind X.prog X.w)).is s.heap ms b := by
 obtain ⟨its, r, ⟨o, h1, h2, n, h3⟩, _⟩ := I.tuple h
 exact ⟨o, its.toArray, n, h1, h2, h3, by simpa using iK r⟩
def fi (K : PySem.W.Frag) (H : Hp) (es : List (List Int × Addr × V)) : Prop := ∀ x ∈ es, SqT K H x.2.1 (x.1.map V.int)
theorem EV.keys {xs : List (List Int × Addr × Value)} (r : EV es xs) : es.map (·.1) = xs.map (·.1) := by
 induction r with
 | nil => rfl
 | cons h t ih => rw [List.map_cons, List.map_cons, ih, h.1]
theorem EV.mem {xs : List (List Int × Addr × Value)} (r : EV es xs) : ∀ x ∈ xs, ∃ e ∈ es, e.1 = x.1 /\ e.2.1 = x.2.1 := by
 induction r with
 | nil => intro x h; exact nomatch h
 | @cons p q ps qs h t ih =>
  intro x hx
  rcases List.mem_cons.mp hx with rfl | hx
  ·exact ⟨p, List.mem_cons_self, h.1, h.2.1⟩
  ·obtain ⟨e, h1, h2⟩ := ih x hx
   exact ⟨e, List.mem_cons_of_mem _ h1, h2⟩
theorem uS {a : Addr} {ob : Obj} (I : Inv X pins σ H s) (e : H a = some (gG a ob es)) (k : fi X.K H es) : es.length <= sizeLine /\ (a == sysModules) = false /\ (es.map (·.1)).Nodup /\
  ∃ xs, EV es xs /\ s.heap.DictOfH (tupleKind (intKind X.prog X.w)) a xs := by
 obtain ⟨z, m, nd, xs, ev, o, ds, ep, h1, h2, h3, h4⟩ := nu I e
 refine ⟨z, m, nd, xs, ev, o, ds, ep, h1, h2, h3, h4, fun x hx => ?_, by rw [<- ev.keys]; exact nd⟩
 obtain ⟨e, he, e1, e2⟩ := ev.mem x hx
 rw [<- e1, <- e2]
 exact kj I (k e he)
def atE (es : List (List Int × Addr × V)) (k : List Int) : Option V := (es.find? fun x => decide (x.1 = k)).map (·.2.2)
theorem EV.at_ {xs : List (List Int × Addr × Value)} (r : EV es xs) (k : List Int) : RelO (atE es k) ((atKey xs k).map (·.2)) := by
 induction r with
 | nil => exact True.intro
 | @cons p q ps qs h t ih =>
  obtain ⟨h1, _, h2⟩ := h
  by_cases e : p.1 = k
  ·have e' : q.1 = k := h1.symm.trans e
   have a : atE (p :: ps) k = some p.2.2 := by simp [atE, List.find?_cons, e]
   have b : atKey (q :: qs) k = some q.2 := by simp [atKey, List.find?_cons, e']
   rw [a, b]; exact h2
  ·have e' : ¬ q.1 = k := fun z => e (h1.trans z)
   have a : atE (p :: ps) k = atE ps k := by simp [atE, List.find?_cons, e]
   have b : atKey (q :: qs) k = atKey qs k := by simp [atKey, List.find?_cons, e']
   rw [a, b]; exact ih
theorem jA : ∀ {o : Option V} {u : Option Value}, RelO o u -> o.isSome = u.isSome
 | some _, some _, _ => rfl
 | none, none, _ => rfl
 | some _, none, h => h.elim
 | none, some _, h => h.elim
theorem lL {k : List Int} : (atE es k).isSome = decide (k ∈ es.map (·.1)) := by
 induction es with
 | nil => rfl
 | cons p ps ih =>
  by_cases e : p.1 = k
  ·simp [atE, List.find?_cons, e]
  ·have a : atE (p :: ps) k = atE ps k := by simp [atE, List.find?_cons, e]
   rw [a, ih]
   have : ¬ k = p.1 := fun z => e z.symm
   simp [this]
def zx (K : PySem.W.Frag) (neg : Bool) : R2 := fun y x H Q => ∃ b a ms es, y = .ref b /\ x = .ref a /\ SqT K H b (ms.map V.int) /\ (∃ ob, H a = some (gG a ob es)) /\ fi K H es /\ Q (.bl (if neg then !decide (ms ∈ es.map (·.1)) else decide (ms ∈ es.map (·.1)))) H
end
section
variable {X : Cx}
theorem zy (hu : X.A.units + 64 < cLine) : OpR X (compareOp .In) (zx X.K false) := by
 rintro pins s σ H x y v u Q I rx ry ⟨b, a, ms, es, e1, e2, h1, ⟨ob, h2⟩, h3, q⟩
 subst e1; subst e2
 cases rx; cases ry
 obtain ⟨z, m, nd, xs, ev, dd⟩ := uS I h2 h3
 refine wpAny_in_heap (tupleKind_room_in1 (by lia)) (kj I h1) m dd ?_
 have e := jA (ev.at_ ms)
 rw [Option.isSome_map, lL] at e
 rw [<- e]
 exact ⟨.bl _, H, I.tok _, rfl, q⟩
end
end L2
namespace L2
open PySem PySem.Spec PyProof.Rows
def jc (es : List (List Int × Addr × V)) (k : List Int) (b : Addr) (v : V) : List (List Int × Addr × V) := if k ∈ es.map (·.1) then es.map (fun x => if x.1 = k then (x.1, x.2.1, v) else x) else es ++ [(k, b, v)]
theorem lM (es : List (List Int × Addr × V)) (k : List Int) (b : Addr) (v : V) : (jc es k b v).length <= es.length + 1 := by
 unfold jc; split <;> simp
theorem EV.repl {xs : List (List Int × Addr × Value)} (r : EV es xs) (k : List Int) {u : Value} (rv : RelV v u) : EV (es.map fun x => if x.1 = k then (x.1, x.2.1, v) else x) (xs.map (putAt k u)) := by
 induction r with
 | nil => exact .nil
 | @cons p q ps qs h t ih =>
  rw [List.map_cons, List.map_cons]
  refine .cons ?_ ih
  obtain ⟨h1, h2, h3⟩ := h
  unfold putAt
  by_cases e : p.1 = k
  ·rw [if_pos e, if_pos (h1.symm.trans e)]; exact ⟨h1, h2, rv⟩
  ·rw [if_neg e, if_neg (fun z => e (h1.trans z))]; exact ⟨h1, h2, h3⟩
theorem EV.put {xs : List (List Int × Addr × Value)} (r : EV es xs) (k : List Int) {b : Addr} {u : Value} (rv : RelV v u) : EV (jc es k b v) (storedH xs k b u) := by
 have e : decide (k ∈ es.map (·.1)) = (atKey xs k).isSome := by
  have := jA (r.at_ k)
  rw [Option.isSome_map, lL] at this
  exact this
 unfold jc storedH
 by_cases q : (atKey xs k).isSome = true
 ·rw [if_pos q, if_pos (of_decide_eq_true (e.trans q))]; exact r.repl k rv
 ·rw [if_neg q, if_neg (fun z => q (e.symm.trans (decide_eq_true z)))]; exact Paired.snoc r ⟨rfl, rfl, rv⟩
section
variable {X : Cx} {o i value : Expr} {pos pos' : Pos} {td ty tv : TE}
theorem zz {s : Shared} (I : Inv X pins σ H s) : sysModules < s.heap.objs.size := by
 have h : mainGlobals < s.heap.objs.size := (I.mod.glob.keeps I.bk).lt
 exact Nat.lt_trans (by decide) h
end
end L2
namespace VL
open PySem L2
def dc (kvs : List (List Int × D)) : D := .dic (kvs.map (·.1)) (kvs.map (·.2))
def od (kvs : List (List Int × D)) : Sl := .odi (kvs.map (·.1)) (kvs.map (·.2))
def fj (kvs : List (List Int × D)) (k : List Int) (d : D) : List (List Int × D) := if k ∈ kvs.map (·.1) then kvs.map (fun x => if x.1 = k then (x.1, d) else x) else kvs ++ [(k, d)]
section
variable {K : PySem.W.Frag} {N : AP} {F : FP} {H : Hp}
theorem f6 : ∀ {es : List (List Int × Addr × V)}, Reps K N F H (es.map fun x => .ref x.2.1) ((es.map (·.1)).map kT) -> fi K H es
 | [], _ => fun _ h => nomatch h
 | e :: es, r => by
  cases r with
  | cons h t =>
   intro x hx
   rcases List.mem_cons.mp hx with rfl | hx
   ·obtain ⟨a, vs, e1, hq, rr⟩ := Rep.sqT (show Rep K N F H _ (.tup (x.1.map D.int)) from h)
    cases e1
    cases Reps.toInts rr
    exact hq
   ·exact f6 t x hx
theorem Rep.dct {ks : List (List Int)} (h : Rep K N F H v (.dic ks ds)) : ∃ a es, v = .ref a /\ N a /\ F (some a) /\ (∃ ob, H a = some (gG a ob es)) /\ es.map (·.1) = ks /\ fi K H es /\ Reps K N F H (es.map fun x => .ref x.2.1) (ks.map kT) /\ Reps K N F H (es.map (·.2.2)) ds := by
 cases h with
 | dic n f h e rk r => subst e; exact ⟨_, _, rfl, n, f, ⟨_, h⟩, rfl, f6 rk, rk, r⟩
theorem jB {k : List Int} (hv : Rep K N F H v d) : ∀ {es : List (List Int × Addr × V)} {kvs : List (List Int × D)}, es.map (·.1) = kvs.map (·.1) -> Reps K N F H (es.map (·.2.2)) (kvs.map (·.2)) ->
  Reps K N F H ((es.map fun x => if x.1 = k then (x.1, x.2.1, v) else x).map (·.2.2)) ((kvs.map fun x => if x.1 = k then (x.1, d) else x).map (·.2))
 | [], [], _, _ => .nil
 | e :: es, p :: kvs, ek, r => by
  simp only [List.map_cons, List.cons.injEq] at ek
  cases r with
  | cons h t =>
   simp only [List.map_cons]
   refine .cons ?_ (jB hv ek.2 t)
   by_cases hk : e.1 = k
   ·rw [if_pos hk, if_pos (ek.1.symm.trans hk)]; exact hv
   ·rw [if_neg hk, if_neg (fun z => hk (ek.1.trans z))]; exact h
 | [], _ :: _, ek, _ => by simp at ek
 | _ :: _, [], ek, _ => by simp at ek
theorem mM (es : List (List Int × Addr × V)) (k : List Int) (v : V) : (es.map fun x => if x.1 = k then (x.1, x.2.1, v) else x).map (·.1) = es.map (·.1) := by
 rw [List.map_map]
 refine List.map_congr_left fun x _ => ?_
 simp only [Function.comp]; split <;> rfl
theorem mO (es : List (List Int × Addr × V)) (k : List Int) (v : V) : (es.map fun x => if x.1 = k then (x.1, x.2.1, v) else x).map (fun x => V.ref x.2.1) = es.map fun x => V.ref x.2.1 := by
 rw [List.map_map]
 refine List.map_congr_left fun x _ => ?_
 simp only [Function.comp]; split <;> rfl
theorem iL (kvs : List (List Int × D)) (k : List Int) (d : D) : (kvs.map fun x => if x.1 = k then (x.1, d) else x).map (·.1) = kvs.map (·.1) := by
 rw [List.map_map]
 refine List.map_congr_left fun x _ => ?_
 simp only [Function.comp]; split <;> rfl
theorem uT {k : List Int} {b : Addr} (hv : Rep K N F H v d) {F' : FP} (hb : Rep K N F' H (.ref b) (kT k)) (ek : es.map (·.1) = kvs.map (·.1))
  (rk : Reps K N F' H (es.map fun x => V.ref x.2.1) ((kvs.map (·.1)).map kT)) (r : Reps K N F H (es.map (·.2.2)) (kvs.map (·.2))) :
  (jc es k b v).map (·.1) = (fj kvs k d).map (·.1) /\ Reps K N F' H ((jc es k b v).map fun x => V.ref x.2.1) (((fj kvs k d).map (·.1)).map kT) /\ Reps K N F H ((jc es k b v).map (·.2.2)) ((fj kvs k d).map (·.2)) := by
 unfold jc fj
 by_cases hk : k ∈ es.map (·.1)
 ·rw [if_pos hk, if_pos (by rw [<- ek]; exact hk), mM, iL, mO]
  exact ⟨ek, rk, jB hv ek r⟩
 ·rw [if_neg hk, if_neg (by rw [<- ek]; exact hk)]
  simp only [List.map_append, List.map_cons, List.map_nil]
  exact ⟨by rw [ek], Reps.append rk (.cons hb .nil), Reps.append r (.cons hv .nil)⟩
end
section
variable {K : PySem.W.Frag} {X : Cx} {m : Bool} {e o ie : Expr} {te ti : TE} {va vi : VT} {pos posS : Pos}
def Ck (neg : Bool) : D -> D -> (D -> Prop) -> Prop := fun d1 d2 q => ∃ ms kvs, d1 = kT ms /\ d2 = dc kvs /\ q (.bl (if neg then !decide (ms ∈ kvs.map (·.1)) else decide (ms ∈ kvs.map (·.1))))
theorem xh {neg : Bool} : bX K (zx K neg) (Ck neg) := by
 rintro x y H d1 d2 q C r1 r2 ⟨ms, kvs, rfl, rfl, h⟩ hc
 obtain ⟨b, vs, rfl, hq, rr⟩ := Rep.sqT (show Rep K _ _ H x (.tup (ms.map D.int)) from r1)
 cases Reps.toInts rr
 obtain ⟨a, es, rfl, _, _, ha, ek, hk, _, _⟩ := Rep.dct (show Rep K _ _ H y (.dic _ _) from r2)
 refine ⟨b, a, ms, es, rfl, rfl, hq, ha, hk, ?_⟩
 rw [ek]
 exact hc _ _ h fun _ _ => .bl _
theorem xi (hK : X.K = K) (hu : X.A.units + 64 < cLine) : OpR X (compareOp .In) (zx K false) := by subst hK; exact zy hu
abbrev VTD := List Sl -> (List (List Int × D) -> List Sl -> Prop) -> Prop
def DC (K : PySem.W.Frag) (te : TE) (t : VTD) : Prop := ∀ H0 Z σ H S Q C, OK K H0 Z σ H S -> t S Q -> (∀ a es kvs H1 H' S', OK K H0 Z σ H1 S' -> Step Z σ S H σ S' H1 -> H1 a = none -> (∀ b, H1 b ≠ none -> H' b = H1 b) -> (∃ ob, H' a = some (gG a ob es)) ->
 es.map (·.1) = kvs.map (·.1) -> Reps K (fun b => NM Z σ S' b /\ b ≠ a) AnyF H' (es.map fun x => V.ref x.2.1) ((kvs.map (·.1)).map kT) -> Reps K (fun b => NM Z σ S' b /\ b ≠ a) (Fr H0) H' (es.map (·.2.2)) (kvs.map (·.2)) -> Q kvs S' -> C (.ref a) H') -> te σ H C
structure VDe (K : PySem.W.Frag) (X : Cx) (e : Expr) (te : TE) (t : VTD) : Prop where
 pe : PE X e te
 snd : DC K te t
def xj (i : Nat) (t : VTD) : VTS := fun V S => t S fun kvs S1 => i < S1.length /\ V.nx (S1.set i (od kvs))
theorem nR {i : Nat} {x : Str} {pos' : Pos} {tn : VTD} (ps : ∀ te, PE X e te -> PS X (.Assign [.Name x pos'] e pos) (dk te (bq i))) (h : VDe K X e te tn) : VS K X (.Assign [.Name x pos'] e pos) (dk te (bq i)) (xj i tn) :=
 ⟨ps te h.pe, fun H0 Z σ H S V E k t l => h.snd H0 Z σ H S _ _ k t fun a es kvs H1 H' S' k1 st1 ha hg hl ek rk rr zq1 => by
  obtain ⟨hi, q⟩ := zq1
  obtain ⟨k2, st2⟩ := k1.setNew (s := od kvs) hi ha hg ⟨a, es, rfl, hl, k1.dom a ha, ⟨ek, rk⟩, rr⟩ rfl
  exact l.nx _ _ _ k2 (st1.trans st2) q⟩
end
end VL
end
section
namespace VL
open PySem L2
section
variable {S : List Sl} {Q : VR -> List Sl -> Prop} {QN : List D -> List Sl -> Prop} {QD : List (List Int × D) -> List Sl -> Prop} {W : bM} {va vb : VT} {vr : VTA} {vd : VTD}
@[irreducible] def nS (i : Nat) (W : bM) : List (List Int × D) -> List Sl -> Prop := fun kvs S1 => i < S1.length /\ W.nx (S1.set i (od kvs))
theorem zA {i : Nat} (h : vd S (nS i W)) : xj i vd W S := by unfold nS at h; exact h
theorem uU {i : Nat} (e : Nat.ble (i + 1) S.length = true) (h : W.nx (S.set i (od kvs))) : nS i W kvs S := by unfold nS; exact ⟨Nat.le_of_ble_eq_true e, h⟩
theorem zB {neg : Bool} {d1 d2 : D} (e1 : d1 = kT ms) (e2 : d2 = dc kvs) (h : q (.bl (if neg then !decide (ms ∈ kvs.map (·.1)) else decide (ms ∈ kvs.map (·.1))))) : Ck neg d1 d2 q := ⟨ms, kvs, e1, e2, h⟩
end
section
variable {K : PySem.W.Frag} {X : Cx} {e : Expr} {te : TE} {va : VT} {pos pos' : Pos} {x : Str}
theorem aA {i : Nat} (hN : X.N.Nodup) (hi : X.N[i]? = some x) (hx : Loc X.env.scope x) (h : VE K X false e te va) (hs : swapsWith e (some (.Name x pos')) pos.line X.env = pure false := by rfl)
  (hf : X.fn x = true \/ X.env.scope.names.lookup x = some .local := by first | exact .inl rfl | exact .inr rfl | assumption) : VS K X (.Assign [.Name x pos'] e pos) (dk te (bq i)) (mH va (vgN i)) := yA (fun _ h => gX hN hi hx h hs hf) h
end
end VL
end
section
namespace VL
open PySem L2
section
variable {K : PySem.W.Frag} {X : Cx} {m : Bool} {e a b o : Expr} {te ta tb : TE} {va vb : VT} {pos apos : Pos}
def xk : List D -> (D -> Prop) -> Prop := fun ds q => ∃ i : Int, ds = [.int i] /\ i.natAbs.log2 < 1920 /\ q (.str (toString i))
theorem zC : dv K (fun xs H Q => ∃ i : Int, xs = [.int i] /\ i.natAbs.log2 < 1920 /\ Q (.str (toString i)) H) xk := by
 rintro xs H ds q C r ⟨i, rfl, hb, h⟩ hc
 obtain ⟨v, rfl, rv⟩ := rep1 r
 cases rv
 exact ⟨i, rfl, hb, hc _ _ h fun _ _ => .str _⟩
end
section
variable {S : List Sl} {Q : VR -> List Sl -> Prop} {va vb : VT} {vn : VTN}
theorem zD {i : Int} (hb : i.natAbs.log2 < 1920) (h : q (.str (toString i))) : xk [.int i] q := ⟨i, rfl, hb, h⟩
theorem Cm {x y : Str} (h : q (.bl (decide (x = y)))) : wEq (.str x) (.str y) q := ⟨.str x, .str y, rfl, rfl, rfl, by simpa using h⟩
theorem Co {x y : Str} (h : q (.bl (!decide (x = y)))) : wNe (.str x) (.str y) q := ⟨.str x, .str y, rfl, rfl, rfl, by simpa using h⟩
end
end VL
end
section
namespace L2
open PySem PySem.Spec PyProof.Rows PySem.W
structure Flies (P : Program) (w : World) (outer : List Env) (H : Hp) (s : Shared) (x : Addr) (cls a0 : Value) (B : Heap) (H' : Hp) (s' : Shared) : Prop where
 os : s'.os = s.os
 bare : AllBare s'.gens
 fly : Heap.FlyingW B outer x cls a0 s'.heap
 frm : ∀ b ∈ frs outer, ∀ o, s.heap.get? b = some o -> ∃ sl, s'.heap.get? b = some { o with slots := sl }
 hok : HOk P w H' B
 cov : ∀ b o, s.heap.get? b = some o -> H b = none -> b ∉ frs outer -> B.get? b = some o
 same : ∀ b, H b ≠ none -> H' b = H b
 free : ∀ b o, s.heap.get? b = some o -> H b = none -> H' b = none
 new : s.heap.get? x = none
def CX1 (P : Program) (w : World) : CXT := fun outer H s E e s' => ∃ x cls a0 B H', e = .ref x /\ Flies P w outer H s x cls a0 B H' s' /\ E cls none H'
section
variable {P : Program} {w : World} {outer : List Env} {H H' : Hp} {s s' : Shared} {x : Addr} {cls a0 : Value} {B : Heap}
theorem Flies.hok' (f : Flies P w outer H s x cls a0 B H' s') : HOk P w H' s'.heap := f.hok.kept f.fly.1
theorem Flies.un (f : Flies P w outer H s x cls a0 B H' s') : Un (frs outer) [] H H' s.heap s'.heap where
 keep := fun b o e n nb _ => f.fly.1 b o (f.cov b o e n nb)
 slot := fun b o e _ hb _ => f.frm b hb o e
 free := fun b o e n _ => f.free b o e n
 there := fun b o e _ => by
  cases n : H b with
  | none =>
   by_cases hb : b ∈ frs outer
   ·obtain ⟨sl, q⟩ := f.frm b hb o e
    exact ⟨_, q⟩
   ·exact ⟨o, f.fly.1 b o (f.cov b o e n hb)⟩
  | some u => exact bp.there (f.hok' b u (by rw [f.same b (by rw [n]; simp)]; exact n))
 tups := fun b xs e => by rw [f.same b (by rw [e]; simp)]; exact e
 frzs := fun b o u e => by rw [f.same b (by rw [e]; simp)]; exact e
 tbls := fun b ps e => ⟨#[], by rw [f.same b (by rw [e]; simp), e]; simp⟩
theorem Flies.noX (f : Flies P w outer H s x cls a0 B H' s') : H' x = none := by
 cases n : H' x with
 | none => rfl
 | some u =>
  obtain ⟨o, e⟩ := bp.there (f.hok x u n)
  rw [f.fly.2.1] at e
  cases e
theorem rP {h : Heap} {as : List Addr} (k : HOk P w H h) (hf : ∀ a ∈ as, H a = none) : HOk P w H (hideAll h as) := fun b u e => by
 have nb : ∀ c v, H c = some v -> c ∉ as := fun c v q z => by rw [hf c z] at q; cases q
 refine (k b u e).stay (fun c v hc q => hideAll_get _ q ?_) (fun c q => q) fun c xs q => q
 rcases hc with rfl | hc
 ·exact nb c u e
 ·exact nb c _ hc
end
structure fJ (X : Cx) (Hin : Hp) (E : XK) : Prop where
 first : ∀ pins σ H s h1 x cls args, Inv X pins σ H s -> Heap.MadeExcOf s.heap h1 x cls args -> (∀ b, Hin b ≠ none -> H b = Hin b) -> E cls none H -> ∀ tk, X.xe (.ref x) { s with heap := h1, toks := tk }
 next : ∀ pins σ H s e s', Inv X pins σ H s -> CX1 X.prog X.w X.stack H s (fun c _ H' => (∀ b, Hin b ≠ none -> H' b = Hin b) /\ E c none H') e s' -> X.xe e s'
section
variable {P : Program} {w : World} {K : PySem.W.Frag} {mg : Str -> Option Value} {base : Heap} {N : List Str} {qual : Str} {scope : Scope} {f : Addr} {cd : Value} {A : Around} {outer : List Env} {s : Shared} {H : Hp} {E : XK}
theorem pF : fJ (gE (CX1 P w) P w K mg base N qual scope f cd A outer s H E) H E where
 first := fun pins σ Hc sr h1 x cls args I hx fr he tk => by
  have nf : ∀ b ∈ frs outer, ∀ o, s.heap.get? b = some o -> ∀ vs, o.data ≠ .fields vs := fun b hb o e => by
   obtain ⟨_, o', e', n⟩ := I.ok.funs.mem hb
   have e' : s.heap.get? b = some o' := e'
   rw [e] at e'; cases e'
   exact n
  refine wpAny_leaves_madeW (base := hideAll sr.heap (frs (envOfC qual scope s.heap.objs.size f cd :: outer))) I.ok.frames rfl (fun b o q => of_hideAll _ q) (funFrames_hide I.stack fun env he a ha => List.mem_filterMap.mpr ⟨env, he, ha⟩) hx fun h' t fl _ _ up => ?_
  refine ⟨x, cls, .ref t, _, Hc, rfl, ⟨I.os, I.bare, fl, fun b hb o e => ?_, rP I.hok I.stkFree, fun b o e n nb => ?_, fr, fun b o e n => ?_, ?_⟩, he⟩
  ·obtain ⟨sl, q⟩ := I.base.slot b o e (I.ok.frf b hb) hb (by intro z; cases z)
   obtain ⟨sl', q'⟩ := up b _ (hx.keeps _ _ q) (nf b hb o e)
   exact ⟨sl', q'⟩
  ·refine hideAll_get _ (I.base.keep b o e n nb (by intro z; cases z)) fun z => ?_
   rcases List.mem_cons.mp (I.stkSub b z) with e' | z
   ·have lt := Heap.lt_size e
    have ab : s.heap.objs.size <= b := e' ▸ I.ok.above
    exact absurd lt (Nat.not_lt.mpr ab)
   ·exact nb z
  ·exact I.base.free b o e n (by intro z; cases z)
  ·cases q : s.heap.get? x with
   | none => rfl
   | some o =>
    obtain ⟨o', e'⟩ := I.base.there x o q (by intro z; cases z)
    rw [hx.new] at e'
    cases e'
 next := fun pins σ Hc sr e s' I h => by
  obtain ⟨x, cls, a0, B, H', rfl, F, fr, he⟩ := h
  have nf : ∀ b ∈ frs outer, ∀ o, s.heap.get? b = some o -> ∀ vs, o.data ≠ .fields vs := fun b hb o e => by
   obtain ⟨_, o', e', n⟩ := I.ok.funs.mem hb
   have e' : s.heap.get? b = some o' := e'
   rw [e] at e'; cases e'
   exact n
  refine wpAny_leaves_onW I.ok.frames rfl F.fly fun h' fl up => ?_
  have sub : ∀ b ∈ frs outer, b ∈ frs (envOfC qual scope s.heap.objs.size f cd :: outer) := fun b hb => by
   obtain ⟨env, h1, h2⟩ := List.mem_filterMap.mp hb
   exact List.mem_filterMap.mpr ⟨env, List.mem_cons_of_mem _ h1, h2⟩
  refine ⟨x, cls, a0, B, H', rfl, ⟨F.os.trans I.os, F.bare, fl, fun b hb o e => ?_, F.hok, fun b o e n nb => ?_, fr, fun b o e n => ?_, ?_⟩, he⟩
  ·obtain ⟨sl, q⟩ := I.base.slot b o e (I.ok.frf b hb) hb (by intro z; cases z)
   obtain ⟨sl1, q1⟩ := F.frm b (sub b hb) _ q
   obtain ⟨sl2, q2⟩ := up b _ q1 (nf b hb o e)
   exact ⟨sl2, q2⟩
  ·refine F.cov b o (I.base.keep b o e n nb (by intro z; cases z)) (I.base.free b o e n (by intro z; cases z)) fun z => ?_
   rcases List.mem_cons.mp (I.stkSub b z) with e' | z
   ·have lt := Heap.lt_size e
    have ab : s.heap.objs.size <= b := e' ▸ I.ok.above
    exact absurd lt (Nat.not_lt.mpr ab)
   ·exact nb z
  ·obtain ⟨o', e'⟩ := I.base.there b o e (by intro z; cases z)
   exact F.free b o' e' (I.base.free b o e n (by intro z; cases z))
  ·cases q : s.heap.get? x with
   | none => rfl
   | some o =>
    obtain ⟨o', e'⟩ := I.base.there x o q (by intro z; cases z)
    rw [F.new] at e'
    cases e'
end
theorem zE {K : Frag} {h : Heap} {mg : Str -> Option Value} {x : Str} {C : Addr} {bmB : List Value} {newId : String} (X : K.In h) (hm : mg x = some (.ref C)) (q : excIn K C bmB newId = true) : OwnCls x C bmB newId mg h := by
 unfold excIn at q
 cases hl : K.lookup C with
 | none => rw [hl] at q; cases q
 | some o =>
  rw [hl] at q
  split at q
  case h_2 => cases q
  case h_1 dd cd sl e =>
  cases e
  split at q
  case h_2 => cases q
  case h_1 C' bm k0 k1 k2 k3 n k5 hm' hs =>
  have hh := X _ _ hl
  simp only [Bool.and_eq_true, beq_iff_eq, Bool.not_eq_true'] at q
  obtain ⟨⟨⟨⟨⟨q1, q2⟩, q3⟩, q4⟩, q5⟩, q6⟩ := q
  cases cd
  cases q1; cases q2
  simp only at hm' q3 q5 q6
  cases hm'; cases q3
  rw [show sl = #[k0, k1, k2, k3, some (.builtin _), k5] from Array.toList_inj.mp hs] at hh
  exact ⟨hm, _, _, _, _, _, _, _, _, _, _, _, _, _, _, _, _, _, hh, .of_isNs (isNs_of_in X q5), nsMap_none_of_in X q5 q6, tail_of_in X q4⟩
section
variable {X : Cx} {Hin : Hp} {E : XK} {C : Addr} {bmB : List Value} {B newId initId : String} {x : Str} {z : Str} {j : Nat} {np p cpos pos : Pos}
def rQ (Hin : Hp) (E : XK) (C : Addr) : TS := fun _ _ H => (∀ b, Hin b ≠ none -> H b = Hin b) /\ E (.ref C) none H
theorem rR (T : fJ X Hin E) (FB : ExcBaseFacts B newId initId bmB) (ec : excIn X.K C bmB newId = true) (hm : X.mg x = some (.ref C)) (hc : X.calm = true) (hg : Gl X x := by rfl) (hd : (x == ("__debug__" : Str)) = false := by decide)
  (he : starEach [.Constant (.str z) j p] X.env = [(false, eval (.Constant (.str z) j p) X.env)] := by rfl) :
  PS X (.Raise (some (.Call (.Name x np) [.Constant (.str z) j p] [] cpos)) none pos) (rQ Hin E C) := by
 rintro pins s σ H D I ⟨fr, ec'⟩
 have O : OwnCls x C bmB newId X.mg s.heap := zE I.kIn hm ec
 obtain ⟨tl, N, nm, q, bs, hdct, sn, sub, ab, col, dd, k0, k1, k2, k3, k5, mN, hC, hN, hni, TL⟩ := O.obj
 refine wpAny_Raise_call_subT (mN := mN) (nm := nm) (q := q) (C := C) (N := N) (bs := bs) (bm := tl) (hdct := hdct) (sn := sn) (sub := sub) (ab := ab) (col := col) (dd := dd) (k0 := k0) (k1 := k1) (k2 := k2) (k3 := k3) (k5 := k5) FB (TL.hasType FB.hasBase) (I.ok.hd hc) (by rw [he]; rfl) hni (fv I hg hm ⟨rfl, ?_⟩ hd)
 rw [he]
 refine Calls.evalArgs_plain ?_
 refine Calls.spliced_cons (Calls.Constant_str (k := j) (pos := p) (Calls.spliced_nil ⟨rfl, ?_, hC, hN, TL, fun h' e mk => ?_⟩))
 ·show 1 <= sizeLine
  rw [sizeLine_eq]; lia
 ·exact T.first pins σ H s h' e (.ref C) _ I mk fr ec' _
end
section
open Builtin Builtin.ObjectAttr Builtin.Getset_descriptor
def gP (K : Frag) (C : Addr) : Bool := (findIn K (.ref C) "__getattribute__" == some (some (.builtin "BaseException.__getattribute__"))) && (findIn K (.ref C) "__getattr__" == some none) && (findIn K (.ref C) "__class__" == some (some (.builtin "object.__class__"))) &&
 (specialIn K (.builtin "object.__class__") "__get__" == some (some (.builtin "getset_descriptor.__get__"))) && (takesIn K (.builtin "object.__class__") == some true) && (mroIn K C (.type "object") == some true) && (mroIn K C (.type "BaseException") == some true)
section
variable {prog : Program} {w : World} {A : Around} {E : Value -> Shared -> Prop} {s : Shared} {K : Frag} {x C : Addr} {o : Obj}
theorem mP {Q : Option Value -> Shared -> Prop} (X : K.In s.heap) (ho : s.heap.get? x = some o) (hc : o.cls = .ref C) (ok : gP K C = true) (h : Q (some (.ref C)) { s with toks := s.toks + 1 }) : wpAny (model prog w) A (getAttr? (.ref x) "__class__") Q E s := by
 obtain ⟨hp, g, d, tk, os⟩ := s
 simp only [gP, Bool.and_eq_true, beq_iff_eq] at ok
 obtain ⟨⟨⟨⟨⟨⟨o1, o2⟩, o3⟩, o4⟩, o5⟩, o6⟩, o7⟩ := ok
 have T0 : Looks (model prog w) hp (typeOf (.ref x)) (.ref C) := hc ▸ (Looks.ld ho).andThen .now
 have T1 := looks_findIn (M := model prog w) X o1
 have T2 := looks_findIn (M := model prog w) X o2
 have T3 : Looks (model prog w) hp (find (.ref x) (.ref C) "__class__") (.bind (.builtin "getset_descriptor.__get__") (.builtin "object.__class__")) :=
  (looks_findIn X o3).andThen ((show Looks (model prog w) hp (getOf (some (.builtin "object.__class__"))) _ from looks_specialIn X o4).andThen
   ((show Looks (model prog w) hp (dataDescriptor? (some (.builtin "object.__class__")) (some (.builtin "getset_descriptor.__get__"))) (some (.builtin "getset_descriptor.__get__", .builtin "object.__class__")) from (looks_takesIn X o5).andThen .now).andThen (Looks.tag .now)))
 have T6 := looks_mroIn (M := model prog w) X o6
 have T7 : Looks (model prog w) hp (isInstance (.ref x) (.type "BaseException")) true := T0.andThen (looks_mroIn X o7)
 have gets : ∀ (A : Around) (tk : Nat), wpAny (model prog w) A (call (.builtin "getset_descriptor.__get__") [.builtin "object.__class__", .ref x, .ref C]) (fun v s' => v = .ref C /\ s' = ⟨hp, g, d, tk, os⟩) (fun _ _ => False) ⟨hp, g, d, tk, os⟩ := fun A tk => by
  refine wpAny_call (codeAny_call_builtin KF.slot_gs.plain KF.entry_gs (KF.slot_gs.check _ _ _ _ _ _ _ _ KF.type_class (KF.args_gs _ _ _) ?_))
  simp only [Builtin.«getset_descriptor.__get__», descrGet, dga_obj]
  refine wpAny_bind (wpAny_pure ?_)
  simp only [descrGetter, descrCheckInstance, descrNameAndClass, isInstance, KF.owner_class]
  repeat lk
  exact ⟨Code.quiet_builtin _ (by decide +kernel), codeAny_builtin KF.entry_class (by simp only [Builtin.«object.__class__», shownTypeOf]; (repeat lk); exact ⟨rfl, rfl⟩)⟩
 have asks : ∀ (A : Around) (tk : Nat) (nt : Tok), wpAny (model prog w) A (call (.builtin "BaseException.__getattribute__") [.ref x, .str "__class__" nt]) (fun v s' => v = .ref C /\ s' = ⟨hp, g, d, tk, os⟩) (fun _ _ => False) ⟨hp, g, d, tk, os⟩ := fun A tk nt => by
  have kd : builtinKind "BaseException.__getattribute__" = some .slot := by decide +kernel
  have sp : splitId "BaseException.__getattribute__" = some ("BaseException", "__getattribute__") := by decide +kernel
  refine wpAny_call (codeAny_call_builtin (by decide +kernel) F.entry_bexc_ga ?_)
  simp only [checkBuiltinCall, kd, sp]
  refine wpAny_bind (T7.at ?_)
  have fits : (match Manifest.signature? "BaseException.__getattribute__" with
   | some sig => Bind.checkArgs "BaseException.__getattribute__" sig { pos := [Value.ref x, Value.str "__class__" nt] }
   | _ => pure ()) = pure () := F.args_bexc_ga (.ref x) (.str "__class__" nt)
  simp only [Bool.not_true, Bool.false_eq_true, if_false]
  refine (show _ = _ from fits) ▸ wpAny_pure ?_
  refine wpAny_bind (wpAny_pure (wpAny_bind (wpAny_pure (wpAny_bind (T0.at (wpAny_bind (T3.at ?_)))))))
  exact wpAny_bind (wpAny_mono (gets _ tk) (fun v s' zt1 => by obtain ⟨a, b⟩ := zt1; exact wpAny_pure ⟨a, b⟩) fun _ _ z => z.elim)
 have no : (Value.builtin "BaseException.__getattribute__" == Value.builtin "object.__getattribute__") = false := by decide +kernel
 simp only [getAttr?, getAttrBy?, getAttrBy]
 refine wpAny_bind (wpAny_mkText (wpAny_bind (wpAny_attempt (wpAny_holding (wpAny_bind (T0.at (wpAny_bind (T1.at ?_))))))))
 simp only [no, Bool.and_false, Bool.false_eq_true, if_false, getAttrByItsOwn, hookBefore, onTheHeap, if_true]
 refine wpAny_bind (T2.at (wpAny_bind (wpAny_attempt (wpAny_holding ?_))))
 simp only [callGetattribute, Bool.false_and, Bool.false_eq_true, if_false, boundAndCalled, F.attr_ValueError.ga.bind]
 refine wpAny_bind (wpAny_pure (wpAny_mono (asks A (tk + 1) tk) (fun v s' zr1 => ?_) fun _ _ z => z.elim))
 obtain ⟨a, b⟩ := zr1
 subst a b
 exact handed_on rfl (wpAny_pure h)
def ExcAt (x C : Addr) (h : Heap) : Prop := ∃ o, h.get? x = some o /\ o.cls = .ref C
theorem uV {cd : ClassData} (e : clsIn K C = some cd) : ∃ o, K.lookup C = some o /\ o.data = .cls cd := by
 unfold clsIn at e
 split at e
 ·next c d cd' sl q => cases e; exact ⟨_, q, rfl⟩
 ·cases e
theorem rS (hk : kitCls K (.ref C) (.ref C) = some true) (ok : gP K C = true) (hc : (clsIn K C).isSome = true) : KitX K (.ref x) (.ref C) (ExcAt x C) where
 ty := fun M h _ zt1 => by obtain ⟨o, e, c⟩ := zt1; exact c ▸ (Looks.ld e).andThen .now
 it := fun M h X _ => (kit_cls X hk).2.1
 ne := fun h tp dd its n sl X htp => by
  obtain ⟨cd, hcd⟩ := Option.isSome_iff_exists.mp hc
  obtain ⟨o, e, d⟩ := uV hcd
  refine Bool.eq_false_iff.mpr fun q => ?_
  cases beq_iff_eq.mp q
  have z := X _ _ e
  rw [htp] at z
  cases z
  cases d
 ca := fun X zt1 k => by obtain ⟨o, e, c⟩ := zt1; exact mP X e c ok k
end
end
section
variable {X : Cx} {pins : List (Addr × Obj)} {σ : St} {H H' : Hp} {s s' : Shared} {x : Addr} {cls a0 : Value} {B : Heap}
theorem Flies.on {h' : Heap} {tk : Nat} (I : Inv X pins σ H s) (f : Flies X.prog X.w X.stack H s x cls a0 B H' s') (fl : Heap.FlyingW B X.stack x cls a0 h') (up : s'.heap.UpToSlots h') : Flies X.prog X.w X.stack H s x cls a0 B H' { s' with heap := h', toks := tk } where
 os := f.os
 bare := f.bare
 fly := fl
 frm := fun b hb o e => by
  obtain ⟨sl, q⟩ := f.frm b hb o e
  obtain ⟨_, o', e', n⟩ := I.stack.mem hb
  rw [e] at e'; cases e'
  obtain ⟨sl', q'⟩ := up b _ q n
  exact ⟨sl', q'⟩
 hok := f.hok
 cov := f.cov
 same := f.same
 free := f.free
 new := f.new
theorem Inv.lands (I : Inv X pins σ H s) (f : Flies X.prog X.w X.stack H s x cls a0 B H' s') : Inv X pins σ H' s' :=
 I.call' (ch := []) f.os f.un f.hok' f.bare fun b z => by cases z
abbrev Cx.caught (X : Cx) (x : Addr) : Cx := { X with A := X.A.mark (some (.ref x)), calm := false }
theorem Inv.caught (I : Inv X pins σ H s) (x : Addr) : Inv (X.caught x) pins σ H s :=
 ⟨⟨I.ok.mod, I.ok.kind, I.ok.glob, I.ok.blt, I.ok.above, I.ok.inj, I.ok.has, I.ok.cab, fun z => Bool.noConfusion z, I.ok.frames, I.ok.stk, I.ok.exf, I.ok.bs, I.ok.bsz, I.ok.noex, I.ok.exfs, I.ok.funs, I.ok.frf⟩, I.os, I.bare, I.base, I.loc, I.cell, I.free, I.freeC, I.pin, I.hok, I.len⟩
theorem Inv.uncaught {x : Addr} (J : Inv (X.caught x) pins σ H s) (ok : X.Ok) : Inv X pins σ H s := ⟨ok, J.os, J.bare, J.base, J.loc, J.cell, J.free, J.freeC, J.pin, J.hok, J.len⟩
theorem uW {M : Model} {A : Around} {E : Value -> Shared -> Prop} {i : Nat} {n : Str} {Q : Unit -> Shared -> Prop} (I : Inv X pins σ H s) (hN : X.N.Nodup) (hi : X.N[i]? = some n) (hk : X.env.scope.names.lookup n = some .local) (hv : σ[i]? = some (some v))
  (h : ∀ s', Inv X pins (σ.set i none) H s' -> Q () s') : wpAny M A (unbindName X.env n) Q E s := by
 obtain ⟨m, hn, hl⟩ := id I.loc
 obtain ⟨u, _, q⟩ := hl i n v hi hv (.inl hk)
 have hm : m n = some u := by
  rcases q with ⟨_, e⟩ | ⟨z, _⟩
  ·exact e
  ·have hk' : X.env.kindOf n = some .local := hk
   rw [hk'] at z
   rcases z with z | z <;> cases z
 have hcls : (X.env.scope.kind == .class || (X.env.scope.kind == .module && X.env.locals != X.env.globals)) = false := by rw [I.ok.kind]; rfl
 have hiσ : i < σ.length := by rw [I.len]; exact (List.getElem?_eq_some_iff.mp hi).1
 refine wpAny_unbindName_local hk hn hm hcls fun h' u' hn' hs => ?_
 have far : ∀ b o, X.s₀.heap.get? b = some o -> b ≠ X.env.locals := fun b o e => Nat.ne_of_lt (Nat.lt_of_lt_of_le (Heap.lt_size e) I.ok.above)
 refine h _ ⟨I.ok, I.os, I.bare, ⟨fun b o e n hb hx => (hs.2 b (far b o e)).trans (I.base.keep b o e n hb hx), fun b o e n hb hx => ?_, I.base.free, fun b o e hx => ?_, I.base.tups, I.base.frzs, I.base.tbls⟩, ⟨_, hn', fun j y v' e1 e2 e3 => ?_⟩, fun y c e => ?_, I.free, I.freeC, fun p hp => ?_, fun b ob e => ?_, by simpa using I.len⟩
 ·obtain ⟨sl, q⟩ := I.base.slot b o e n hb hx
  exact ⟨sl, (hs.2 b (far b o e)).trans q⟩
 ·obtain ⟨o', q⟩ := I.base.there b o e hx
  exact ⟨o', (hs.2 b (far b o e)).trans q⟩
 ·have hj : j ≠ i := fun z => by
   rw [z, List.getElem?_set_self hiσ] at e2
   cases e2
  rw [List.getElem?_set_ne (Ne.symm hj)] at e2
  obtain ⟨w', r', q⟩ := hl j y v' e1 e2 e3
  refine ⟨w', r', ?_⟩
  rcases q with ⟨k, e⟩ | ⟨k, c, e, z⟩
  ·have : y ≠ n := fun e => hj (gU hN e1 (e ▸ hi))
   exact .inl ⟨k, by simp [this, e]⟩
  ·exact .inr ⟨k, c, e, z.sameBut hs (I.cne y c e)⟩
 ·obtain ⟨w', z⟩ := I.cell y c e
  exact ⟨w', z.sameBut hs (I.cne y c e)⟩
 ·obtain ⟨e, n, ne, nf, d⟩ := I.pin p hp
  exact ⟨(hs.2 p.1 ne).trans e, n, ne, nf, d⟩
 ·refine (I.hok b ob e).stay (fun c w' hc q => (hs.2 c ?_).trans q) (fun _ q => q) fun _ _ q => q
  rintro rfl
  rcases hc with rfl | hc
  ·rw [I.free] at e; cases e
  ·rw [I.free] at hc; cases hc
end
section
variable {X : Cx} {k i : Nat} {f CB : Addr} {fd : FuncData} {ps : List Str} {sp : Sp} {e0 : Expr} {es : List Expr} {ta : TA} {x cb en : Str} {b0 : Stmt} {suite : List Stmt} {th : TS} {p pos pe np hp tp : Pos}
def unE (D : Ends) (i : Nat) : Ends := { nx := fun σ H => D.nx (σ.set i none) H, rt := D.rt, bk := fun σ H => D.bk (σ.set i none) H, ct := fun σ H => D.ct (σ.set i none) H }
def Cp (K : Frag) (CB : Addr) (sp : Sp) (ta : TA) (i : Nat) (th : TS) : TS := fun D σ H => ta σ H fun vs H1 => sp vs H1 (fun _ _ => False) fun c _ H' => ∃ C, c = .ref C /\ exmOne K (.ref C) (.ref CB) = some true /\
 ∀ y o, H' y = none -> o.cls = .ref C -> th (unE D i) (σ.set i (some (.ref y))) (upd H' y (.frz o (.own y)))
theorem zF (F : gC X.prog X.w X.K X.mg X.base (CX1 X.prog X.w) k f fd ps sp) (hr : cj k X.A) (hm : X.mg x = some (.ref f)) (hk : PySem.W.keepIn X.K (.ref f) = true) (hb : Binds X.K fd ps []) (ha : PA X (e0 :: es) ta) (hcb : X.mg cb = some (.ref CB))
  (hs : ∀ y, PSs (X.caught y) (b0 :: suite) th) (hxe : ∀ e s, ¬X.xe e s) (hex0 : X.ex = []) (hst : X.stack = X.env :: X.outer) (hfr : X.env.frame = some X.env.locals) (hN : X.N.Nodup) (hi : X.N[i]? = some en) (hloc : X.env.scope.names.lookup en = some .local)
  (hg : Gl X x := by rfl) (hgc : Gl X cb := by rfl) (hd : (x == ("__debug__" : Str)) = false := by decide) (hdc : (cb == ("__debug__" : Str)) = false := by decide) (he : starEach (e0 :: es) X.env = (false, eval e0 X.env) :: starEach es X.env := by rfl) (hpl : (backTo pos (starEach es X.env)).any (·.1) = false := by rfl)
  (hsw : swapsWith (.Call (.Name x p) (e0 :: es) [] pos) none pe.line X.env = pure false := by rfl) :
  PS X (.Try [.Expr (.Call (.Name x p) (e0 :: es) [] pos) pe] [.ExceptHandler (some (.Name cb np)) (some en) (b0 :: suite) hp] [] [] tp) (Cp X.K CB sp ta i th) := by
 intro pins s σ H D I h
 refine wpAny_Try_except (wpAny_execs_cons (wpAny_Expr_any ?_ I.quiet hsw))
 refine wpAny_Call_Name_kw (fv I hg hm ?_ hd)
 refine PySem.W.callWith_K (h₀ := X.base) I.ok.mod.kin hk (wpAny_mono (ha pos pins s σ H _ I h) (fun us s1 ⟨vs, H1, I1, r, q⟩ => ⟨I1.kIn, ?_⟩) fun e s z => (hxe e s z).elim) he hpl
 have hl : us.length = ps.length := by rw [<- r.length]; exact F.len _ _ _ _ q
 have hbd := hb s1 us I1.kIn (by rw [List.append_nil]; exact hl)
 rw [List.append_nil] at hbd
 refine wpAny_call (codeAny_mono (F.run X.A X.stack s1 H1 ⟨us, []⟩ us vs _ _ hr I1.env0 hbd r q) fun res s' hq => ?_)
 match res, hq with
 | .ok (.ret u), hq => obtain ⟨_, _, _, _, _, _, _, z⟩ := hq; exact z.elim
 | .error e, hq =>
  obtain ⟨y, cls, a0, B, H', rfl, Fl, C, rfl, hex, fin⟩ := hq
  have fr : X.A.frames = some (X.env :: X.outer) := hst ▸ I.ok.frames
  have fly0 := Fl.fly
  rw [hst] at fly0
  refine wpAny_looks_onW fr hfr fly0 fun h4 held up4 => ?_
  refine wpAny_landsW held fun h5 fly5 up5 => ?_
  have F5 : Flies X.prog X.w X.stack H1 s1 y (.ref C) a0 B H' { s' with heap := h5, toks := s'.toks } := Fl.on I1 (by rw [hst]; exact fly5) (up4.trans up5)
  have I5 := I1.lands F5
  obtain ⟨o5, ho5, hc5⟩ := fly5.there
  refine wpAny_handleBy_cons (codeAny_handlers_test (fv (I5.caught y) hgc hcb ?_ hdc)) (by intro q; cases q)
  refine exm_one (h := h5) I5.kIn (hc5 ▸ (Looks.ld ho5).andThen .now) hex _ _ _ _ (fun _ _ e => e) ?_
  refine codeAny_handlers_suite_as ?_
  refine lands_againW fly5 fun h6 fly6 up6 => ?_
  have F6 : Flies X.prog X.w X.stack H1 s1 y (.ref C) a0 B H' { s' with heap := h6, toks := s'.toks } := Fl.on I1 (by rw [hst]; exact fly6) ((up4.trans up5).trans up6)
  have I6 := I1.lands F6
  obtain ⟨o6, ho6, hc6⟩ := fly6.there
  have here : ∀ b o, s1.heap.get? b = some o -> b ≠ y := fun b o e z => by rw [z, Fl.new] at e; cases e
  have I7 : Inv (X.caught y) pins σ (upd H' y (.frz o6 (.own y))) { s' with heap := h6, toks := s'.toks } := by
   refine (I6.caught y).trackN F6.noX ?_ ?_ ?_ ?_ ⟨ho6, o6, ho6⟩
   ·cases z : X.s₀.heap.get? y with
    | none => rfl
    | some o =>
     obtain ⟨o', e'⟩ := I1.base.there y o z (by rw [hex0]; intro q; cases q)
     exact absurd rfl (here y o' e')
   ·obtain ⟨m, ⟨o, es, ep, e, _⟩, _⟩ := I1.loc
    exact (here _ o e).symm
   ·intro n c e
    obtain ⟨v, o, e', _⟩ := I1.cell n c e
    exact here c o e'
   ·intro p hp
    exact here p.1 p.2 (I1.pin p hp).1
  refine dt (X := X.caught y) I7 hN hi (.inl hloc) (show RelV (.ref y) (.ref y) from rfl) (fun s8 I8 => ?_) (.inr hloc)
  refine wpAny_mono (hs y pins s8 _ _ (unE D i) I8 (fin y o6 F6.noX hc6)) (fun fl s9 q9 => ?_) fun e s z => (hxe e s z).elim
  have let_go : ∀ {σ' : St} {H9 : Hp} {R : Unit -> Shared -> Prop}, Inv (X.caught y) pins σ' H9 s9 -> (∀ s', Inv X pins (σ'.set i none) H9 s' -> R () s') -> wpAny (model X.prog X.w) X.A (do bindName X.env en .none; unbindBehindTheSuite X.env en hp) R X.xe s9 := fun {σ' H9 R} J g => by
   have J0 := J.uncaught I.ok
   refine wpAny_bind (wpAny_bindName (dt J0 hN hi (.inl hloc) (show RelV .non .none from rfl) (fun s10 I10 => ?_) (.inr hloc)))
   refine wpAny_onRaise (uW I10 hN hi hloc (List.getElem?_set_self (by rw [J0.len]; exact (List.getElem?_eq_some_iff.mp hi).1)) fun s11 I11 => ?_)
   rw [List.set_set] at I11
   exact g s11 I11
  cases fl with
  | next => obtain ⟨σ', H9, J, q⟩ := q9; exact let_go J fun s' I' => ⟨_, _, I', q⟩
  | brk => obtain ⟨σ', H9, J, q⟩ := q9; exact let_go J fun s' I' => ⟨_, _, I', q⟩
  | cont => obtain ⟨σ', H9, J, q⟩ := q9; exact let_go J fun s' I' => ⟨_, _, I', q⟩
  | ret u => obtain ⟨v, σ', H9, J, r, q⟩ := q9; exact let_go J fun s' I' => ⟨v, _, _, I', r, q⟩
end
def dX (K : Frag) (C : Addr) : Bool := (kitCls K (.ref C) (.ref C) == some true) && gP K C && (clsIn K C).isSome
theorem dX.kit {K : Frag} {x C : Addr} (h : dX K C = true) : KitX K (.ref x) (.ref C) (ExcAt x C) := by
 simp only [dX, Bool.and_eq_true, beq_iff_eq] at h
 exact rS h.1.1 h.1.2 h.2
def pG : Value -> V
 | .ref C => .ref C
 | .type T => .ty T
 | _ => .non
def isC : Value -> Bool
 | .ref _ => true
 | .type _ => true
 | _ => false
theorem lN {c u : Value} (h : isC c = true) (r : RelV (pG c) u) : u = c := by
 match c, h, r with
 | .ref _, _, r => exact r
 | .type _, _, r => exact r
theorem jC : ∀ {cs us : List Value}, cs.all isC = true -> Vals (cs.map pG) us -> us = cs
 | [], _, _, .nil => rfl
 | c :: cs, _, h, .cons r t => by
  simp only [List.all_cons, Bool.and_eq_true] at h
  rw [lN h.1 r, jC h.2 t]
def rT (K : PySem.W.Frag) : List V -> Hp -> VK -> Prop := fun xs H Q => ∃ y o C c b, xs = [.ref y, c] /\ H y = some (.frz o (.own y)) /\ o.cls = .ref C /\ dX K C = true /\
 ((∃ cv, c = pG cv /\ isC cv = true /\ kitOne K (.ref C) cv = some b) \/ (∃ t cs, c = .ref t /\ SqT K H t (cs.map pG) /\ cs.all isC = true /\ kitAny K (.ref C) cs = some b)) /\ Q (.bl b) H
theorem jD {X : Cx} : bW X (.builtin "isinstance") (rT X.K) := by
 rintro pins s σ H xs us Q I r ⟨y, o, C, c, b, e, hy, hc, ok, h, q⟩
 subst e
 obtain ⟨u, w', rfl, rx, rc⟩ := vals2 r
 cases rx
 have at_ : ExcAt y C s.heap := ⟨o, (show bp X.prog X.w H s.heap y (.frz o (.own y)) from I.hok y _ hy).1, hc⟩
 have fin : ∀ tk, EP X pins σ Q (.bool b) { s with toks := tk } := fun tk => ⟨.bl b, H, I.tok tk, rfl, q⟩
 rcases h with ⟨cv, rfl, hi, e⟩ | ⟨t, cs, rfl, hq, hi, e⟩
 ·rw [lN hi rc]
  exact PySem.W.kia_one (dX.kit ok) I.kIn at_ e (fun z => nomatch z) fin
 ·cases rc
  obtain ⟨its, r2, tp, _⟩ := I.tuple hq
  cases jC hi r2
  obtain ⟨o2, h1, h2, n, h3⟩ := tp
  obtain ⟨oc, od, odt, osl⟩ := o2
  simp only at h2 h3
  subst h2; subst h3
  exact PySem.W.kia_tup (dX.kit ok) I.kIn at_ h1 e (fun z => nomatch z) fin
def iM : List Addr -> TA
 | [] => fU
 | c :: r => cQ (tC (.ref c)) (iM r)
theorem lO : ∀ {cs : List Addr} {Q : List V -> Hp -> Prop}, Q (cs.map V.ref) H -> iM cs σ H Q
 | [], _, h => h
 | _ :: cs, _, h => lO (cs := cs) h
theorem rU {X : Cx} : PA X [] (iM []) := dq
theorem nT {X : Cx} {n : Str} {p : Pos} {c : Addr} {es : List Expr} {cs : List Addr} (hm : X.mg n = some (.ref c)) (hr : PA X es (iM cs)) (hg : Gl X n := by rfl) (hd : (n == ("__debug__" : Str)) = false := by decide)
  (hs : starEach (.Name n p :: es) X.env = (false, eval (.Name n p) X.env) :: starEach es X.env := by rfl) : PA X (.Name n p :: es) (iM (c :: cs)) := bR (cy hg hm rfl hd) hr hs
end L2
namespace VL
open PySem L2 PySem.W
section
variable {K : PySem.W.Frag} {X : Cx} {m : Bool} {i : Nat} {en cn : Str} {p1 p2 p3 p4 pos : Pos} {es : List Expr} {cs : List Addr} {c : Value}
theorem Cq {H0 H : Hp} {C : Addr} (k : OK K H0 Z σ H S) (h : S[i]? = some (.val (.exc (.ref C)))) : ∃ y o, σ[i]? = some (some (.ref y)) /\ H y = some (.frz o (.own y)) /\ o.cls = .ref C := by
 obtain ⟨o, e, v, rfl, r⟩ := k.ownAt h
 cases r with | exc n hh hc => exact ⟨_, _, e, hh, hc⟩
def xl (K : Frag) (i : Nat) (c : Value) : VT := fun S Q => ∃ C b, S[i]? = some (.val (.exc (.ref C))) /\ dX K C = true /\ kitOne K (.ref C) c = some b /\ Q (.d (.bl b)) S
theorem nU (hK : X.K = K) (hc : isC c = true) (hcn : PE X (.Name cn p3) (tC (pG c))) (hi : X.N[i]? = some en) (hv : Vis X.env.scope en) (hg : Gl X "isinstance") (hm : X.mg "isinstance" = none) (hd : (en == ("__debug__" : Str)) = false := by decide) (hcd : (en == ("__classdict__" : Str)) = false := by decide)
  (he : starEach [.Name en p2, .Name cn p3] X.env = [(false, eval (.Name en p2) X.env), (false, eval (.Name cn p3) X.env)] := by rfl) :
  VE K X m (.Call (.Name "isinstance" p1) [.Name en p2, .Name cn p3] [] pos) (tCB (rT K) (cQ (di i) (cQ (tC (pG c)) fU))) (xl K i c) :=
 ⟨by subst hK; exact fw jD hg hm aL (bR (mf hi hv hd hcd) (bR hcn dq)), fun H0 Z σ H S Q C k t hcc => by
  obtain ⟨C0, b, h1, h2, h3, q⟩ := t
  obtain ⟨y, o, e1, e2, e3⟩ := Cq k h1
  exact ⟨_, e1, y, o, C0, _, b, rfl, e2, e3, h2, .inl ⟨c, rfl, hc, h3⟩, hcc _ _ (.d (.bl b)) S k .refl (Rep.bl b) q⟩⟩
def xm (K : Frag) (i : Nat) (cs : List Addr) : VT := fun S Q => ∃ C b, S[i]? = some (.val (.exc (.ref C))) /\ dX K C = true /\ kitAny K (.ref C) (cs.map Value.ref) = some b /\ Q (.d (.bl b)) S
theorem uX {x1} (hK : X.K = K) (hcs : PA X es (iM cs)) (hz : cs.length < 100) (hi : X.N[i]? = some en) (hv : Vis X.env.scope en) (hg : Gl X "isinstance") (hm : X.mg "isinstance" = none) (hd : (en == ("__debug__" : Str)) = false := by decide) (hcd : (en == ("__classdict__" : Str)) = false := by decide)
  (he : starEach [.Name en p2, .Tuple es x1 p3] X.env = [(false, eval (.Name en p2) X.env), (false, eval (.Tuple es x1 p3) X.env)] := by rfl) :
  VE K X m (.Call (.Name "isinstance" p1) [.Name en p2, .Tuple es x1 p3] [] pos) (tCB (rT K) (cQ (di i) (cQ (yd (iM cs)) fU))) (xm K i cs) :=
 ⟨by subst hK; exact fw jD hg hm aL (bR (mf hi hv hd hcd) (bR (qk hcs) dq)), fun H0 Z σ H S Q C k t hcc => by
  obtain ⟨C0, b, h1, h2, h3, q⟩ := t
  obtain ⟨y, o, e1, e2, e3⟩ := Cq k h1
  refine ⟨_, e1, lO ⟨by rw [List.length_map, sizeLine_eq]; lia, fun p hp => ?_⟩⟩
  have g := ba (o := .tup (cs.map V.ref)) hp
  refine ⟨y, o, C0, _, b, rfl, by rw [g y (by rw [e2]; simp)]; exact e2, e3, h2, .inr ⟨p, cs.map Value.ref, rfl, .inl (.inl ?_), by simp [isC], h3⟩, hcc _ _ (.d (.bl b)) S (k.grow g) (.grow g) (Rep.bl b) q⟩
  rw [aD, List.map_map]
  rfl⟩
end
end VL
namespace VL
open PySem L2 PySem.W
def spX (K : PySem.W.Frag) (bad : List D -> Addr -> Prop) : Sp := fun vs H _ E => ∃ ds C, Reps K Any AnyF H vs ds /\ bad ds C /\ ∀ H', (∀ a, H a ≠ none -> H' a = H a) -> E (.ref C) none H'
def uY (P : Program) (w : World) (K : PySem.W.Frag) (mg : Str -> Option Value) (base : Heap) (k : Nat) (x : Str) (ps : List Str) (bad : List D -> Addr -> Prop) : Prop :=
 ∃ (f : Addr) (fd : FuncData), gC P w K mg base (CX1 P w) k f fd ps (spX K bad) /\ mg x = some (.ref f) /\ PySem.W.keepIn K (.ref f) = true /\ Binds K fd ps []
def Fz (Hin : Hp) (Z : AP) (σ : St) (S : List Sl) (H : Hp) : Prop := ∀ a, Hin a ≠ none -> H a = Hin a /\ NM Z σ S a
theorem Fz.step {Hin H H' : Hp} {σ σ' : St} {S S' : List Sl} (f : Fz Hin Z σ S H) (st : Step Z σ S H σ' S' H') : Fz Hin Z σ' S' H' := fun a e => by
 obtain ⟨e1, n⟩ := f a e
 obtain ⟨e2, n2⟩ := st.1 a n (by rw [e1]; exact e)
 exact ⟨e2.trans e1, n2⟩
structure VXs (K : PySem.W.Frag) (X : Cx) (Hin : Hp) (E : XK) (sts : List Stmt) (ts : TS) (t : (Addr -> Prop) -> List Sl -> Prop) : Prop where
 ps : PSs X sts ts
 snd : ∀ Wc : Addr -> Prop, (∀ C, Wc C -> ∀ H', (∀ a, Hin a ≠ none -> H' a = Hin a) -> E (.ref C) none H') -> ∀ H0 Z σ H S D, OK K H0 Z σ H S -> Fz Hin Z σ S H -> t Wc S -> ts D σ H
section
variable {K : PySem.W.Frag} {X : Cx} {Hin : Hp} {E : XK} {sts rest A : List Stmt} {st : Stmt} {ts us : TS} {t u : (Addr -> Prop) -> List Sl -> Prop} {v : VTS} {pos : Pos}
theorem rV : VXs K X Hin E sts jM (fun _ _ => False) := ⟨oQ, fun _ _ _ _ _ _ _ _ _ _ h => h.elim⟩
theorem rW {C : Addr} {bmB : List Value} {B newId initId : String} {x z : Str} {j : Nat} {np p cpos pos : Pos} (T : fJ X Hin E) (FB : ExcBaseFacts B newId initId bmB) (ec : excIn X.K C bmB newId = true) (hm : X.mg x = some (.ref C)) (hc : X.calm = true) (hg : Gl X x := by rfl) (hd : (x == ("__debug__" : Str)) = false := by decide)
  (he : starEach [.Constant (.str z) j p] X.env = [(false, eval (.Constant (.str z) j p) X.env)] := by rfl) :
  VXs K X Hin E [.Raise (some (.Call (.Name x np) [.Constant (.str z) j p] [] cpos)) none pos] (rQ Hin E C) (fun Wc _ => Wc C) :=
 ⟨jL (rR T FB ec hm hc hg hd he), fun Wc hE H0 Z σ H S D k f h => ⟨fun b e => (f b e).1, hE C h H fun b e => (f b e).1⟩⟩
theorem iN (h1 : VS K X st ts v) (h2 : VXs K X Hin E rest us u) : VXs K X Hin E (st :: rest) (gW ts us) (fun Wc S => v { nx := u Wc, rt := fun _ _ => False } S) :=
 ⟨cA h1.ps h2.ps, fun Wc hE H0 Z σ H S D k f h => h1.snd H0 Z σ H S _ _ k h ⟨fun σ' H' S' k' st q => h2.snd Wc hE H0 Z σ' H' S' D k' (f.step st) q, fun _ _ _ _ _ q => q.elim, fun _ _ _ _ _ q => q.elim, fun _ _ _ _ _ _ _ _ q => q.elim⟩⟩
theorem Cr {c : Expr} {tc : TT} {wc : VTT} (hc : VTe K X c tc wc) (ha : VXs K X Hin E A ts t) (hr : VXs K X Hin E rest us u) : VXs K X Hin E (.If c A [] pos :: rest) (gW (kM tc ts d8) us) (fun Wc S => wc S fun b S1 => if b = true then t Wc S1 else u Wc S1) :=
 ⟨cA (m4 hc.pe ha.ps eJ) hr.ps, fun Wc hE H0 Z σ H S D k f h => hc.snd H0 Z σ H S _ _ k h fun b H1 S1 k1 st1 q => by
  cases b with
  | true => rw [if_pos rfl] at q ⊢; exact ha.snd Wc hE H0 Z σ H1 S1 _ k1 (f.step st1) q
  | false => rw [if_neg Bool.false_ne_true] at q ⊢; exact hr.snd Wc hE H0 Z σ H1 S1 D k1 (f.step st1) q⟩
theorem Cs {P : Program} {w : World} {mg : Str -> Option Value} {base : Heap} {x : Str} {st : Stmt} {N ps : List Str} {k : Nat} {bad : List D -> Addr -> Prop} (S : Src K mg x st) (sc : aK N ps (aj st))
  (hb : ∀ (kV doc pm : Value) (an : Option Addr) (cdv ct : Value) (us : List Value), us.length = ps.length -> bindArgs (PySem.W.fnOf x x (cz st) (bu st) (aj st) .none kV doc pm an cdv ct) ⟨us, []⟩ = pure (ps.zip us))
  (len : ∀ ds C, bad ds C -> ds.length = ps.length)
  (hbody : ∀ (f : Addr) (cdv : Value) (A : Around) (outer : List Env) (s : Shared) (H : Hp) (E : XK), cj k (A.deeper (PyProof.Rows.envOfC x (aj st) s.heap.objs.size f cdv)) -> fJ (gE (CX1 P w) P w K mg base N x (aj st) f cdv A outer s H E) H E ->
   ∃ ts t, VXs K (gE (CX1 P w) P w K mg base N x (aj st) f cdv A outer s H E) H E (bu st) ts t /\ ∀ ds C, bad ds C -> t (· = C) (slots N.length ds)) : uY P w K mg base (k + 1) x ps bad := by
 obtain ⟨f, fd, F, hm⟩ := S
 obtain ⟨oc, od, kV, doc, pm, an, cdv, ct, osl, rfl, lk, hcd⟩ := F.ex
 refine ⟨f, _, wH lk hcd sc (fun vs H Q E zq1 => by obtain ⟨ds, C, r, h, _⟩ := zq1; rw [r.length]; exact len ds C h) fun A outer s H vs Q E hr ⟨ds, C, r, h, fin⟩ => ?_, hm, F.kp, F.binds hb⟩
 obtain ⟨ts, t, vx, q⟩ := hbody f cdv A outer s H E hr pF
 refine ⟨ts, vx.ps, vx.snd (· = C) (fun C' e H' g => by subst e; exact fin H' g) H _ _ H _ _ (lC (N := N) r) (fun a e => ⟨rfl, ?_⟩) (q ds C h)⟩
 rintro (⟨j, s, g1, g2, _⟩ | z)
 ·rw [cE g1] at g2; cases g2
 ·exact z
end
end VL
namespace VL
open PySem L2 PySem.W
section
variable {K : PySem.W.Frag} {H H0 : Hp} {Z : AP} {σ : St} {S : List Sl} {i : Nat}
theorem OK.letGo (k : OK K H0 Z σ H S) (hi : i < S.length) : OK K H0 Z (σ.set i none) H (S.set i .no) /\ Step Z σ S H (σ.set i none) (S.set i .no) H := by
 have n : ∀ a, NM Z σ S a -> NM Z (σ.set i none) (S.set i .no) a := fun a x z => by
  rcases ir z with z | ⟨z, _⟩
  ·exact x z
  ·cases z
 exact ⟨k.put hi (fun a x _ => ⟨n a x, rfl⟩) (fun _ _ _ _ _ _ _ => rfl) trivial (fun _ _ _ _ _ _ z => nomatch z) (fun _ e => e) k.zl (fun _ z => nomatch z), fun a x _ => ⟨rfl, n a x⟩, fun _ e => e, fun _ _ _ => rfl⟩
theorem NP.letGo {a : Addr} (h : NP σ S a) : NP (σ.set i none) (S.set i .no) a := fun j ad ns g1 g2 => by
 by_cases hj : i = j
 ·subst hj
  by_cases hl : i < S.length
  ·rw [List.getElem?_set_self hl] at g1; cases g1
  ·rw [List.getElem?_eq_none (by simpa using hl)] at g1; cases g1
 ·rw [List.getElem?_set_ne hj] at g1 g2
  exact h j ad ns g1 g2
def unV (V : bM) (i : Nat) : bM := { nx := fun S => i < S.length /\ V.nx (S.set i .no), rt := fun d S => i < S.length /\ V.rt d (S.set i .no), bk := fun S => i < S.length /\ V.bk (S.set i .no), ct := fun S => i < S.length /\ V.ct (S.set i .no) }
theorem Lf.letGo {V : bM} {E : Ends} (l : Lf K H0 Z σ S H V E) : Lf K H0 Z σ S H (unV V i) (unE E i) where
 nx := fun σ' H' S' k st zt1 => by obtain ⟨hi, q⟩ := zt1; exact l.nx _ _ _ (k.letGo hi).1 (st.trans (k.letGo hi).2) q
 bk := fun σ' H' S' k st zt1 => by obtain ⟨hi, q⟩ := zt1; exact l.bk _ _ _ (k.letGo hi).1 (st.trans (k.letGo hi).2) q
 ct := fun σ' H' S' k st zt1 => by obtain ⟨hi, q⟩ := zt1; exact l.ct _ _ _ (k.letGo hi).1 (st.trans (k.letGo hi).2) q
 rt := fun v d σ' H' S' k st r zt1 => by obtain ⟨hi, q⟩ := zt1; exact l.rt v d _ _ _ (k.letGo hi).1 (st.trans (k.letGo hi).2) (r.mono (fun a n _ => ⟨NP.letGo n, rfl⟩) fun _ x => x) q
end
section
variable {K : PySem.W.Frag} {X : Cx} {k j i : Nat} {CB : Addr} {ps : List Str} {bad : List D -> Addr -> Prop} {e0 : Expr} {es : List Expr} {tr : TA} {vr : VTA} {x cb en : Str} {b0 : Stmt} {suite : List Stmt} {th : TS} {vh : VTS} {p pos pe np hp tp : Pos}
def Ct (K : Frag) (CB : Addr) (bad : List D -> Addr -> Prop) (vr : VTA) (i : Nat) (vh : VTS) : VTS := fun V S => vr S fun rs S1 => i < S1.length /\ ∃ ds C, gets S1 rs = some ds /\ bad ds C /\ exmOne K (.ref C) (.ref CB) = some true /\ vh (unV V i) (S1.set i (.val (.exc (.ref C))))
theorem zG (F : uY X.prog X.w X.K X.mg X.base k x ps bad) (hK : X.K = K) (hr : cj j X.A) (ha : VA K X false (e0 :: es) tr vr) (hcb : X.mg cb = some (.ref CB)) (hs : ∀ y, VSs K (X.caught y) (b0 :: suite) th vh) (hxe : ∀ e s, ¬X.xe e s) (hex0 : X.ex = [])
  (hst : X.stack = X.env :: X.outer) (hfr : X.env.frame = some X.env.locals) (hN : X.N.Nodup) (hi : X.N[i]? = some en) (hloc : X.env.scope.names.lookup en = some .local) (hk : k <= j := by decide)
  (hg : Gl X x := by rfl) (hgc : Gl X cb := by rfl) (hd : (x == ("__debug__" : Str)) = false := by decide) (hdc : (cb == ("__debug__" : Str)) = false := by decide) (he : starEach (e0 :: es) X.env = (false, eval e0 X.env) :: starEach es X.env := by rfl) (hpl : (backTo pos (starEach es X.env)).any (·.1) = false := by rfl)
  (hsw : swapsWith (.Call (.Name x p) (e0 :: es) [] pos) none pe.line X.env = pure false := by rfl) :
  VS K X (.Try [.Expr (.Call (.Name x p) (e0 :: es) [] pos) pe] [.ExceptHandler (some (.Name cb np)) (some en) (b0 :: suite) hp] [] [] tp) (Cp K CB (spX K bad) tr i th) (Ct K CB bad vr i vh) := by
 subst hK
 obtain ⟨f, fd, F, hm, kp, hb⟩ := F
 refine ⟨zF F (hr.mono hk) hm kp hb ha.pe hcb (fun y => (hs y).ps) hxe hex0 hst hfr hN hi hloc hg hgc hd hdc he hpl hsw, fun H0 Z σ H S V D k t l => ?_⟩
 refine ha.snd H0 Z σ H S _ _ k t fun vs H1 rs S1 k1 st1 rrs ⟨hl, ds, C, e, hbd, hex, q⟩ => ⟨ds, C, rrs.gets k1 e, hbd, fun H' g => ⟨C, rfl, hex, fun y o hy hc => ?_⟩⟩
 have g2 := ba (o := .frz o (.own y)) hy
 have k2 := (k1.grow g).grow g2
 have st2 : Step Z σ S H σ S1 (upd H' y (.frz o (.own y))) := (st1.trans (.grow g)).trans (.grow g2)
 obtain ⟨k3, st3⟩ := k2.setVal hl (Rep.exc (c := .ref C) ((k1.grow g).nm hy) aD hc)
 exact (hs 0).snd H0 Z _ _ _ _ _ k3 q ((l.step (st2.trans st3)).letGo)
end
end VL
end
section
namespace VL
open PySem L2 PySem.W
section
variable {K : PySem.W.Frag} {X : Cx} {m : Bool} {e c : Expr} {te : TE} {va : VT} {pos : Pos} {i : Nat} {tc : TT} {wc : VTT} {t : TS} {v : VTS} {body : List Stmt}
def zH (wc : VTT) (vb : VTS) : VTS := fun V S => ∃ Iv : Nat -> List Sl -> Prop, (∃ n, Iv n S) /\ ∀ n S, Iv n S -> wc S fun b S1 => if b = true then vb { nx := fun S2 => ∃ n', n' < n /\ Iv n' S2, ct := fun S2 => ∃ n', n' < n /\ Iv n' S2, bk := V.nx, rt := V.rt } S1 else V.nx S1
theorem rX (hp : PassesOwn (model X.prog X.w) X.A X.env X.xe) (hc : VTe K X c tc wc) (hb : VSs K X body t v) : VS K X (.While c body [] pos) (qa tc t) (zH wc v) :=
 ⟨qb hp hc.pe hb.ps, fun H0 Z σ H S V E k zq1 l => by
  obtain ⟨Iv, ⟨n0, i0⟩, h⟩ := zq1
  refine ⟨fun n σ' H' => ∃ S', OK K H0 Z σ' H' S' /\ Step Z σ S H σ' S' H' /\ Iv n S', ⟨n0, S, k, .refl, i0⟩, ?_⟩
  rintro n σ1 H1 ⟨S1, k1, st1, i1⟩
  refine hc.snd H0 Z σ1 H1 S1 _ _ k1 (h n S1 i1) fun b H2 S2 k2 st2 q => ?_
  cases b with
  | false => rw [if_neg Bool.false_ne_true] at q ⊢; exact l.nx _ _ _ k2 (st1.trans st2) q
  | true =>
   rw [if_pos rfl] at q ⊢
   refine ⟨fun σ' H' => ∃ n', n' < n /\ ∃ S', OK K H0 Z σ' H' S' /\ Step Z σ S H σ' S' H' /\ Iv n' S', fun σ' H' zt1 => by obtain ⟨n', hn, z⟩ := zt1; exact ⟨n', hn, z⟩, ?_⟩
   have st := st1.trans st2
   exact hb.snd H0 Z σ1 H2 S2 _ _ k2 q ⟨fun σ' H' S' k' s' zt1 => by obtain ⟨n', hn, q'⟩ := zt1; exact ⟨n', hn, S', k', st.trans s', q'⟩, fun σ' H' S' k' s' q' => l.nx _ _ _ k' (st.trans s') q', fun σ' H' S' k' s' zt1 => by obtain ⟨n', hn, q'⟩ := zt1; exact ⟨n', hn, S', k', st.trans s', q'⟩, fun v d σ' H' S' k' s' r q' => l.rt v d _ _ _ k' (st.trans s') r q'⟩⟩
end
end VL
namespace VL
open PySem L2 PySem.W
section
variable {i : Nat} {va : VT} {vr : VTA} {S : List Sl} {Q : VR -> List Sl -> Prop} {q : D -> Prop}
theorem rY {K : Frag} {c : Value} {C : Addr} {b : Bool} (e : S[i]? = some (.val (.exc (.ref C)))) (ok : dX K C = true) (hk : kitOne K (.ref C) c = some b) (h : Q (.d (.bl b)) S) : xl K i c S Q := ⟨C, b, e, ok, hk, h⟩
theorem zI {K : Frag} {cs : List Addr} {C : Addr} {b : Bool} (e : S[i]? = some (.val (.exc (.ref C)))) (ok : dX K C = true) (hk : kitAny K (.ref C) (cs.map Value.ref) = some b) (h : Q (.d (.bl b)) S) : xm K i cs S Q := ⟨C, b, e, ok, hk, h⟩
end
end VL
end
section
namespace L2
open PySem PySem.Spec PyProof.Rows PySem.W
section
variable {X : Cx}
theorem DctP.at {D : Addr} {h h' : Heap} (d : DctP D es h) (e : h'.get? D = h.get? D) : DctP D es h' :=
 let ⟨z, m, nd, xs, ev, o, ds, ep, q, r⟩ := d; ⟨z, m, nd, xs, ev, o, ds, ep, e.trans q, r⟩
theorem DctP.nocell {D : Addr} {h : Heap} {o : Obj} (d : DctP D es h) (e : h.get? D = some o) : ∀ v, o.data ≠ .cell v := fun v z => by
 obtain ⟨_, _, _, _, _, o', ds, ep, q, _, hd, _⟩ := d
 rw [e] at q; cases q
 rw [hd] at z; cases z
theorem uZ {D : Addr} {h : Heap} (e : h.get? D = some { cls := .type "dict", data := .dict #[] }) (hb : sysModules < D) : DctP D [] h :=
 ⟨Nat.zero_le _, beq_eq_false_iff_ne.mpr (Ne.symm (Nat.ne_of_lt hb)), List.nodup_nil, [], .nil, _, #[], 0, e, ⟨rfl, rfl, rfl⟩, rfl, rfl⟩
theorem u0 {s : Shared} {a : Addr} (I : Inv X pins σ H s) (d : DctP a es s.heap) (k : fi X.K H es) : es.length <= sizeLine /\ (a == sysModules) = false /\ (es.map (·.1)).Nodup /\
  ∃ xs, EV es xs /\ s.heap.DictOfH (tupleKind (intKind X.prog X.w)) a xs := by
 obtain ⟨z, m, nd, xs, ev, o, ds, ep, h1, h2, h3, h4⟩ := d
 refine ⟨z, m, nd, xs, ev, o, ds, ep, h1, h2, h3, h4, fun x hx => ?_, ev.keys ▸ nd⟩
 obtain ⟨e, he, e1, e2⟩ := ev.mem x hx
 exact e1 ▸ e2 ▸ kj I (k e he)
def rZ (K : PySem.W.Frag) (wi : TI) (n : Nat) (ix : List Nat) (g : TG) (tc : TT) (tk tv : TE) : TE := fun σ H Q => wi σ H fun J H1 => ∃ W : Nat -> Nat -> List (List Int × Addr × V) -> Hp -> Prop, (∃ m, W 0 m [] H1) /\ ∀ i m es H2, W i m es H2 ->
 (J.stop i H2 /\ ∀ D ob, H2 D = none -> Q (.ref D) (upd H2 D (gG D ob es))) \/
 (J.go i H2 /\ es.length < sizeLine /\ ∃ Nx : List (List Int × Addr × V) -> Hp -> Prop, (∀ es' H', Nx es' H' -> ∃ m', m' < m /\ W (i + 1) m' es' H') /\
  ∀ x H3, J.yld i H2 x H3 -> g x (capt n ix σ) H3 fun σ2 H4 => tc σ2 H4 fun b H5 => if b = true then tk σ2 H5 fun y H6 => tv σ2 H6 fun v H7 => ∃ b ms, y = .ref b /\ SqT K H7 b (ms.map V.int) /\ fi K H7 es /\ Nx (jc es ms b v) H7 else Nx es H5)
theorem sd {kx vx target iter : Expr} {ifs : List Expr} {scope : Scope} {pos : Pos} {tg cs : List Str} {wi : TI} {g : TG} {tc : TT} {tk tv : TE} (hu : X.A.units + 64 < cLine) (S : aV X scope tg cs ix) (hcalm : X.calm = true) (kg : bO tg.length ix g)
    (hi : PI X target iter wi) (hg : ∀ C fp s H, PG (ak X scope (tg ++ cs) C fp s H) target g) (hc : ∀ C fp s H, PTs (ak X scope (tg ++ cs) C fp s H) ifs tc) (hk : ∀ C fp s H, PE (ak X scope (tg ++ cs) C fp s H) kx tk) (hv : ∀ C fp s H, PE (ak X scope (tg ++ cs) C fp s H) vx tv)
    (hs : ∀ x, foldedSetIterable iter X.env x = pure x := by intro _; rfl) : PE X (.DictComp kx vx [⟨target, iter, ifs, 0⟩] scope pos) (rZ X.K wi tg.length ix g tc tk tv) := by
  intro pins s σ H Q I h
  rw [arm_eval_DictComp]
  refine wpAny_comprehension_free (use := none) (cl := bg X.env scope.names []) rfl hs (cS fun n hn => I.ok.has n (S.out n hn)) S.kind S.names ?_
  refine wpAny_mono (hi pins s σ H _ I h) (fun v s1 h1 => wpAny_mono h1 (fun itv s2 h2 => ?_) fun _ _ e => e) fun _ _ e => e
  obtain ⟨it, fp, tn, J, H2, rfl, I2, T, st2, f2, W, ⟨m0, w0⟩, turn⟩ := h2
  refine wpAny_newObj_type (wpAny_newFunctionEnv S.nocell (by intro y hy; simp at hy) (fun h1 hns1 hsb1 => ?_) S.kind)
  dsimp only at hns1 hsb1 ⊢
  generalize hP : s2.heap.push { cls := .type "dict", dict := none, data := .dict #[] } = P2 at hns1 hsb1 ⊢
  have hCs : P2.objs.size = s2.heap.objs.size + 1 := by rw [<- hP, Heap.size_push]
  have hDC : s2.heap.objs.size ≠ P2.objs.size := by rw [hCs]; exact Nat.ne_of_lt (Nat.lt_succ_self _)
  have hCle : s2.heap.objs.size <= P2.objs.size := by rw [hCs]; exact Nat.le_succ _
  generalize hCg : P2.objs.size = C at *
  have old : ∀ b o, s2.heap.get? b = some o -> h1.get? b = some o := fun b o e => hsb1.extBut b o (Nat.ne_of_lt (Nat.lt_of_lt_of_le (Heap.lt_size e) hCle)) (Heap.get?_push_of_some _ (hP ▸ Heap.get?_push_of_some _ e))
  generalize hDg : s2.heap.objs.size = D at *
  have hD0 : h1.get? D = some { cls := .type "dict", data := .dict #[] } := hsb1.extBut _ _ hDC (Heap.get?_push_of_some _ (hP ▸ hDg ▸ Heap.get?_push_size _ rfl))
  have nC : H2 C = none := I2.hok.fresh (by rw [hDg]; exact hCle)
  have nD : H2 D = none := I2.hok.fresh (by rw [hDg]; exact Nat.le_refl _)
  have fo : ∀ b ∈ fp, ∃ o, s2.heap.get? b = some o := fun b hb => let ⟨o, e, _⟩ := T.obj _ _ st2 b hb; ⟨o, e⟩
  have Dfp : D ∉ fp := fun z => by
    obtain ⟨o, e⟩ := fo D z
    have := Heap.lt_size e
    rw [hDg] at this
    exact absurd this (Nat.lt_irrefl _)
  have Dfs : D ∉ frs X.stack := fun z => by
    rcases List.mem_cons.mp (I2.stkSub D z) with e | e
    · have := I2.lt
      rw [<- e, hDg] at this
      exact absurd this (Nat.lt_irrefl _)
    · exact I2.nofs (by rw [hDg]; exact Nat.le_refl _) e
  have DcY : ∀ x c, (bg X.env scope.names []).lookup x = some c -> c ≠ D := fun x c e => by
    rcases cB (PySem.mem_of_lookup e) with h | h
    · cases h
    · exact (I2.fpOk (H' := H2) (b := D) (by rw [hDg]; exact Nat.le_refl _) nD).2.2.2.2.1 x c h
  -- the block's context
  have Yok : ∀ s4 : Shared, s4 = { s2 with heap := h1, toks := s2.toks + ([] : List (Str × Value)).length } -> Inv (ak X scope (tg ++ cs) C fp s2 H2) [] (capt tg.length ix σ) H2 s4 := by
    rintro s4 rfl
    exact fy S I2 f2 fo (by rw [hDg]; exact hCle) old (by simpa using hns1) rfl I2.bare nC
  -- the loop
  have loop : ∀ s4 : Shared, s4 = { s2 with heap := h1, toks := s2.toks + ([] : List (Str × Value)).length } ->
      codeAny (model X.prog X.w) X.A (.compLoop (.DictComp kx vx [⟨target, iter, ifs, 0⟩] scope pos) 0 (.ref it) (.ref D) (compEnvC scope (bg X.env scope.names []) C X.env)) (compPost (model X.prog X.w) X.A X.xe none (EP X pins σ Q) (.ref D) C) s4 := by
    intro s4 e4
    refine codeAny_loop rfl (fun n s' => ∃ i es o H', Inv (ak X scope (tg ++ cs) C fp s2 H2) [] (capt tg.length ix σ) H' s' /\ tn i s'.heap /\ (∀ b ∈ fp, H' b = none) /\ H' D = none /\ s'.heap.get? D = some o /\ DctP D es s'.heap /\ W i n es H')
      ?_ m0 ⟨0, [], _, H2, Yok s4 e4, ?_, fun b hb => (f2 b hb).1, nD, by rw [e4]; exact hD0, uZ (by rw [e4]; exact hD0) (by rw [<- hDg]; exact zz I2), w0⟩
    · rintro n s5 ⟨i, es, o, H5, I5, st5, fr5, d5, o5, v5, w5⟩
      show wpAny _ X.A ((compTurn (.DictComp kx vx [⟨target, iter, ifs, 0⟩] scope pos) 0 (.ref it) (.ref D) (compEnvC scope (bg X.env scope.names []) C X.env)).onRaise (fun x => do noteFrame x (compEnvC scope (bg X.env scope.names []) C X.env); theTreesLotGoes x)) _ _ s5
      refine wpAny_noted ?_
      rw [compTurn_dict]
      have pin0 : Inv (ak X scope (tg ++ cs) C fp s2 H2) [(D, o)] (capt tg.length ix σ) H5 s5 := I5.pins_of fun p hp => by
        have e : p = (D, o) := by simpa using hp
        subst e
        exact ⟨o5, d5, hDC, Dfs, v5.nocell o5⟩
      have fpY : ∀ {H' : Hp}, (∀ b ∈ fp, H' b = none) -> ∀ b ∈ fp, dY (ak X scope (tg ++ cs) C fp s2 H2) [(D, o)] H' b := fun hn b hb =>
        ⟨hn b hb, (I5.ok.exf b hb).1, fun z => I5.ok.exfs b hb z, .inl hb, (I5.ok.exf b hb).2, fun p hp z => by
          have hp : p ∈ ([] : List (Addr × Obj)) ++ [(D, o)] := hp
          have e : p = (D, o) := by simpa using hp
          subst e
          have z : D = b := z
          exact Dfp (z ▸ hb)⟩
      refine wpAny_bind (wpAny_standAt (wpAny_bind ?_))
      rcases turn i n es H5 w5 with ⟨stop, qn⟩ | ⟨go, hz, Nx, hN, step⟩
      · refine thn (T.done (ak X scope (tg ++ cs) C fp s2 H2) rfl rfl rfl hcalm i _ s5 _ H5 _ pin0 (fpY fr5) st5 stop) fun r s6 zr1 => ?_
        obtain ⟨hr, I6⟩ := zr1
        subst hr
        refine wpAny_pure ?_
        obtain ⟨mC, hnsC, _⟩ := id I6.loc
        refine ⟨mC, hnsC, fun h' sb => ?_⟩
        have IX : Inv X pins σ H5 s6 := I2.call' (ch := fp) I6.os I6.base I6.hok I6.bare fun b hb => let ⟨_, a1, _, a3, a4, a5⟩ := f2 b hb; ⟨a3, a1, a4, a5⟩
        obtain ⟨_, c1, _, c3, c4, c5⟩ := I2.fpOk (H' := H5) (b := C) (by rw [hDg]; exact hCle) I6.free
        have IX2 : Inv X pins σ H5 { s6 with heap := h' } := IX.turned (t' := s6.toks) (fun b o hb e => (sb.2 b hb).trans e) I6.free c1 c3 c4 c5
        obtain ⟨_, b1, _, b3, b4, b5⟩ := I2.fpOk (H' := H5) (b := D) (by rw [hDg]; exact Nat.le_refl _) d5
        have gD : h'.get? D = some o := (sb.2 D hDC).trans (I6.pin (D, o) (List.mem_append_right _ List.mem_cons_self)).1
        exact ⟨.ref D, upd H5 D (gG D o es), IX2.track d5 (by rw [<- hDg]; exact I2.sz) b1 b4 b5 ((v5.at (gD.trans o5.symm)).ok gD), rfl, qn D o d5⟩
      · refine thn (T.item (ak X scope (tg ++ cs) C fp s2 H2) rfl rfl rfl hcalm i _ s5 _ H5 _ pin0 (fpY fr5) st5 go) fun r s6 zr1 => ?_
        obtain ⟨u, hr, h6⟩ := zr1
        subst hr
        refine wpAny_bind (thn h6 fun _ s7 zr1 => ?_)
        obtain ⟨x, H7, I7, r7, y7, st7, fr7⟩ := zr1
        have I7' := I7.pinned (fpY fr7) (T.obj _ _ st7)
        -- the next turn
        have again : ∀ {σ2 : St} {H8 : Hp} {s8 : Shared} {es' : List (List Int × Addr × V)} {o' : Obj}, Inv (ak X scope (tg ++ cs) C fp s2 H2) [] σ2 H8 s8 -> (σ2.length = (capt tg.length ix σ).length /\ ∀ (i : Nat) (v : V), (capt tg.length ix σ)[i]? = some (some v) -> σ2[i]? = some (some v)) ->
            (∀ b ∈ fp, ∀ o, s7.heap.get? b = some o -> s8.heap.get? b = some o) -> (∀ b ∈ fp, H8 b = none) -> H8 D = none -> s8.heap.get? D = some o' -> DctP D es' s8.heap -> Nx es' H8 ->
            ∃ m, m < n /\ ∃ i es o H', Inv (ak X scope (tg ++ cs) C fp s2 H2) [] (capt tg.length ix σ) H' s8 /\ tn i s8.heap /\ (∀ b ∈ fp, H' b = none) /\ H' D = none /\ s8.heap.get? D = some o /\ DctP D es s8.heap /\ W i m es H' := by
          intro σ2 H8 s8 es' o' I8 kp fk fn dn dg vv nx
          obtain ⟨m', hm, w8⟩ := hN es' H8 nx
          exact ⟨m', hm, i + 1, es', o', H8, I8.weak kp.1.symm kp.2, T.keep _ _ _ st7 fk, fn, dn, dg, vv, w8⟩
        refine wpAny_bind (wpAny_mono (hg C fp s2 H2 _ s7 _ H7 x u _ I7' r7 (kg x σ H7 _ (step x H7 y7))) (fun _ s8 zr1 => ?_) fun _ _ z => z.elim)
        obtain ⟨σ8, H8, I8, kp8, q8⟩ := zr1
        refine wpAny_bind (wpAny_mono (hc C fp s2 H2 _ s8 σ8 H8 _ I8 q8) (fun ok s9 zr1 => ?_) fun _ _ z => z.elim)
        obtain ⟨H9, I9, q9⟩ := zr1
        have pinsOf : ∀ {σ' : St} {H' : Hp} {s' : Shared}, Inv (ak X scope (tg ++ cs) C fp s2 H2) ([(D, o)] ++ b6 fp s7.heap) σ' H' s' ->
            (∀ b ∈ fp, ∀ o, s7.heap.get? b = some o -> s'.heap.get? b = some o) /\ (∀ b ∈ fp, H' b = none) /\ H' D = none /\ s'.heap.get? D = some o := by
          intro σ' H' s' I'
          refine ⟨fun b hb o e => (I'.pin (b, o) (List.mem_append_right _ (List.mem_append_right _ (aQ hb e)))).1, fun b hb => ?_, (I'.pin (D, o) (List.mem_append_right _ (List.mem_append_left _ List.mem_cons_self))).2.1, (I'.pin (D, o) (List.mem_append_right _ (List.mem_append_left _ List.mem_cons_self))).1⟩
          obtain ⟨o, e, d⟩ := T.obj _ _ st7 b hb
          exact (I'.pin (b, o) (List.mem_append_right _ (List.mem_append_right _ (aQ hb e)))).2.1
        cases ok with
        | false =>
          obtain ⟨p1, p2, p3, p4⟩ := pinsOf I9
          exact wpAny_pure ⟨rfl, again (I9.pins_of fun p hp => nomatch hp) kp8 p1 p2 p3 p4 (v5.at (p4.trans o5.symm)) q9⟩
        | true =>
          have q9 : tk σ8 H9 fun y H6 => tv σ8 H6 fun v H7 => ∃ b ms, y = .ref b /\ SqT X.K H7 b (ms.map V.int) /\ fi X.K H7 es /\ Nx (jc es ms b v) H7 := q9
          refine wpAny_bind (wpAny_bind (wpAny_mono (hk C fp s2 H2 _ s9 σ8 H9 _ I9 q9) (fun kv s10 zr1 => ?_) fun _ _ z => z.elim))
          obtain ⟨y, H10, I10, ry, q10⟩ := zr1
          refine wpAny_bind (wpAny_holding (wpAny_mono (hv C fp s2 H2 _ s10 σ8 H10 _ I10 q10) (fun vv s11 zr1 => ?_) fun _ _ z => z.elim))
          obtain ⟨v, H11, I11, rv, b, ms, ey, sq, ka, nx⟩ := zr1
          subst ey
          cases ry
          obtain ⟨p1, p2, p3, p4⟩ := pinsOf I11
          have P11 : DctP D es s11.heap := v5.at (p4.trans o5.symm)
          obtain ⟨z, m, nd, xs, ev, dd⟩ := u0 I11 P11 ka
          refine wpAny_bind (wpAny_standAt (wpAny_holding (wpAny_dictSet_heap (hsz := by rw [<- Paired.length ev]; exact z) (show (tupleKind (intKind X.prog X.w)).room X.A from by show X.A.units < cLine; lia) (kj (X := ak X scope (tg ++ cs) C fp s2 H2) I11 sq) dd fun h' dd' hs' => ?_)))
          have I12 : Inv (ak X scope (tg ++ cs) C fp s2 H2) [] σ8 H11 s11 := I11.pins_of fun p hp => nomatch hp
          have I13 : Inv (ak X scope (tg ++ cs) C fp s2 H2) [] σ8 H11 { s11 with heap := h', toks := s11.toks + (tupleKind (intKind X.prog X.w)).draws ms } :=
            I12.turned (fun b o hb e => (hs'.2 b hb).trans e) p3 hDC (.inr (by show s2.heap.objs.size <= D; rw [hDg]; exact Nat.le_refl _)) DcY (fun p hp => nomatch hp)
          obtain ⟨qo, qd, qe, h1q, h2q, h3q, h4q, _, h5q⟩ := dd'
          refine wpAny_pure ⟨rfl, again I13 kp8 (fun b hb o e => (hs'.2 b (fun z : b = D => Dfp (z ▸ hb))).trans (p1 b hb o e)) p2 p3 h1q ⟨?_, m, ?_, _, ev.put ms rv, qo, qd, qe, h1q, h2q, h3q, h4q⟩ nx⟩
          · have := lM es ms b v; lia
          · rw [(ev.put ms rv).keys]; exact h5q
    · rw [e4]; exact T.keep _ _ _ st2 fun b _ o e => old b o e
  exact codeAny_compStart_dict (loop _ rfl) (T.self _ 0 _ _ _ (T.keep _ _ _ st2 fun b _ o e => old b o e) (loop _ rfl))
end
end L2
namespace VL
open PySem L2 PySem.W
section
variable {K : PySem.W.Frag} {X : Cx} {kx vx iter : Expr} {pos : Pos}
theorem zJ {H0 H : Hp} {y : V} {ri : VR} {m : Bool} (rr : e7 K (FM H0 m) Z σ S H y ri) (ek : get S ri = some (kT ms)) : ∃ b, y = .ref b /\ SqT K H b (ms.map L2.V.int) /\ Rep K (NM Z σ S) AnyF H (.ref b) (kT ms) := by
 cases ri with
 | d z =>
  cases ek
  obtain ⟨b, vs, rfl, hq, r2⟩ := Rep.sqT (show Rep K _ _ H y (.tup (ms.map D.int)) from rr)
  cases Reps.toInts r2
  exact ⟨b, rfl, hq, Rep.mono (fun _ n _ => ⟨n, rfl⟩) (fun _ _ => trivial) rr⟩
 | own j =>
  have ek : getO S[j]? = some (kT ms) := ek
  cases e : S[j]? with
  | none => rw [e] at ek; cases ek
  | some s => rw [e] at ek; cases s <;> cases ek
def sh (vi : VTN) (n : Nat) (ix : List Nat) (vg : VG) (vt : VTT) (vk vv : VT) : VTD := fun S Q => vi S fun ds S1 => ds.length <= 1000000 /\ ∃ Iv : Nat -> List (List Int × D) -> List Sl -> Prop, Iv 0 [] S1 /\
 (∀ i d kvs S2, ds[i]? = some d -> Iv i kvs S2 -> vg d (aZ n ix S2) fun S3 => vt S3 fun b S4 => if b = true then vk S4 fun rk S5 => vv S5 fun rv S6 => ∃ ms x, get S6 rk = some (kT ms) /\ rv = .d x /\ Iv (i + 1) (fj kvs ms x) (backS n ix S2 S6) else Iv (i + 1) kvs (backS n ix S2 S4)) /\
 ∀ kvs S2, Iv ds.length kvs S2 -> Q kvs S2
theorem nV {ifs : List Expr} {scope : Scope} {tg cs : List Str} {target : Expr} {wi : TI} {vi : VTN} {g : TG} {vg : VG} {tc : TT} {vt : VTT} {tk tv : TE} {vk vv : VT} (hK : X.K = K) (hu : X.A.units + 64 < cLine) (Sc : aV X scope tg cs ix) (hcalm : X.calm = true) (kg : bO tg.length ix g) (hnd : ix.Nodup)
    (hi : VI K X target iter wi vi) (hg : ∀ C fp s H, VGe K (ak X scope (tg ++ cs) C fp s H) target g vg) (hc : ∀ C fp s H, VTs K (ak X scope (tg ++ cs) C fp s H) ifs tc vt) (hk : ∀ C fp s H, VE K (ak X scope (tg ++ cs) C fp s H) false kx tk vk) (hv : ∀ C fp s H, VE K (ak X scope (tg ++ cs) C fp s H) true vx tv vv)
    (hs : ∀ x, foldedSetIterable iter X.env x = pure x := by intro _; rfl) : VDe K X (.DictComp kx vx [⟨target, iter, ifs, 0⟩] scope pos) (rZ K wi tg.length ix g tc tk tv) (sh vi tg.length ix vg vt vk vv) := by
  have sg : SndG K g vg := (hg 0 [] X.s₀ (fun _ => none)).snd
  have sc : SndT K tc vt := (hc 0 [] X.s₀ (fun _ => none)).snd
  have sk : SndE K false tk vk := (hk 0 [] X.s₀ (fun _ => none)).snd
  have sv : SndE K true tv vv := (hv 0 [] X.s₀ (fun _ => none)).snd
  refine ⟨by subst hK; exact sd hu Sc hcalm kg hi.pi (fun C fp s H => (hg C fp s H).pg) (fun C fp s H => (hc C fp s H).pe) (fun C fp s H => (hk C fp s H).pe) (fun C fp s H => (hv C fp s H).pe) hs, fun H0 Z σ H S Q C k t hq => ?_⟩
  refine hi.snd H0 Z σ H S _ _ k t fun J ds H1 S1 k1 st1 gd zr1 => ?_
  obtain ⟨hl, Iv, i0, hs, hd⟩ := zr1
  refine ⟨fun i m es H => m = ds.length - i /\ i <= ds.length /\ es.length <= i /\ ∃ S2 kvs, OK K H0 Z σ H S2 /\ Step Z σ S1 H1 σ S2 H /\ es.map (·.1) = kvs.map (·.1) /\ Reps K (NM Z σ S2) AnyF H (es.map fun x => V.ref x.2.1) ((kvs.map (·.1)).map kT) /\ Reps K (NM Z σ S2) (Fr H0) H (es.map (·.2.2)) (kvs.map (·.2)) /\ Iv i kvs S2,
    ⟨ds.length, by simp, Nat.zero_le _, Nat.le_refl _, S1, [], k1, .refl, rfl, .nil, .nil, i0⟩, ?_⟩
  rintro i m es H2 ⟨rfl, hi, hy, S2, kvs, k2, st2, ek, rk, rz, p⟩
  obtain ⟨g1, g2, g3⟩ := gd σ S2 H2 (fun _ => k2.nm) st2 i
  have hsz : (1000000 : Nat) < sizeLine := by rw [sizeLine_eq]; lia
  by_cases hlt : i < ds.length
  · refine .inr ⟨g1 hlt, by lia, fun es' H' => es'.length <= i + 1 /\ ∃ S' kvs', OK K H0 Z σ H' S' /\ Step Z σ S1 H1 σ S' H' /\ es'.map (·.1) = kvs'.map (·.1) /\ Reps K (NM Z σ S') AnyF H' (es'.map fun x => V.ref x.2.1) ((kvs'.map (·.1)).map kT) /\ Reps K (NM Z σ S') (Fr H0) H' (es'.map (·.2.2)) (kvs'.map (·.2)) /\ Iv (i + 1) kvs' S',
      fun es' H' zt1 => by obtain ⟨p1, p2⟩ := zt1; exact ⟨ds.length - (i + 1), by lia, rfl, hlt, p1, p2⟩, fun x H3 y => ?_⟩
    obtain ⟨hgr, d, hd', rd⟩ := g2 x H3 y hlt
    replace k2 := k2.grow hgr
    replace st2 := st2.trans (.grow hgr)
    replace rk := rk.step (.grow hgr)
    replace rz := rz.step (.grow hgr)
    have kc := k2.capt (n := tg.length) hnd
    have rd' : Rep K (NM (Zin Z ix σ S2) (L2.capt tg.length ix σ) (aZ tg.length ix S2)) AnyF H3 x d := rd.mono (fun a n _ => ⟨fun z => n (ei.mp z), rfl⟩) fun _ x => x
    have h1 := sg H0 _ _ H3 _ x d _ (fun σ4 H4 => ∃ S4, OK K H0 (Zin Z ix σ S2) σ4 H4 S4 /\ Step (Zin Z ix σ S2) (L2.capt tg.length ix σ) (aZ tg.length ix S2) H3 σ4 S4 H4 /\ vt S4 fun b S5 => if b = true then vk S5 fun rk S6 => vv S6 fun rv S7 => ∃ ms x, get S7 rk = some (kT ms) /\ rv = .d x /\ Iv (i + 1) (fj kvs ms x) (backS tg.length ix S2 S7) else Iv (i + 1) kvs (backS tg.length ix S2 S5)) kc rd' (hs i d kvs S2 hd' p) (fun σ4 H4 S4 k4 st4 q4 => ⟨S4, k4, st4, q4⟩)
    have h2 := kg x σ H3 _ h1
    refine (hg 0 [] X.s₀ (fun _ => none)).mono _ _ _ _ _ ?_ h2
    rintro σ4 H4 ⟨⟨hl4, hσ4⟩, S4, k4, st4, q4⟩
    refine sc H0 _ σ4 H4 S4 _ _ k4 q4 fun bb H5 S5 k5 st5 q5 => ?_
    cases bb with
    | false =>
      rw [if_neg Bool.false_ne_true] at q5 ⊢
      obtain ⟨kb, sb, nb⟩ := k2.back k5 (st4.trans st5) hσ4
      exact ⟨by lia, _, kvs, kb, st2.trans sb, ek, rk.step sb, rz.step sb, q5⟩
    | true =>
      rw [if_pos rfl] at q5 ⊢
      refine sk H0 _ σ4 H5 S5 _ _ k5 q5 fun yy H6 ry S6 k6 st6 rry q6 => ?_
      refine sv H0 _ σ4 H6 S6 _ _ k6 q6 fun vv' H7 rv S7 k7 st7 rrv zr1 => ?_
      obtain ⟨ms, xx, e1, er, q7⟩ := zr1
      subst er
      obtain ⟨b, rfl, sq, rb⟩ := zJ (rry.step st7) e1
      obtain ⟨kb, sb, nb⟩ := k2.back k7 (((st4.trans st5).trans st6).trans st7) hσ4
      have rk' := rk.step sb
      have rz' := rz.step sb
      obtain ⟨z1, z2, z3⟩ := uT (k := ms) (b := b) (v := vv') (d := xx) (F := Fr H0) (F' := AnyF) (Rep.mono (fun a n _ => ⟨nb a n, rfl⟩) (fun _ x => x rfl) rrv) (Rep.mono (fun a n _ => ⟨nb a n, rfl⟩) (fun _ x => x) rb) ek rk' rz'
      refine ⟨b, ms, rfl, sq, f6 (by rw [ek]; exact rk'), ?_, _, fj kvs ms xx, kb, st2.trans sb, z1, z2, z3, q7⟩
      have := lM es ms b vv'
      lia
  · have e : i = ds.length := by lia
    refine .inl ⟨g3 e, fun l ob hp => ?_⟩
    exact hq l es kvs H2 _ S2 k2 (st1.trans st2) hp (ba hp) ⟨ob, aD⟩ ek (rk.mono (fun a n e => ⟨⟨n, fun z => e (z ▸ hp)⟩, au fun z => e (z ▸ hp)⟩) fun _ x => x) (cC hp (rz.mono (fun _ n _ => ⟨n, rfl⟩) fun _ x _ => x)) (hd kvs S2 (by rw [<- e]; exact p))
end
end VL
end
section
namespace L2
open PySem PySem.Spec PyProof.Rows PySem.W
abbrev lso (its : List Value) (k : Nat) : Obj := { cls := .type "list", data := .seq its.toArray k }
abbrev two_of (elt t1 i1 t2 i2 : Expr) (f1 f2 : List Expr) (scope : Scope) (pos : Pos) : Expr := .ListComp elt [⟨t1, i1, f1, 0⟩, ⟨t2, i2, f2, 0⟩] scope pos
section
variable {elt t1 i1 t2 i2 : Expr} {f1 f2 : List Expr} {scope : Scope} {pos : Pos}
theorem u3 (it acc : Value) (env : Env) : compTurn (two_of elt t1 i1 t2 i2 f1 f2 scope pos) 1 it acc env = (do { standAt i2.pos; match <- pyNext it with | none => pure (.done .next) | some v => (do { letOwnedTupleGo t2 it v; assign t2 env v; let mut ok := true; for c in f2 do { if ok then { ok <- isTrue c env (eval c env) } }; if ok then { (do { let _ <- call (.builtin "list.append") [acc, <- eval elt env] }) }; again (.compLoop (two_of elt t1 i1 t2 i2 f1 f2 scope pos) 1 it acc env) }) }) := by rfl
theorem lP (it acc : Value) (env : Env) : compTurn (two_of elt t1 i1 t2 i2 f1 f2 scope pos) 0 it acc env = (do { standAt i1.pos; match <- pyNext it with | none => pure (.done .next) | some v => (do { letOwnedTupleGo t1 it v; assign t1 env v; let mut ok := true; for c in f1 do { if ok then { ok <- isTrue c env (eval c env) } }; if ok then { let x <- eval i2 env; standAt i2.pos; let x <- foldedSetIterable i2 env x; let _ <- runOwn (.compStart (two_of elt t1 i1 t2 i2 f1 f2 scope pos) 1 (<- holding [x] (pyIter x)) acc env) env }; again (.compLoop (two_of elt t1 i1 t2 i2 f1 f2 scope pos) 0 it acc env) }) }) := by rfl
theorem sj {P : Program} {w : World} {A : Around} {R : Result -> Shared -> Prop} {s : Shared} {it acc : Value} {env : Env} (h0 : codeAny (model P w) A (.compLoop (two_of elt t1 i1 t2 i2 f1 f2 scope pos) 1 it acc env) R s)
  (h : wpAny (model P w) A (pyIter it) (fun y s' => codeAny (model P w) A (.compLoop (two_of elt t1 i1 t2 i2 f1 f2 scope pos) 1 y acc env) R s') (notedBy (model P w) A env fun x s' => R (.error x) s') s) :
  codeAny (model P w) A (.compStart (two_of elt t1 i1 t2 i2 f1 f2 scope pos) 1 it acc env) R s := by
 refine codeAny_of_tree (wpAny_notedAt (m := compStart (two_of elt t1 i1 t2 i2 f1 f2 scope pos) 1 it acc env) ?_)
 unfold compStart
 refine (show wpAny _ _ (ask >>= _) _ _ s from wpAny_bind (wpAny_askSetting (wpAny_ite ?_)))
 split
 ·exact wpAny_pure ⟨rfl, h0⟩
 ·exact wpAny_bind (wpAny_rule (wpAny_bind (m := standAt i2.pos) (wpAny_standAt (wpAny_bind (wpAny_mono h (fun y s' q => wpAny_pure ⟨rfl, q⟩) fun _ _ x => x)))))
def tIn (wi : TI) (g : TG) (tc : TT) (te : TE) (σ : St) (ys : List V) (Nx : List V -> Hp -> Prop) (H : Hp) : Prop := wi σ H fun J H1 => ∃ W : Nat -> Nat -> List V -> Hp -> Prop, (∃ m, W 0 m ys H1) /\ ∀ j m zs H2, W j m zs H2 ->
 (J.stop j H2 /\ Nx zs H2) \/ (J.go j H2 /\ zs.length < sizeLine /\ ∃ N2 : List V -> Hp -> Prop, (∀ zs' H', N2 zs' H' -> ∃ m', m' < m /\ W (j + 1) m' zs' H') /\
  ∀ x H3, J.yld j H2 x H3 -> g x σ H3 fun σ4 H4 => tc σ4 H4 fun b H5 => if b = true then te σ4 H5 fun v H6 => N2 (zs ++ [v]) H6 else N2 zs H5)
def sm (σ : St) (g : TG) : Prop := ∀ x H Q, g x σ H Q -> g x σ H fun σ2 H2 => (σ2.length = σ.length /\ ∀ (i : Nat) (v : V), σ[i]? = some (some v) -> σ2[i]? = some (some v)) /\ Q σ2 H2
theorem nW {Y : Cx} {wi : TI} {g : TG} {tc : TT} {te : TE} {s : Shared} {D : Addr} {ys : List V} {its : List Value} {k : Nat} {Nx : List V -> Hp -> Prop} (hcalm : Y.calm = true) (hxe : ∀ e s, ¬Y.xe e s)
  (hi : PI Y t2 i2 wi) (hg : PG Y t2 g) (hc : PTs Y f2 tc) (he : PE Y elt te) (kg : sm σ g) (I : Inv Y pins σ H s) (dL : D ≠ Y.env.locals) (dF : D ∉ Y.fs) (dS : Y.s₀.heap.objs.size <= D) (dC : ∀ x c, Y.env.cells.lookup x = some c -> c ≠ D)
  (dP : ∀ p ∈ Y.pn ++ pins, p.1 ≠ D) (dn : H D = none) (dg : s.heap.get? D = some (lso its k)) (vy : Vals ys its) (h : tIn wi g tc te σ ys Nx H) (hs : ∀ x, foldedSetIterable i2 Y.env x = pure x) {α : Type} {r : Sem α} {Q : α -> Shared -> Prop} {E : Value -> Shared -> Prop}
  (fin : ∀ s' ys' its' k' H', Inv Y pins σ H' s' -> H' D = none -> s'.heap.get? D = some (lso its' k') -> Vals ys' its' -> Nx ys' H' -> wpAny (model Y.prog Y.w) Y.A r Q E s') :
  wpAny (model Y.prog Y.w) Y.A (do { let x <- eval i2 Y.env; standAt i2.pos; let x <- foldedSetIterable i2 Y.env x; let _ <- runOwn (.compStart (two_of elt t1 i1 t2 i2 f1 f2 scope pos) 1 (<- holding [x] (pyIter x)) (.ref D) Y.env) Y.env; r }) Q E s := by
 have nc : ∀ (its : List Value) (k : Nat) v, (lso its k).data ≠ .cell v := fun its k v z => by have z' : Data.seq _ _ = Data.cell v := z; cases z'
 have pinD : ∀ {H' : Hp} {s' : Shared} {its' : List Value} {k' : Nat}, Inv Y pins σ H' s' -> H' D = none -> s'.heap.get? D = some (lso its' k') -> Inv Y (pins ++ [(D, lso its' k')]) σ H' s' := fun I' n' g' => I'.pins_of fun p hp => by
  rcases List.mem_append.mp hp with hp | hp
  ·exact I'.pin p (List.mem_append_right _ hp)
  ·rw [List.mem_singleton.mp hp]; exact ⟨g', n', dL, dF, nc _ _⟩
 refine wpAny_bind (wpAny_mono (hi _ s σ H _ (pinD I dn dg) h) (fun v s1 h1 => ?_) fun e s z => (hxe e s z).elim)
 refine wpAny_bind (wpAny_standAt ?_)
 rw [hs]
 refine wpAny_bind (wpAny_pure (wpAny_bind (wpAny_holding (wpAny_mono h1 (fun itv s2 h2 => ?_) fun e s z => (hxe e s z).elim))))
 obtain ⟨it, fp, tn, J, H2, rfl, I2, T, st2, f2', W, ⟨m0, w0⟩, turn⟩ := h2
 have Dfp : D ∉ fp := fun z => (f2' D z).2.2.2.2.2 (D, lso its k) (List.mem_append_right _ (List.mem_append_right _ List.mem_cons_self)) rfl
 have stat : ∀ {H' : Hp} {its' : List Value} {k' : Nat}, (∀ b ∈ fp, H' b = none) -> ∀ b ∈ fp, dY Y (pins ++ [(D, lso its' k')]) H' b := fun hn b hb => by
  obtain ⟨_, a1, a2, a3, a4, a5⟩ := f2' b hb
  refine ⟨hn b hb, a1, a2, a3, a4, fun p hp z => ?_⟩
  rcases List.mem_append.mp hp with hp | hp
  ·exact a5 p (List.mem_append_left _ hp) z
  ·rcases List.mem_append.mp hp with hp | hp
   ·exact a5 p (List.mem_append_right _ (List.mem_append_left _ hp)) z
   ·rw [List.mem_singleton.mp hp] at z; have z : D = b := z; exact Dfp (z ▸ hb)
 have d2 := I2.pin (D, lso its k) (List.mem_append_right _ (List.mem_append_right _ List.mem_cons_self))
 have loop : codeAny (model Y.prog Y.w) Y.A (.compLoop (two_of elt t1 i1 t2 i2 f1 f2 scope pos) 1 (.ref it) (.ref D) Y.env) (fun res s' => match res with | .ok _ => wpAny (model Y.prog Y.w) Y.A r Q E s' | .error e => cameBackBy (model Y.prog Y.w) Y.A Y.env E e s') s2 := by
  refine codeAny_loop rfl (fun n s' => ∃ j zs its k H', Inv Y pins σ H' s' /\ tn j s'.heap /\ (∀ b ∈ fp, H' b = none) /\ H' D = none /\ s'.heap.get? D = some (lso its k) /\ Vals zs its /\ W j n zs H') ?_ m0 ⟨0, ys, its, k, H2, I2.unpinned, st2, fun b hb => (f2' b hb).1, d2.2.1, d2.1, vy, w0⟩
  rintro n s5 ⟨j, zs, its5, k5, H5, I5, st5, fr5, d5, o5, v5, w5⟩
  refine wpAny_noted (m := compTurn (two_of elt t1 i1 t2 i2 f1 f2 scope pos) 1 (.ref it) (.ref D) Y.env) ?_
  rw [u3]
  have pin0 := pinD I5 d5 o5
  refine wpAny_bind (wpAny_standAt (wpAny_bind ?_))
  rcases turn j n zs H5 w5 with ⟨stop, qn⟩ | ⟨go, hz, N2, hN, step⟩
  ·refine thn (T.done Y rfl rfl rfl hcalm j _ s5 _ H5 _ pin0 (stat fr5) st5 stop) fun r s6 zr1 => ?_
   obtain ⟨hr, I6⟩ := zr1
   subst hr
   have d6 := I6.pin (D, lso its5 k5) (List.mem_append_right _ (List.mem_append_right _ List.mem_cons_self))
   exact wpAny_pure (fin s6 zs its5 k5 H5 I6.unpinned d5 d6.1 v5 qn)
  ·refine thn (T.item Y rfl rfl rfl hcalm j _ s5 _ H5 _ pin0 (stat fr5) st5 go) fun r s6 zr1 => ?_
   obtain ⟨u, hr, h6⟩ := zr1
   subst hr
   refine wpAny_bind (thn h6 fun _ s7 zr1 => ?_)
   obtain ⟨x, H7, I7, r7, y7, st7, fr7⟩ := zr1
   have I7' := I7.pinned (stat fr7) (T.obj _ _ st7)
   have pinsOf : ∀ {σ' : St} {H' : Hp} {s' : Shared}, Inv Y ((pins ++ [(D, lso its5 k5)]) ++ b6 fp s7.heap) σ' H' s' ->
     (∀ b ∈ fp, ∀ o, s7.heap.get? b = some o -> s'.heap.get? b = some o) /\ (∀ b ∈ fp, H' b = none) /\ H' D = none /\ s'.heap.get? D = some (lso its5 k5) := by
    intro σ' H' s' I'
    have dd := I'.pin (D, lso its5 k5) (List.mem_append_right _ (List.mem_append_left _ (List.mem_append_right _ List.mem_cons_self)))
    refine ⟨fun b hb o e => (I'.pin (b, o) (List.mem_append_right _ (List.mem_append_right _ (aQ hb e)))).1, fun b hb => ?_, dd.2.1, dd.1⟩
    obtain ⟨o, e, d⟩ := T.obj _ _ st7 b hb
    exact (I'.pin (b, o) (List.mem_append_right _ (List.mem_append_right _ (aQ hb e)))).2.1
   have again : ∀ {σ2 : St} {H8 : Hp} {s8 : Shared} {zs' : List V} {its' : List Value} {k' : Nat}, Inv Y pins σ2 H8 s8 -> (σ2.length = σ.length /\ ∀ (i : Nat) (v : V), σ[i]? = some (some v) -> σ2[i]? = some (some v)) -> (∀ b ∈ fp, ∀ o, s7.heap.get? b = some o -> s8.heap.get? b = some o) -> (∀ b ∈ fp, H8 b = none) ->
     H8 D = none -> s8.heap.get? D = some (lso its' k') -> Vals zs' its' -> N2 zs' H8 -> ∃ m, m < n /\ ∃ j zs its k H', Inv Y pins σ H' s8 /\ tn j s8.heap /\ (∀ b ∈ fp, H' b = none) /\ H' D = none /\ s8.heap.get? D = some (lso its k) /\ Vals zs its /\ W j m zs H' := by
    intro σ2 H8 s8 zs' its' k' I8 kp fk fn dn' dg' vv nx
    obtain ⟨m', hm, w8⟩ := hN zs' H8 nx
    exact ⟨m', hm, j + 1, zs', its', k', H8, I8.weak kp.1.symm kp.2, T.keep _ _ _ st7 fk, fn, dn', dg', vv, w8⟩
   refine wpAny_bind (wpAny_mono (hg _ s7 _ H7 x u _ I7' r7 (kg x H7 _ (step x H7 y7))) (fun _ s8 zr1 => ?_) fun e s z => (hxe e s z).elim)
   obtain ⟨σ8, H8, I8, kp8, q8⟩ := zr1
   refine wpAny_bind (wpAny_mono (hc _ s8 σ8 H8 _ I8 q8) (fun ok s9 zr1 => ?_) fun e s z => (hxe e s z).elim)
   obtain ⟨H9, I9, q9⟩ := zr1
   cases ok with
   | false =>
    obtain ⟨p1, p2, p3, p4⟩ := pinsOf I9
    exact wpAny_pure ⟨rfl, again I9.unpinned.unpinned kp8 p1 p2 p3 p4 v5 q9⟩
   | true =>
    have q9 : te σ8 H9 fun v H6 => N2 (zs ++ [v]) H6 := q9
    refine wpAny_bind (wpAny_bind (wpAny_mono (he _ s9 σ8 H9 _ I9 q9) (fun y s10 zr1 => ?_) fun e s z => (hxe e s z).elim))
    obtain ⟨v, H10, I10, rv, nx⟩ := zr1
    obtain ⟨p1, p2, p3, p4⟩ := pinsOf I10
    have hl5 := v5.length
    refine wpAny_bind (call_meets F.slot_list_append ⟨_, p4, rfl⟩ F.entry_list_append (F.args_list_append_2 _ _) (PySem.list_append D its5.toArray k5 y (by rw [List.size_toArray]; lia)) ⟨p4, ?_⟩)
    have g10 := PySem.IsL.update p4 (·.push y)
    rw [show its5.toArray.push y = (its5 ++ [y]).toArray by simp] at g10
    have I12 : Inv Y pins σ8 H10 { s10 with heap := s10.heap.update D (Obj.mapSeq (·.push y)) } :=
     I10.unpinned.unpinned.turned (t' := s10.toks) (fun b o hb e => (Heap.get?_update_other s10.heap (Obj.mapSeq (·.push y)) (Ne.symm hb)).trans e) p3 dL (.inr dS) dC dP
    refine wpAny_pure (wpAny_pure ⟨rfl, again (its' := its5 ++ [y]) I12 kp8 (fun b hb o e => ?_) p2 p3 g10 (v5.append (.cons rv .nil)) nx⟩)
    exact (Heap.get?_update_other s10.heap (Obj.mapSeq (·.push y)) (fun z : D = b => Dfp (z ▸ hb))).trans (p1 b hb o e)
 refine wpAny_bind (wpAny_runOwn (sj (A := Y.A) loop (T.self _ 0 _ _ _ st2 loop)))
end
section
variable {X : Cx}
def km (wi : TI) (n : Nat) (ix : List Nat) (g : TG) (tc : TT) (wi2 : TI) (g2 : TG) (tc2 : TT) (te : TE) : TE := fun σ H Q => wi σ H fun J H1 => ∃ W : Nat -> Nat -> List V -> Hp -> Prop, (∃ m, W 0 m [] H1) /\ ∀ i m ys H2, W i m ys H2 ->
 (J.stop i H2 /\ ys.length <= sizeLine /\ ∀ D, H2 D = none -> Q (.ref D) (upd H2 D (.lst ys))) \/
 (J.go i H2 /\ ∃ Nx : List V -> Hp -> Prop, (∀ ys' H', Nx ys' H' -> ∃ m', m' < m /\ W (i + 1) m' ys' H') /\
  ∀ x H3, J.yld i H2 x H3 -> g x (capt n ix σ) H3 fun σ2 H4 => tc σ2 H4 fun b H5 => if b = true then tIn wi2 g2 tc2 te σ2 ys Nx H5 else Nx ys H5)
def iO (n : Nat) (ix : List Nat) (g g2 : TG) : Prop := ∀ x σ H Q, g x (capt n ix σ) H Q -> g x (capt n ix σ) H fun σ2 H2 => ((σ2.length = (capt n ix σ).length /\ ∀ (i : Nat) (v : V), (capt n ix σ)[i]? = some (some v) -> σ2[i]? = some (some v)) /\ sm σ2 g2) /\ Q σ2 H2
theorem ko {n : Nat} {a b : Nat} (ha : a < n) (hb : b < n) (hab : a ≠ b) : iO n ix (bq a) (bq b) := fun x σ H Q q => by
 obtain ⟨kp, q⟩ := aG ha x σ H Q q
 refine ⟨⟨kp, fun y H' Q' q' => ⟨⟨by simp, fun i v e => ?_⟩, q'⟩⟩, q⟩
 by_cases hi : b = i
 ·subst hi
  rw [List.getElem?_set_ne hab] at e
  exact (eK hb e).elim
 ·rw [List.getElem?_set_ne hi]; exact e
theorem su {elt t1 i1 t2 i2 : Expr} {f1 f2 : List Expr} {scope : Scope} {pos : Pos} {tg cs : List Str} {wi wi2 : TI} {g g2 : TG} {tc tc2 : TT} {te : TE} (S : aV X scope tg cs ix) (hcalm : X.calm = true) (kg : iO tg.length ix g g2)
    (hi : PI X t1 i1 wi) (hg : ∀ C fp s H, PG (ak X scope (tg ++ cs) C fp s H) t1 g) (hc : ∀ C fp s H, PTs (ak X scope (tg ++ cs) C fp s H) f1 tc) (hi2 : ∀ C fp s H, PI (ak X scope (tg ++ cs) C fp s H) t2 i2 wi2) (hg2 : ∀ C fp s H, PG (ak X scope (tg ++ cs) C fp s H) t2 g2) (hc2 : ∀ C fp s H, PTs (ak X scope (tg ++ cs) C fp s H) f2 tc2) (he : ∀ C fp s H, PE (ak X scope (tg ++ cs) C fp s H) elt te)
    (hs : ∀ x, foldedSetIterable i1 X.env x = pure x := by intro _; rfl) (hs2 : ∀ (e : Env) x, foldedSetIterable i2 e x = pure x := by intro _ _; rfl) : PE X (two_of elt t1 i1 t2 i2 f1 f2 scope pos) (km wi tg.length ix g tc wi2 g2 tc2 te) := by
  intro pins s σ H Q I h
  rw [eval_ListComp]
  refine wpAny_comprehension_free (use := none) (cl := bg X.env scope.names []) rfl hs (cS fun n hn => I.ok.has n (S.out n hn)) S.kind S.names ?_
  refine wpAny_mono (hi pins s σ H _ I h) (fun v s1 h1 => wpAny_mono h1 (fun itv s2 h2 => ?_) fun _ _ e => e) fun _ _ e => e
  obtain ⟨it, fp, tn, J, H2, rfl, I2, T, st2, fpk, W, ⟨m0, w0⟩, turn⟩ := h2
  refine wpAny_newObj_type (wpAny_newFunctionEnv S.nocell (by intro y hy; simp at hy) (fun h1 hns1 hsb1 => ?_) S.kind)
  dsimp only at hns1 hsb1 ⊢
  generalize hP : s2.heap.push { cls := .type "list", dict := none, data := .seq ([] : List Value).toArray } = P2 at hns1 hsb1 ⊢
  have hCs : P2.objs.size = s2.heap.objs.size + 1 := by rw [<- hP, Heap.size_push]
  have hDC : s2.heap.objs.size ≠ P2.objs.size := by rw [hCs]; exact Nat.ne_of_lt (Nat.lt_succ_self _)
  have hCle : s2.heap.objs.size <= P2.objs.size := by rw [hCs]; exact Nat.le_succ _
  generalize hCg : P2.objs.size = C at *
  have old : ∀ b o, s2.heap.get? b = some o -> h1.get? b = some o := fun b o e => hsb1.extBut b o (Nat.ne_of_lt (Nat.lt_of_lt_of_le (Heap.lt_size e) hCle)) (Heap.get?_push_of_some _ (hP ▸ Heap.get?_push_of_some _ e))
  generalize hDg : s2.heap.objs.size = D at *
  have hD0 : h1.get? D = some { cls := .type "list", data := .seq ([] : List Value).toArray 0 } := hsb1.extBut _ _ hDC (Heap.get?_push_of_some _ (hP ▸ hDg ▸ Heap.get?_push_size _ rfl))
  have nC : H2 C = none := I2.hok.fresh (by rw [hDg]; exact hCle)
  have nD : H2 D = none := I2.hok.fresh (by rw [hDg]; exact Nat.le_refl _)
  have fo : ∀ b ∈ fp, ∃ o, s2.heap.get? b = some o := fun b hb => let ⟨o, e, _⟩ := T.obj _ _ st2 b hb; ⟨o, e⟩
  have Dfp : D ∉ fp := fun z => by
    obtain ⟨o, e⟩ := fo D z
    have := Heap.lt_size e
    rw [hDg] at this
    exact absurd this (Nat.lt_irrefl _)
  have Dfs : D ∉ frs X.stack := fun z => by
    rcases List.mem_cons.mp (I2.stkSub D z) with e | e
    · have := I2.lt
      rw [<- e, hDg] at this
      exact absurd this (Nat.lt_irrefl _)
    · exact I2.nofs (by rw [hDg]; exact Nat.le_refl _) e
  have DcY : ∀ x c, (bg X.env scope.names []).lookup x = some c -> c ≠ D := fun x c e => by
    rcases cB (PySem.mem_of_lookup e) with h | h
    · cases h
    · exact (I2.fpOk (H' := H2) (b := D) (by rw [hDg]; exact Nat.le_refl _) nD).2.2.2.2.1 x c h
  -- the block's context
  have Yok : ∀ s4 : Shared, s4 = { s2 with heap := h1, toks := s2.toks + ([] : List (Str × Value)).length } -> Inv (ak X scope (tg ++ cs) C fp s2 H2) [] (capt tg.length ix σ) H2 s4 := by
    rintro s4 rfl
    exact fy S I2 fpk fo (by rw [hDg]; exact hCle) old (by simpa using hns1) rfl I2.bare nC
  -- the loop
  have loop : ∀ s4 : Shared, s4 = { s2 with heap := h1, toks := s2.toks + ([] : List (Str × Value)).length } ->
      codeAny (model X.prog X.w) X.A (.compLoop (two_of elt t1 i1 t2 i2 f1 f2 scope pos) 0 (.ref it) (.ref D) (compEnvC scope (bg X.env scope.names []) C X.env)) (compPost (model X.prog X.w) X.A X.xe none (EP X pins σ Q) (.ref D) C) s4 := by
    intro s4 e4
    refine codeAny_loop rfl (fun n s' => ∃ i ys its k H', Inv (ak X scope (tg ++ cs) C fp s2 H2) [] (capt tg.length ix σ) H' s' /\ tn i s'.heap /\ (∀ b ∈ fp, H' b = none) /\ H' D = none /\ s'.heap.get? D = some (lso its k) /\ Vals ys its /\ W i n ys H')
      ?_ m0 ⟨0, [], [], 0, H2, Yok s4 e4, ?_, fun b hb => (fpk b hb).1, nD, by rw [e4]; exact hD0, .nil, w0⟩
    · rintro n s5 ⟨i, ys, its, k, H5, I5, st5, fr5, d5, o5, v5, w5⟩
      show wpAny _ X.A ((compTurn (two_of elt t1 i1 t2 i2 f1 f2 scope pos) 0 (.ref it) (.ref D) (compEnvC scope (bg X.env scope.names []) C X.env)).onRaise (fun x => do noteFrame x (compEnvC scope (bg X.env scope.names []) C X.env); theTreesLotGoes x)) _ _ s5
      refine wpAny_noted ?_
      rw [lP]
      have pin0 : Inv (ak X scope (tg ++ cs) C fp s2 H2) [(D, (lso its k))] (capt tg.length ix σ) H5 s5 := I5.pins_of fun p hp => by
        have e : p = (D, (lso its k)) := by simpa using hp
        subst e
        exact ⟨o5, d5, hDC, Dfs, fun v z => by have z' : Data.seq _ _ = Data.cell v := z; cases z'⟩
      have fpY : ∀ {H' : Hp}, (∀ b ∈ fp, H' b = none) -> ∀ b ∈ fp, dY (ak X scope (tg ++ cs) C fp s2 H2) [(D, (lso its k))] H' b := fun hn b hb =>
        ⟨hn b hb, (I5.ok.exf b hb).1, fun z => I5.ok.exfs b hb z, .inl hb, (I5.ok.exf b hb).2, fun p hp z => by
          have hp : p ∈ ([] : List (Addr × Obj)) ++ [(D, (lso its k))] := hp
          have e : p = (D, (lso its k)) := by simpa using hp
          subst e
          have z : D = b := z
          exact Dfp (z ▸ hb)⟩
      refine wpAny_bind (wpAny_standAt (wpAny_bind ?_))
      rcases turn i n ys H5 w5 with ⟨stop, hz, qn⟩ | ⟨go, Nx, hN, step⟩
      · refine thn (T.done (ak X scope (tg ++ cs) C fp s2 H2) rfl rfl rfl hcalm i _ s5 _ H5 _ pin0 (fpY fr5) st5 stop) fun r s6 zr1 => ?_
        obtain ⟨hr, I6⟩ := zr1
        subst hr
        refine wpAny_pure ?_
        obtain ⟨mC, hnsC, _⟩ := id I6.loc
        refine ⟨mC, hnsC, fun h' sb => ?_⟩
        have IX : Inv X pins σ H5 s6 := I2.call' (ch := fp) I6.os I6.base I6.hok I6.bare fun b hb => let ⟨_, a1, _, a3, a4, a5⟩ := fpk b hb; ⟨a3, a1, a4, a5⟩
        obtain ⟨_, c1, _, c3, c4, c5⟩ := I2.fpOk (H' := H5) (b := C) (by rw [hDg]; exact hCle) I6.free
        have IX2 : Inv X pins σ H5 { s6 with heap := h' } := IX.turned (t' := s6.toks) (fun b o hb e => (sb.2 b hb).trans e) I6.free c1 c3 c4 c5
        obtain ⟨_, b1, _, b3, b4, b5⟩ := I2.fpOk (H' := H5) (b := D) (by rw [hDg]; exact Nat.le_refl _) d5
        have gD : h'.get? D = some (lso its k) := (sb.2 D hDC).trans (I6.pin (D, (lso its k)) (List.mem_append_right _ List.mem_cons_self)).1
        exact ⟨.ref D, upd H5 D (.lst ys), IX2.track d5 (by rw [<- hDg]; exact I2.sz) b1 b4 b5 ⟨hz, its, k, v5, gD⟩, rfl, qn D d5⟩
      · refine thn (T.item (ak X scope (tg ++ cs) C fp s2 H2) rfl rfl rfl hcalm i _ s5 _ H5 _ pin0 (fpY fr5) st5 go) fun r s6 zr1 => ?_
        obtain ⟨u, hr, h6⟩ := zr1
        subst hr
        refine wpAny_bind (thn h6 fun _ s7 zr1 => ?_)
        obtain ⟨x, H7, I7, r7, y7, st7, fr7⟩ := zr1
        have I7' := I7.pinned (fpY fr7) (T.obj _ _ st7)
        -- the next turn
        have again : ∀ {σ2 : St} {H8 : Hp} {s8 : Shared} {ys' : List V} {its' : List Value} {k' : Nat} , Inv (ak X scope (tg ++ cs) C fp s2 H2) [] σ2 H8 s8 -> (σ2.length = (capt tg.length ix σ).length /\ ∀ (i : Nat) (v : V), (capt tg.length ix σ)[i]? = some (some v) -> σ2[i]? = some (some v)) ->
            (∀ b ∈ fp, ∀ o, s7.heap.get? b = some o -> s8.heap.get? b = some o) -> (∀ b ∈ fp, H8 b = none) -> H8 D = none -> s8.heap.get? D = some (lso its' k') -> Vals ys' its' -> Nx ys' H8 ->
            ∃ m, m < n /\ ∃ i ys its k H', Inv (ak X scope (tg ++ cs) C fp s2 H2) [] (capt tg.length ix σ) H' s8 /\ tn i s8.heap /\ (∀ b ∈ fp, H' b = none) /\ H' D = none /\ s8.heap.get? D = some (lso its k) /\ Vals ys its /\ W i m ys H' := by
          intro σ2 H8 s8 ys' its' k' I8 kp fk fn dn dg vv nx
          obtain ⟨m', hm, w8⟩ := hN ys' H8 nx
          exact ⟨m', hm, i + 1, ys', its', k', H8, I8.weak kp.1.symm kp.2, T.keep _ _ _ st7 fk, fn, dn, dg, vv, w8⟩
        refine wpAny_bind (wpAny_mono (hg C fp s2 H2 _ s7 _ H7 x u _ I7' r7 (kg x σ H7 _ (step x H7 y7))) (fun _ s8 zr1 => ?_) fun _ _ z => z.elim)
        obtain ⟨σ8, H8, I8, ⟨kp8, kb8⟩, q8⟩ := zr1
        refine wpAny_bind (wpAny_mono (hc C fp s2 H2 _ s8 σ8 H8 _ I8 q8) (fun ok s9 zr1 => ?_) fun _ _ z => z.elim)
        obtain ⟨H9, I9, q9⟩ := zr1
        have pinsOf : ∀ {σ' : St} {H' : Hp} {s' : Shared}, Inv (ak X scope (tg ++ cs) C fp s2 H2) ([(D, (lso its k))] ++ b6 fp s7.heap) σ' H' s' ->
            (∀ b ∈ fp, ∀ o, s7.heap.get? b = some o -> s'.heap.get? b = some o) /\ (∀ b ∈ fp, H' b = none) /\ H' D = none /\ s'.heap.get? D = some (lso its k) := by
          intro σ' H' s' I'
          refine ⟨fun b hb o e => (I'.pin (b, o) (List.mem_append_right _ (List.mem_append_right _ (aQ hb e)))).1, fun b hb => ?_, (I'.pin (D, (lso its k)) (List.mem_append_right _ (List.mem_append_left _ List.mem_cons_self))).2.1, (I'.pin (D, (lso its k)) (List.mem_append_right _ (List.mem_append_left _ List.mem_cons_self))).1⟩
          obtain ⟨o, e, d⟩ := T.obj _ _ st7 b hb
          exact (I'.pin (b, o) (List.mem_append_right _ (List.mem_append_right _ (aQ hb e)))).2.1
        cases ok with
        | false =>
          obtain ⟨p1, p2, p3, p4⟩ := pinsOf I9
          exact wpAny_pure ⟨rfl, again (I9.pins_of fun p hp => nomatch hp) kp8 p1 p2 p3 p4 v5 q9⟩
        | true =>
          have q9 : tIn wi2 g2 tc2 te σ8 ys Nx H9 := q9
          obtain ⟨p1, p2, p3, p4⟩ := pinsOf I9
          have I9' : Inv (ak X scope (tg ++ cs) C fp s2 H2) (b6 fp s7.heap) σ8 H9 s9 := I9.pins_of fun p hp => I9.pin p (List.mem_append_right _ (List.mem_append_right _ hp))
          refine nW (Y := ak X scope (tg ++ cs) C fp s2 H2) hcalm (fun _ _ z => z) (hi2 C fp s2 H2) (hg2 C fp s2 H2) (hc2 C fp s2 H2) (he C fp s2 H2) kb8 I9' hDC Dfs (by show s2.heap.objs.size <= D; rw [hDg]; exact Nat.le_refl _) DcY (fun p hp z => ?_) p3 p4 v5 q9 (hs2 _) fun s12 zs its' k' H12 I12 d12 g12 v12 n12 => ?_
          · have hp : p ∈ b6 fp s7.heap := hp
            exact Dfp (z ▸ (fT hp).1)
          · have pn := fun (b : Addr) (hb : b ∈ fp) (o : Obj) (e : s7.heap.get? b = some o) => I12.pin (b, o) (List.mem_append_right _ (aQ hb e))
            refine wpAny_pure ⟨rfl, again (its' := its') (I12.pins_of fun p hp => nomatch hp) kp8 (fun b hb o e => (pn b hb o e).1) (fun b hb => ?_) d12 g12 v12 n12⟩
            obtain ⟨o, e, _⟩ := T.obj _ _ st7 b hb
            exact (pn b hb o e).2.1
    · rw [e4]; exact T.keep _ _ _ st2 fun b _ o e => old b o e
  exact codeAny_compStart_list (loop _ rfl) (T.self _ 0 _ _ _ (T.keep _ _ _ st2 fun b _ o e => old b o e) (loop _ rfl))
theorem pH {elt t1 i1 t2 i2 : Expr} {f1 f2 : List Expr} {scope : Scope} {pos spos py : Pos} {yy : Str} {ii : Nat} {tg cs : List Str} {wi wi2 : TI} {g g2 : TG} {tc tc2 : TT} {te : TE} (hN0 : X.N.Nodup) (hi0 : X.N[ii]? = some yy) (hx0 : Loc X.env.scope yy)
    (S : aV X scope tg cs ix) (hcalm : X.calm = true) (kg : iO tg.length ix g g2)
    (hi : PI X t1 i1 wi) (hg : ∀ C fp s H, PG (ak X scope (tg ++ cs) C fp s H) t1 g) (hc : ∀ C fp s H, PTs (ak X scope (tg ++ cs) C fp s H) f1 tc) (hi2 : ∀ C fp s H, PI (ak X scope (tg ++ cs) C fp s H) t2 i2 wi2) (hg2 : ∀ C fp s H, PG (ak X scope (tg ++ cs) C fp s H) t2 g2) (hc2 : ∀ C fp s H, PTs (ak X scope (tg ++ cs) C fp s H) f2 tc2) (he : ∀ C fp s H, PE (ak X scope (tg ++ cs) C fp s H) elt te)
    (hf0 : X.fn yy = true \/ X.env.scope.names.lookup yy = some .local)
    (hsw : swapsWith (two_of elt t1 i1 t2 i2 f1 f2 scope pos) (some (.Name yy py)) spos.line X.env = pure true)
    (hs : ∀ x, foldedSetIterable i1 X.env x = pure x := by intro _; rfl) (hs2 : ∀ (e : Env) x, foldedSetIterable i2 e x = pure x := by intro _ _; rfl) : PS X (.Assign [.Name yy py] (two_of elt t1 i1 t2 i2 f1 f2 scope pos) spos) (dk (km wi tg.length ix g tc wi2 g2 tc2 te) (bq ii)) := by
  intro pins s σ H Dn I h
  rw [exec_Assign_Name_used _ _ _ _ hsw]
  refine wpAny_bind (wpAny_standAt (wpAny_bind ?_))
  show wpAny _ X.A (do let _ <- comprehension (two_of elt t1 i1 t2 i2 f1 f2 scope pos) scope X.env _ (newList []) false (eval i1 X.env) (some (assign (.Name yy py) X.env))) _ _ s
  refine wpAny_bind (wpAny_mono (wpAny_comprehension_free (use := some (assign (.Name yy py) X.env)) (Q := fun _ s' => SP X pins Dn .next s') (cl := bg X.env scope.names []) rfl hs (cS fun n hn => I.ok.has n (S.out n hn)) S.kind S.names ?_) (fun _ s' hq => wpAny_pure (wpAny_pure hq)) fun _ _ e => e)
  refine wpAny_mono (hi pins s σ H _ I h) (fun v s1 h1 => wpAny_mono h1 (fun itv s2 h2 => ?_) fun _ _ e => e) fun _ _ e => e
  obtain ⟨it, fp, tn, J, H2, rfl, I2, T, st2, fpk, W, ⟨m0, w0⟩, turn⟩ := h2
  refine wpAny_newObj_type (wpAny_newFunctionEnv S.nocell (by intro y hy; simp at hy) (fun h1 hns1 hsb1 => ?_) S.kind)
  dsimp only at hns1 hsb1 ⊢
  generalize hP : s2.heap.push { cls := .type "list", dict := none, data := .seq ([] : List Value).toArray } = P2 at hns1 hsb1 ⊢
  have hCs : P2.objs.size = s2.heap.objs.size + 1 := by rw [<- hP, Heap.size_push]
  have hDC : s2.heap.objs.size ≠ P2.objs.size := by rw [hCs]; exact Nat.ne_of_lt (Nat.lt_succ_self _)
  have hCle : s2.heap.objs.size <= P2.objs.size := by rw [hCs]; exact Nat.le_succ _
  generalize hCg : P2.objs.size = C at *
  have old : ∀ b o, s2.heap.get? b = some o -> h1.get? b = some o := fun b o e => hsb1.extBut b o (Nat.ne_of_lt (Nat.lt_of_lt_of_le (Heap.lt_size e) hCle)) (Heap.get?_push_of_some _ (hP ▸ Heap.get?_push_of_some _ e))
  generalize hDg : s2.heap.objs.size = D at *
  have hD0 : h1.get? D = some { cls := .type "list", data := .seq ([] : List Value).toArray 0 } := hsb1.extBut _ _ hDC (Heap.get?_push_of_some _ (hP ▸ hDg ▸ Heap.get?_push_size _ rfl))
  have nC : H2 C = none := I2.hok.fresh (by rw [hDg]; exact hCle)
  have nD : H2 D = none := I2.hok.fresh (by rw [hDg]; exact Nat.le_refl _)
  have fo : ∀ b ∈ fp, ∃ o, s2.heap.get? b = some o := fun b hb => let ⟨o, e, _⟩ := T.obj _ _ st2 b hb; ⟨o, e⟩
  have Dfp : D ∉ fp := fun z => by
    obtain ⟨o, e⟩ := fo D z
    have := Heap.lt_size e
    rw [hDg] at this
    exact absurd this (Nat.lt_irrefl _)
  have Dfs : D ∉ frs X.stack := fun z => by
    rcases List.mem_cons.mp (I2.stkSub D z) with e | e
    · have := I2.lt
      rw [<- e, hDg] at this
      exact absurd this (Nat.lt_irrefl _)
    · exact I2.nofs (by rw [hDg]; exact Nat.le_refl _) e
  have DcY : ∀ x c, (bg X.env scope.names []).lookup x = some c -> c ≠ D := fun x c e => by
    rcases cB (PySem.mem_of_lookup e) with h | h
    · cases h
    · exact (I2.fpOk (H' := H2) (b := D) (by rw [hDg]; exact Nat.le_refl _) nD).2.2.2.2.1 x c h
  -- the block's context
  have Yok : ∀ s4 : Shared, s4 = { s2 with heap := h1, toks := s2.toks + ([] : List (Str × Value)).length } -> Inv (ak X scope (tg ++ cs) C fp s2 H2) [] (capt tg.length ix σ) H2 s4 := by
    rintro s4 rfl
    exact fy S I2 fpk fo (by rw [hDg]; exact hCle) old (by simpa using hns1) rfl I2.bare nC
  -- the loop
  have loop : ∀ s4 : Shared, s4 = { s2 with heap := h1, toks := s2.toks + ([] : List (Str × Value)).length } ->
      codeAny (model X.prog X.w) X.A (.compLoop (two_of elt t1 i1 t2 i2 f1 f2 scope pos) 0 (.ref it) (.ref D) (compEnvC scope (bg X.env scope.names []) C X.env)) (compPost (model X.prog X.w) X.A X.xe (some (assign (.Name yy py) X.env)) (fun _ s' => SP X pins Dn .next s') (.ref D) C) s4 := by
    intro s4 e4
    refine codeAny_loop rfl (fun n s' => ∃ i ys its k H', Inv (ak X scope (tg ++ cs) C fp s2 H2) [] (capt tg.length ix σ) H' s' /\ tn i s'.heap /\ (∀ b ∈ fp, H' b = none) /\ H' D = none /\ s'.heap.get? D = some (lso its k) /\ Vals ys its /\ W i n ys H')
      ?_ m0 ⟨0, [], [], 0, H2, Yok s4 e4, ?_, fun b hb => (fpk b hb).1, nD, by rw [e4]; exact hD0, .nil, w0⟩
    · rintro n s5 ⟨i, ys, its, k, H5, I5, st5, fr5, d5, o5, v5, w5⟩
      show wpAny _ X.A ((compTurn (two_of elt t1 i1 t2 i2 f1 f2 scope pos) 0 (.ref it) (.ref D) (compEnvC scope (bg X.env scope.names []) C X.env)).onRaise (fun x => do noteFrame x (compEnvC scope (bg X.env scope.names []) C X.env); theTreesLotGoes x)) _ _ s5
      refine wpAny_noted ?_
      rw [lP]
      have pin0 : Inv (ak X scope (tg ++ cs) C fp s2 H2) [(D, (lso its k))] (capt tg.length ix σ) H5 s5 := I5.pins_of fun p hp => by
        have e : p = (D, (lso its k)) := by simpa using hp
        subst e
        exact ⟨o5, d5, hDC, Dfs, fun v z => by have z' : Data.seq _ _ = Data.cell v := z; cases z'⟩
      have fpY : ∀ {H' : Hp}, (∀ b ∈ fp, H' b = none) -> ∀ b ∈ fp, dY (ak X scope (tg ++ cs) C fp s2 H2) [(D, (lso its k))] H' b := fun hn b hb =>
        ⟨hn b hb, (I5.ok.exf b hb).1, fun z => I5.ok.exfs b hb z, .inl hb, (I5.ok.exf b hb).2, fun p hp z => by
          have hp : p ∈ ([] : List (Addr × Obj)) ++ [(D, (lso its k))] := hp
          have e : p = (D, (lso its k)) := by simpa using hp
          subst e
          have z : D = b := z
          exact Dfp (z ▸ hb)⟩
      refine wpAny_bind (wpAny_standAt (wpAny_bind ?_))
      rcases turn i n ys H5 w5 with ⟨stop, hz, qn⟩ | ⟨go, Nx, hN, step⟩
      · refine thn (T.done (ak X scope (tg ++ cs) C fp s2 H2) rfl rfl rfl hcalm i _ s5 _ H5 _ pin0 (fpY fr5) st5 stop) fun r s6 zr1 => ?_
        obtain ⟨hr, I6⟩ := zr1
        subst hr
        refine wpAny_pure ?_
        obtain ⟨mC, hnsC, _⟩ := id I6.loc
        have IX : Inv X pins σ H5 s6 := I2.call' (ch := fp) I6.os I6.base I6.hok I6.bare fun b hb => let ⟨_, a1, _, a3, a4, a5⟩ := fpk b hb; ⟨a3, a1, a4, a5⟩
        obtain ⟨_, b1, _, b3, b4, b5⟩ := I2.fpOk (H' := H5) (b := D) (by rw [hDg]; exact Nat.le_refl _) d5
        obtain ⟨_, c1, _, c3, c4, c5⟩ := I2.fpOk (H' := H5) (b := C) (by rw [hDg]; exact hCle) I6.free
        have gD : s6.heap.get? D = some (lso its k) := (I6.pin (D, (lso its k)) (List.mem_append_right _ List.mem_cons_self)).1
        have IXD : Inv X pins σ (upd H5 D (.lst ys)) s6 := IX.track d5 (by rw [<- hDg]; exact I2.sz) b1 b4 b5 ⟨hz, its, k, v5, gD⟩
        show wpAny _ X.A (assign (.Name yy py) X.env (.ref D)) _ _ s6
        refine wpAny_assign_Name (eI (v := .ref D) IXD hN0 hi0 hx0 rfl (fun s'' I'' zr1 => ?_) hf0)
        obtain ⟨a, sb, ha⟩ := zr1
        have hCa : C ≠ a := by
          rcases ha with rfl | ha
          · exact c1
          · exact (c4 _ _ ha).symm
        refine ⟨mC, hnsC.sameBut sb hCa, fun h' sb' => ⟨_, _, I''.turned (t' := s''.toks) (it := C) (fun b o hb e => (sb'.2 b hb).trans e) (by rw [au (Ne.symm hDC)]; exact I6.free) c1 c3 c4 c5, qn D d5⟩⟩
      · refine thn (T.item (ak X scope (tg ++ cs) C fp s2 H2) rfl rfl rfl hcalm i _ s5 _ H5 _ pin0 (fpY fr5) st5 go) fun r s6 zr1 => ?_
        obtain ⟨u, hr, h6⟩ := zr1
        subst hr
        refine wpAny_bind (thn h6 fun _ s7 zr1 => ?_)
        obtain ⟨x, H7, I7, r7, y7, st7, fr7⟩ := zr1
        have I7' := I7.pinned (fpY fr7) (T.obj _ _ st7)
        -- the next turn
        have again : ∀ {σ2 : St} {H8 : Hp} {s8 : Shared} {ys' : List V} {its' : List Value} {k' : Nat} , Inv (ak X scope (tg ++ cs) C fp s2 H2) [] σ2 H8 s8 -> (σ2.length = (capt tg.length ix σ).length /\ ∀ (i : Nat) (v : V), (capt tg.length ix σ)[i]? = some (some v) -> σ2[i]? = some (some v)) ->
            (∀ b ∈ fp, ∀ o, s7.heap.get? b = some o -> s8.heap.get? b = some o) -> (∀ b ∈ fp, H8 b = none) -> H8 D = none -> s8.heap.get? D = some (lso its' k') -> Vals ys' its' -> Nx ys' H8 ->
            ∃ m, m < n /\ ∃ i ys its k H', Inv (ak X scope (tg ++ cs) C fp s2 H2) [] (capt tg.length ix σ) H' s8 /\ tn i s8.heap /\ (∀ b ∈ fp, H' b = none) /\ H' D = none /\ s8.heap.get? D = some (lso its k) /\ Vals ys its /\ W i m ys H' := by
          intro σ2 H8 s8 ys' its' k' I8 kp fk fn dn dg vv nx
          obtain ⟨m', hm, w8⟩ := hN ys' H8 nx
          exact ⟨m', hm, i + 1, ys', its', k', H8, I8.weak kp.1.symm kp.2, T.keep _ _ _ st7 fk, fn, dn, dg, vv, w8⟩
        refine wpAny_bind (wpAny_mono (hg C fp s2 H2 _ s7 _ H7 x u _ I7' r7 (kg x σ H7 _ (step x H7 y7))) (fun _ s8 zr1 => ?_) fun _ _ z => z.elim)
        obtain ⟨σ8, H8, I8, ⟨kp8, kb8⟩, q8⟩ := zr1
        refine wpAny_bind (wpAny_mono (hc C fp s2 H2 _ s8 σ8 H8 _ I8 q8) (fun ok s9 zr1 => ?_) fun _ _ z => z.elim)
        obtain ⟨H9, I9, q9⟩ := zr1
        have pinsOf : ∀ {σ' : St} {H' : Hp} {s' : Shared}, Inv (ak X scope (tg ++ cs) C fp s2 H2) ([(D, (lso its k))] ++ b6 fp s7.heap) σ' H' s' ->
            (∀ b ∈ fp, ∀ o, s7.heap.get? b = some o -> s'.heap.get? b = some o) /\ (∀ b ∈ fp, H' b = none) /\ H' D = none /\ s'.heap.get? D = some (lso its k) := by
          intro σ' H' s' I'
          refine ⟨fun b hb o e => (I'.pin (b, o) (List.mem_append_right _ (List.mem_append_right _ (aQ hb e)))).1, fun b hb => ?_, (I'.pin (D, (lso its k)) (List.mem_append_right _ (List.mem_append_left _ List.mem_cons_self))).2.1, (I'.pin (D, (lso its k)) (List.mem_append_right _ (List.mem_append_left _ List.mem_cons_self))).1⟩
          obtain ⟨o, e, d⟩ := T.obj _ _ st7 b hb
          exact (I'.pin (b, o) (List.mem_append_right _ (List.mem_append_right _ (aQ hb e)))).2.1
        cases ok with
        | false =>
          obtain ⟨p1, p2, p3, p4⟩ := pinsOf I9
          exact wpAny_pure ⟨rfl, again (I9.pins_of fun p hp => nomatch hp) kp8 p1 p2 p3 p4 v5 q9⟩
        | true =>
          have q9 : tIn wi2 g2 tc2 te σ8 ys Nx H9 := q9
          obtain ⟨p1, p2, p3, p4⟩ := pinsOf I9
          have I9' : Inv (ak X scope (tg ++ cs) C fp s2 H2) (b6 fp s7.heap) σ8 H9 s9 := I9.pins_of fun p hp => I9.pin p (List.mem_append_right _ (List.mem_append_right _ hp))
          refine nW (Y := ak X scope (tg ++ cs) C fp s2 H2) hcalm (fun _ _ z => z) (hi2 C fp s2 H2) (hg2 C fp s2 H2) (hc2 C fp s2 H2) (he C fp s2 H2) kb8 I9' hDC Dfs (by show s2.heap.objs.size <= D; rw [hDg]; exact Nat.le_refl _) DcY (fun p hp z => ?_) p3 p4 v5 q9 (hs2 _) fun s12 zs its' k' H12 I12 d12 g12 v12 n12 => ?_
          · have hp : p ∈ b6 fp s7.heap := hp
            exact Dfp (z ▸ (fT hp).1)
          · have pn := fun (b : Addr) (hb : b ∈ fp) (o : Obj) (e : s7.heap.get? b = some o) => I12.pin (b, o) (List.mem_append_right _ (aQ hb e))
            refine wpAny_pure ⟨rfl, again (its' := its') (I12.pins_of fun p hp => nomatch hp) kp8 (fun b hb o e => (pn b hb o e).1) (fun b hb => ?_) d12 g12 v12 n12⟩
            obtain ⟨o, e, _⟩ := T.obj _ _ st7 b hb
            exact (pn b hb o e).2.1
    · rw [e4]; exact T.keep _ _ _ st2 fun b _ o e => old b o e
  exact codeAny_compStart_list (loop _ rfl) (T.self _ 0 _ _ _ (T.keep _ _ _ st2 fun b _ o e => old b o e) (loop _ rfl))
end
end L2
namespace VL
open PySem L2 PySem.W
section
variable {K : PySem.W.Frag} {H H4 H0 : Hp} {Z : AP} {σ σ4 σ5 : St} {S S4 : List Sl}
def DD : Sl -> Sl -> Sl
 | .no, _ => .no
 | _, b => b
def msk (S4 S : List Sl) : List Sl := List.zipWith DD S4 S
theorem iP {i : Nat} {s : Sl} (h : (msk S4 S)[i]? = some s) : s = .no \/ S[i]? = some s /\ ∃ t, S4[i]? = some t /\ t ≠ .no := by
 unfold msk at h
 rw [List.getElem?_zipWith] at h
 cases h1 : S4[i]? with
 | none => rw [h1] at h; cases h
 | some t =>
  cases h2 : S[i]? with
  | none => rw [h1, h2] at h; cases h
  | some u =>
   rw [h1, h2] at h
   cases t with
   | no => cases h; exact .inl rfl
   | val _ | fre _ | own _ | pen _ _ | odi _ _ | obj _ => cases h; exact .inr ⟨rfl, _, rfl, fun z => nomatch z⟩
theorem OK.forget (k4 : OK K H0 Z σ4 H4 S4) (k : OK K H0 Z σ5 H S) (st : Step Z σ4 S4 H4 σ5 S H) (hl : σ5.length = σ4.length) (hσ : ∀ (i : Nat) (v : V), σ4[i]? = some (some v) -> σ5[i]? = some (some v)) :
  OK K H0 Z σ4 H (msk S4 S) /\ Step Z σ4 S4 H4 σ4 (msk S4 S) H /\ ∀ a, NM Z σ5 S a -> NM Z σ4 (msk S4 S) a := by
 have at4 : ∀ {i : Nat} {t : Sl}, S4[i]? = some t -> t ≠ .no -> ∃ v, σ4[i]? = some (some v) := fun {i t} e hn => by
  obtain ⟨o, h1, q⟩ := k4.ownAt e
  cases t with
  | no => exact absurd rfl hn
  | val _ => obtain ⟨v, rfl, _⟩ := q; exact ⟨v, h1⟩
  | fre _ => obtain ⟨v, rfl, _⟩ := q; exact ⟨v, h1⟩
  | own _ => obtain ⟨a, _, rfl, _⟩ := q; exact ⟨_, h1⟩
  | pen _ _ => obtain ⟨a, rfl, _⟩ := q; exact ⟨_, h1⟩
  | odi _ _ => obtain ⟨a, _, rfl, _⟩ := q; exact ⟨_, h1⟩
  | obj _ => obtain ⟨a, rfl, _⟩ := q; exact ⟨_, h1⟩
 have mo : ∀ a, Mo Z σ4 (msk S4 S) a -> Mo Z σ5 S a := fun a z => by
  rcases z with ⟨i, s, h1, h2, h3⟩ | z
  ·rcases iP h1 with rfl | ⟨h4, _⟩
   ·cases h2
   ·exact .inl ⟨i, s, h4, h2, hσ i _ h3⟩
  ·exact .inr z
 have nm : ∀ a, NM Z σ5 S a -> NM Z σ4 (msk S4 S) a := fun a n z => n (mo a z)
 have hm : ∀ a, NM Z σ5 S a -> H a ≠ none -> NM Z σ4 (msk S4 S) a /\ H a = H a := fun a n _ => ⟨nm a n, rfl⟩
 refine ⟨⟨?_, fun i o s h1 h2 => ?_, fun i j a s t h1 h2 m1 m2 h3 h4 => ?_, k.dom, k.zl, fun i s a h1 h2 h3 => ?_⟩, ⟨fun a n e => ⟨(st.1 a n e).1, nm a (st.1 a n e).2⟩, st.2.1, st.2.2⟩, nm⟩
 ·have := k4.len; have := k.len
  unfold msk
  rw [List.length_zipWith]; lia
 ·rcases iP h2 with rfl | ⟨h4, t, h5, h6⟩
  ·trivial
  ·obtain ⟨v, e⟩ := at4 h5 h6
   rw [e] at h1; cases h1
   have q := k.at_ i _ s (hσ i v e) h4
   cases s with
   | no => trivial
   | val d => obtain ⟨v, e, r⟩ := q; exact ⟨v, e, r.mono hm fun _ x => x⟩
   | fre d => obtain ⟨v, e, r⟩ := q; exact ⟨v, e, r.mono hm fun _ x => x⟩
   | own ds => obtain ⟨a, vs, e, e', e0, r⟩ := q; exact ⟨a, vs, e, e', e0, r.mono hm fun _ x => x⟩
   | pen ad ns => exact q
   | odi ks ds => obtain ⟨a, vs, e, e', e0, ek, r⟩ := q; exact ⟨a, vs, e, e', e0, ⟨ek.1, ek.2.mono hm fun _ x => x⟩, r.mono hm fun _ x => x⟩
   | obj k => obtain ⟨a, e, e0, r⟩ := q; exact ⟨a, e, e0, k.mono hm rfl r⟩
 ·rcases iP h1 with rfl | ⟨h1, _⟩
  ·cases m1
  ·rcases iP h2 with rfl | ⟨h2, _⟩
   ·cases m2
   ·exact k.inj i j a s t h1 h2 m1 m2 (hσ i _ h3) (hσ j _ h4)
 ·rcases iP h1 with rfl | ⟨h1, _⟩
  ·cases h2
  ·exact k.nz i s a h1 h2 (hσ i _ h3)
end
section
variable {K : PySem.W.Frag} {X : Cx} {elt t1 i1 t2 i2 : Expr} {f1 f2 : List Expr} {scope : Scope} {pos : Pos}
def mQ (vi : VTN) (n : Nat) (ix : List Nat) (vg : VG) (vt : VTT) (vi2 : VTN) (vg2 : VG) (vt2 : VTT) (ve : VT) : VTN := fun S Q => vi S fun ds S1 => ds.length <= 1000 /\ ∃ Iv : Nat -> List D -> List Sl -> Prop, Iv 0 [] S1 /\
 (∀ i d ys S2, ds[i]? = some d -> Iv i ys S2 -> vg d (aZ n ix S2) fun S3 => vt S3 fun b S4 => if b = true then (vi2 S4 fun es S5 => es.length <= 1000 /\ ∃ Jv : Nat -> List D -> List Sl -> Prop, Jv 0 ys S5 /\
  (∀ j e zs S6, es[j]? = some e -> Jv j zs S6 -> vg2 e S6 fun S7 => vt2 S7 fun b2 S8 => if b2 = true then ve S8 fun r S9 => ∃ x, r = .d x /\ Jv (j + 1) (zs ++ [x]) (msk S6 S9) else Jv (j + 1) zs (msk S6 S8)) /\ ∀ zs S6, Jv es.length zs S6 -> Iv (i + 1) zs (backS n ix S2 S6))
  else Iv (i + 1) ys (backS n ix S2 S4)) /\
 ∀ ys S2, Iv ds.length ys S2 -> Q ys S2
theorem sx {tg cs : List Str} {wi wi2 : TI} {vi vi2 : VTN} {g g2 : TG} {vg vg2 : VG} {tc tc2 : TT} {vt vt2 : VTT} {te : TE} {ve : VT} (Sc : aV X scope tg cs ix) (hcalm : X.calm = true) (kg : iO tg.length ix g g2) (hnd : ix.Nodup)
  (hi : VI K X t1 i1 wi vi) (hg : ∀ C fp s H, VGe K (ak X scope (tg ++ cs) C fp s H) t1 g vg) (hc : ∀ C fp s H, VTs K (ak X scope (tg ++ cs) C fp s H) f1 tc vt) (hi2 : ∀ C fp s H, VI K (ak X scope (tg ++ cs) C fp s H) t2 i2 wi2 vi2)
  (hg2 : ∀ C fp s H, VGe K (ak X scope (tg ++ cs) C fp s H) t2 g2 vg2) (hc2 : ∀ C fp s H, VTs K (ak X scope (tg ++ cs) C fp s H) f2 tc2 vt2) (he : ∀ C fp s H, VE K (ak X scope (tg ++ cs) C fp s H) true elt te ve)
  (hs : ∀ x, foldedSetIterable i1 X.env x = pure x := by intro _; rfl) (hs2 : ∀ (e : Env) x, foldedSetIterable i2 e x = pure x := by intro _ _; rfl) : VN K X (two_of elt t1 i1 t2 i2 f1 f2 scope pos) (km wi tg.length ix g tc wi2 g2 tc2 te) (mQ vi tg.length ix vg vt vi2 vg2 vt2 ve) := by
 have sg : SndG K g vg := (hg 0 [] X.s₀ (fun _ => none)).snd
 have sc : SndT K tc vt := (hc 0 [] X.s₀ (fun _ => none)).snd
 have si2 : SndI K wi2 vi2 := (hi2 0 [] X.s₀ (fun _ => none)).snd
 have sg2 : SndG K g2 vg2 := (hg2 0 [] X.s₀ (fun _ => none)).snd
 have sc2 : SndT K tc2 vt2 := (hc2 0 [] X.s₀ (fun _ => none)).snd
 have se : SndE K true te ve := (he 0 [] X.s₀ (fun _ => none)).snd
 have hsz := sizeLine_eq
 refine ⟨su Sc hcalm kg hi.pi (fun C fp s H => (hg C fp s H).pg) (fun C fp s H => (hc C fp s H).pe) (fun C fp s H => (hi2 C fp s H).pi) (fun C fp s H => (hg2 C fp s H).pg) (fun C fp s H => (hc2 C fp s H).pe) (fun C fp s H => (he C fp s H).pe) hs hs2, fun H0 Z σ H S Q C k t hq => ?_⟩
 refine hi.snd H0 Z σ H S _ _ k t fun J ds H1 S1 k1 st1 gd zr1 => ?_
 obtain ⟨hl, Iv, i0, hs, hd⟩ := zr1
 refine ⟨fun i m ys H => m = ds.length - i /\ i <= ds.length /\ ys.length <= 1000 * i /\ ∃ S2 zs, OK K H0 Z σ H S2 /\ Step Z σ S1 H1 σ S2 H /\ Reps K (NM Z σ S2) (Fr H0) H ys zs /\ Iv i zs S2, ⟨ds.length, by simp, Nat.zero_le _, Nat.le_refl _, S1, [], k1, .refl, .nil, i0⟩, ?_⟩
 rintro i m ys H2 ⟨rfl, hi, hy, S2, zs, k2, st2, rz, p⟩
 obtain ⟨g1, g2', g3⟩ := gd σ S2 H2 (fun _ => k2.nm) st2 i
 by_cases hlt : i < ds.length
 ·refine .inr ⟨g1 hlt, fun ys' H' => ys'.length <= 1000 * (i + 1) /\ ∃ S' zs', OK K H0 Z σ H' S' /\ Step Z σ S1 H1 σ S' H' /\ Reps K (NM Z σ S') (Fr H0) H' ys' zs' /\ Iv (i + 1) zs' S', fun ys' H' zt1 => by obtain ⟨p1, p2⟩ := zt1; exact ⟨ds.length - (i + 1), by lia, rfl, hlt, p1, p2⟩, fun x H3 y => ?_⟩
  obtain ⟨hgr, d, hd', rd⟩ := g2' x H3 y hlt
  replace k2 := k2.grow hgr
  replace st2 := st2.trans (.grow hgr)
  replace rz := rz.step (.grow hgr)
  have kc := k2.capt (n := tg.length) hnd
  have rd' : Rep K (NM (Zin Z ix σ S2) (L2.capt tg.length ix σ) (aZ tg.length ix S2)) AnyF H3 x d := rd.mono (fun a n _ => ⟨fun z => n (ei.mp z), rfl⟩) fun _ x => x
  have rzc : Reps K (NM (Zin Z ix σ S2) (L2.capt tg.length ix σ) (aZ tg.length ix S2)) (Fr H0) H3 ys zs := rz.mono (fun a n _ => ⟨fun z => n (ei.mp z), rfl⟩) fun _ x => x
  have h1 := sg H0 _ _ H3 _ x d _ (fun σ4 H4 => ∃ S4, OK K H0 (Zin Z ix σ S2) σ4 H4 S4 /\ Step (Zin Z ix σ S2) (L2.capt tg.length ix σ) (aZ tg.length ix S2) H3 σ4 S4 H4 /\ vt S4 fun b S5 => if b = true then (vi2 S5 fun es S5 => es.length <= 1000 /\ ∃ Jv : Nat -> List D -> List Sl -> Prop, Jv 0 zs S5 /\
   (∀ j e zs S6, es[j]? = some e -> Jv j zs S6 -> vg2 e S6 fun S7 => vt2 S7 fun b2 S8 => if b2 = true then ve S8 fun r S9 => ∃ x, r = .d x /\ Jv (j + 1) (zs ++ [x]) (msk S6 S9) else Jv (j + 1) zs (msk S6 S8)) /\ ∀ zs S6, Jv es.length zs S6 -> Iv (i + 1) zs (backS tg.length ix S2 S6)) else Iv (i + 1) zs (backS tg.length ix S2 S5)) kc rd' (hs i d zs S2 hd' p) (fun σ4 H4 S4 k4 st4 q4 => ⟨S4, k4, st4, q4⟩)
  have h2 := kg x σ H3 _ h1
  refine (hg 0 [] X.s₀ (fun _ => none)).mono _ _ _ _ _ ?_ h2
  rintro σ4 H4 ⟨⟨⟨hl4, hσ4⟩, kb⟩, S4, k4, st4, q4⟩
  refine sc H0 _ σ4 H4 S4 _ _ k4 q4 fun bb H5 S5 k5 st5 q5 => ?_
  cases bb with
  | false =>
   rw [if_neg Bool.false_ne_true] at q5 ⊢
   obtain ⟨kb', sb, nb⟩ := k2.back k5 (st4.trans st5) hσ4
   exact ⟨by lia, _, zs, kb', st2.trans sb, rz.step sb, q5⟩
  | true =>
   rw [if_pos rfl] at q5 ⊢
   refine si2 H0 _ σ4 H5 S5 _ _ k5 q5 fun J2 es H6 S6 k6 st6 gd2 zr1 => ?_
   obtain ⟨hl2, Jv, j0, hj, hd2⟩ := zr1
   have stA := (st4.trans st5).trans st6
   refine ⟨fun j m us H => m = es.length - j /\ j <= es.length /\ us.length <= 1000 * i + j /\ ∃ S7 ws, OK K H0 (Zin Z ix σ S2) σ4 H S7 /\ Step (Zin Z ix σ S2) σ4 S6 H6 σ4 S7 H /\ Reps K (NM (Zin Z ix σ S2) σ4 S7) (Fr H0) H us ws /\ Jv j ws S7, ⟨es.length, by simp, Nat.zero_le _, by lia, S6, zs, k6, .refl, rzc.step stA, j0⟩, ?_⟩
   rintro j m us H7 ⟨rfl, hjl, hul, S7, ws, k7, st7, rw7, p7⟩
   obtain ⟨a1, a2, a3⟩ := gd2 σ4 S7 H7 (fun _ => k7.nm) st7 j
   by_cases hlt2 : j < es.length
   ·refine .inr ⟨a1 hlt2, by lia, fun us' H' => us'.length <= 1000 * i + (j + 1) /\ ∃ S' ws', OK K H0 (Zin Z ix σ S2) σ4 H' S' /\ Step (Zin Z ix σ S2) σ4 S6 H6 σ4 S' H' /\ Reps K (NM (Zin Z ix σ S2) σ4 S') (Fr H0) H' us' ws' /\ Jv (j + 1) ws' S', fun us' H' zt1 => by obtain ⟨p1, p2⟩ := zt1; exact ⟨es.length - (j + 1), by lia, rfl, hlt2, p1, p2⟩, fun x2 H8 y2 => ?_⟩
    obtain ⟨hgr, e, he', re⟩ := a2 x2 H8 y2 hlt2
    replace k7 := k7.grow hgr
    replace st7 := st7.trans (.grow hgr)
    replace rw7 := rw7.step (.grow hgr)
    have h3 := sg2 H0 _ σ4 H8 S7 x2 e _ (fun σ5 H9 => ∃ S9, OK K H0 (Zin Z ix σ S2) σ5 H9 S9 /\ Step (Zin Z ix σ S2) σ4 S7 H8 σ5 S9 H9 /\ vt2 S9 fun b2 S8 => if b2 = true then ve S8 fun r S9 => ∃ x, r = .d x /\ Jv (j + 1) (ws ++ [x]) (msk S7 S9) else Jv (j + 1) ws (msk S7 S8)) k7 re (hj j e ws S7 he' p7) (fun σ5 H9 S9 k9 st9 q9 => ⟨S9, k9, st9, q9⟩)
    refine (hg2 0 [] X.s₀ (fun _ => none)).mono _ _ _ _ _ ?_ (kb x2 H8 _ h3)
    rintro σ5 H9 ⟨⟨hl5, hσ5⟩, S9, k9, st9, q9⟩
    refine sc2 H0 _ σ5 H9 S9 _ _ k9 q9 fun b2 H10 S10 k10 st10 q10 => ?_
    cases b2 with
    | false =>
     rw [if_neg Bool.false_ne_true] at q10 ⊢
     obtain ⟨kf, sf, nf⟩ := k7.forget k10 (st9.trans st10) hl5 hσ5
     exact ⟨by lia, _, ws, kf, st7.trans sf, rw7.step sf, q10⟩
    | true =>
     rw [if_pos rfl] at q10 ⊢
     refine se H0 _ σ5 H10 S10 _ _ k10 q10 fun vv H11 r S11 k11 st11 rr zr1 => ?_
     obtain ⟨xx, er, q11⟩ := zr1
     subst er
     obtain ⟨kf, sf, nf⟩ := k7.forget k11 ((st9.trans st10).trans st11) hl5 hσ5
     exact ⟨by simp; lia, _, ws ++ [xx], kf, st7.trans sf, Reps.append (rw7.step sf) (.cons (Rep.mono (fun a n _ => ⟨nf a n, rfl⟩) (fun _ x => x rfl) rr) .nil), q11⟩
   ·have e : j = es.length := by lia
    obtain ⟨kb', sb, nb⟩ := k2.back k7 (stA.trans st7) hσ4
    exact .inl ⟨a3 e, by lia, _, ws, kb', st2.trans sb, rw7.mono (fun a n _ => ⟨nb a n, rfl⟩) fun _ x => x, hd2 ws S7 (by rw [<- e]; exact p7)⟩
 ·have e : i = ds.length := by lia
  refine .inl ⟨g3 e, by lia, fun l hp => ?_⟩
  exact hq l ys zs H2 _ S2 k2 (st1.trans st2) hp (ba hp) aD (cC hp (rz.mono (fun _ n _ => ⟨n, rfl⟩) fun _ x _ => x)) (hd zs S2 (by rw [<- e]; exact p))
theorem pI {spos py : Pos} {yy : Str} {ii : Nat} {tg cs : List Str} {wi wi2 : TI} {vi vi2 : VTN} {g g2 : TG} {vg vg2 : VG} {tc tc2 : TT} {vt vt2 : VTT} {te : TE} {ve : VT} (hN0 : X.N.Nodup) (hi0 : X.N[ii]? = some yy) (hx0 : Loc X.env.scope yy) (hf0 : X.fn yy = true \/ X.env.scope.names.lookup yy = some .local) (Sc : aV X scope tg cs ix) (hcalm : X.calm = true) (kg : iO tg.length ix g g2) (hnd : ix.Nodup)
  (hi : VI K X t1 i1 wi vi) (hg : ∀ C fp s H, VGe K (ak X scope (tg ++ cs) C fp s H) t1 g vg) (hc : ∀ C fp s H, VTs K (ak X scope (tg ++ cs) C fp s H) f1 tc vt) (hi2 : ∀ C fp s H, VI K (ak X scope (tg ++ cs) C fp s H) t2 i2 wi2 vi2)
  (hg2 : ∀ C fp s H, VGe K (ak X scope (tg ++ cs) C fp s H) t2 g2 vg2) (hc2 : ∀ C fp s H, VTs K (ak X scope (tg ++ cs) C fp s H) f2 tc2 vt2) (he : ∀ C fp s H, VE K (ak X scope (tg ++ cs) C fp s H) true elt te ve)
  (hsw : swapsWith (two_of elt t1 i1 t2 i2 f1 f2 scope pos) (some (.Name yy py)) spos.line X.env = pure true := by rfl) (hs : ∀ x, foldedSetIterable i1 X.env x = pure x := by intro _; rfl) (hs2 : ∀ (e : Env) x, foldedSetIterable i2 e x = pure x := by intro _ _; rfl) :
  VS K X (.Assign [.Name yy py] (two_of elt t1 i1 t2 i2 f1 f2 scope pos) spos) (dk (km wi tg.length ix g tc wi2 g2 tc2 te) (bq ii)) (qN ii (mQ vi tg.length ix vg vt vi2 vg2 vt2 ve)) := by
 have h := sx (pos := pos) Sc hcalm kg hnd hi hg hc hi2 hg2 hc2 he hs hs2
 refine ⟨pH hN0 hi0 hx0 Sc hcalm kg hi.pi (fun C fp s H => (hg C fp s H).pg) (fun C fp s H => (hc C fp s H).pe) (fun C fp s H => (hi2 C fp s H).pi) (fun C fp s H => (hg2 C fp s H).pg) (fun C fp s H => (hc2 C fp s H).pe) (fun C fp s H => (he C fp s H).pe) hf0 hsw hs hs2, fun H0 Z σ H S V E k t l => h.snd H0 Z σ H S _ _ k t fun a vs ds H1 H' S' k1 st1 ha hg hl rr zr1 => ?_⟩
 obtain ⟨hi, q⟩ := zr1
 obtain ⟨k2, st2⟩ := k1.setNew (s := .own ds) hi ha hg ⟨a, vs, rfl, hl, k1.dom a ha, rr⟩ rfl
 exact l.nx _ _ _ k2 (st1.trans st2) q
end
end VL
end
section
namespace VL
open PySem L2 PySem.W
section
variable {α β : Type} {n : Nat} {ix : List Nat} {g g2 : VG} {vt vt2 : VTT} {vi vi2 : VTN} {ve vk vv : VT} {S : List Sl}
def zK (rk : VR) (A : List Int -> D -> List Sl -> Prop) : VR -> List Sl -> Prop := fun rv S6 => ∃ ms x, get S6 rk = some (kT ms) /\ rv = .d x /\ A ms x S6
def zL (vv : VT) (A : List Int -> D -> List Sl -> Prop) : VR -> List Sl -> Prop := fun rk S5 => vv S5 (zK rk A)
def u4 (vk vv : VT) (A : List Int -> D -> List Sl -> Prop) (B : List Sl -> Prop) : Bool -> List Sl -> Prop := fun b S4 => if b = true then vk S4 (zL vv A) else B S4
def sy (n : Nat) (ix : List Nat) (g : VG) (vt : VTT) (vk vv : VT) (Q : List (List Int × D) -> List Sl -> Prop) : List D -> List Sl -> Prop := fun ds S1 => ds.length <= 1000000 /\ ∃ Iv : Nat -> List (List Int × D) -> List Sl -> Prop, Iv 0 [] S1 /\
 (∀ i d kvs S2, ds[i]? = some d -> Iv i kvs S2 -> g d (aZ n ix S2) fun S3 => vt S3 (u4 vk vv (fun ms x S6 => Iv (i + 1) (fj kvs ms x) (backS n ix S2 S6)) fun S4 => Iv (i + 1) kvs (backS n ix S2 S4))) /\ ∀ kvs S2, Iv ds.length kvs S2 -> Q kvs S2
theorem u5 {Q : List (List Int × D) -> List Sl -> Prop} (h : vi S (sy n ix g vt vk vv Q)) : sh vi n ix g vt vk vv S Q := h
theorem zM {A : List Int -> D -> List Sl -> Prop} {B : List Sl -> Prop} (h : vk S (zL vv A)) : u4 vk vv A B true S := by unfold u4; rw [if_pos rfl]; exact h
theorem zN {A : List Int -> D -> List Sl -> Prop} {rk : VR} (h : vv S (zK rk A)) : zL vv A rk S := h
theorem zO {A : List Int -> D -> List Sl -> Prop} {rk : VR} {x : D} (e : get S rk = some (kT ms)) (h : A ms x S) : zK rk A (.d x) S := ⟨ms, x, e, rfl, h⟩
theorem pJ {Q : List (List Int × D) -> List Sl -> Prop} {xs : List α} {en f : α -> D} {ky : α -> List Int} (hl : xs.length <= 1000000)
  (h : ∀ x ∈ xs, ∀ (A : List Int -> D -> List Sl -> Prop) (B : List Sl -> Prop), (∀ S5, backS n ix S S5 = S -> A (ky x) (f x) S5) -> g (en x) (aZ n ix S) fun S3 => vt S3 (u4 vk vv A B))
  (h2 : Q (xs.foldl (fun kvs x => fj kvs (ky x) (f x)) []) S) : sy n ix g vt vk vv Q (xs.map en) S := by
 refine ⟨by simpa using hl, fun i kvs S' => S' = S /\ kvs = (xs.take i).foldl (fun kvs x => fj kvs (ky x) (f x)) [], ⟨rfl, by simp⟩, ?_, ?_⟩
 ·rintro i d kvs S2 e ⟨rfl, rfl⟩
  obtain ⟨x, h1, rfl, hm, ht⟩ := bP e
  refine h x hm _ _ fun S5 e5 => ⟨e5, ?_⟩
  rw [ht, List.foldl_append]
  rfl
 ·rintro kvs S2 ⟨rfl, rfl⟩
  rw [List.length_map, List.take_length]
  exact h2
theorem sA {k c : List Int} : c ∈ (fj kvs k d).map (·.1) ↔ c = k \/ c ∈ kvs.map (·.1) := by
 unfold fj
 split
 ·next h =>
  rw [show (kvs.map fun x => if x.1 = k then (x.1, d) else x).map (·.1) = kvs.map (·.1) from iL kvs k d]
  exact ⟨.inr, fun z => z.elim (fun e => e ▸ h) id⟩
 ·simp [or_comm]
theorem jE {α : Type} {ky : α -> List Int} {f : α -> D} {c : List Int} : ∀ (xs : List α) (kvs : List (List Int × D)), c ∈ (xs.foldl (fun kvs x => fj kvs (ky x) (f x)) kvs).map (·.1) ↔ c ∈ xs.map ky \/ c ∈ kvs.map (·.1)
 | [], kvs => by simp
 | x :: xs, kvs => by
  rw [List.foldl_cons, jE xs, sA, List.map_cons, List.mem_cons]
  exact ⟨fun z => z.elim (fun h => .inl (.inr h)) fun z => z.elim (fun h => .inl (.inl h)) .inr, fun z => z.elim (fun z => z.elim (fun h => .inr (.inl h)) .inl) fun h => .inr (.inr h)⟩
def zP (vg2 : VG) (vt2 : VTT) (ve : VT) (ys : List D) (A : List D -> List Sl -> Prop) : List D -> List Sl -> Prop := fun es S5 => es.length <= 1000 /\ ∃ Jv : Nat -> List D -> List Sl -> Prop, Jv 0 ys S5 /\
 (∀ j e zs S6, es[j]? = some e -> Jv j zs S6 -> vg2 e S6 fun S7 => vt2 S7 (fh ve (fun x S9 => Jv (j + 1) (zs ++ [x]) (msk S6 S9)) fun S8 => Jv (j + 1) zs (msk S6 S8))) /\ ∀ zs S6, Jv es.length zs S6 -> A zs S6
def u6 (vi2 : VTN) (vg2 : VG) (vt2 : VTT) (ve : VT) (ys : List D) (A : List D -> List Sl -> Prop) (B : List Sl -> Prop) : Bool -> List Sl -> Prop := fun b S4 => if b = true then vi2 S4 (zP vg2 vt2 ve ys A) else B S4
def mR (n : Nat) (ix : List Nat) (g : VG) (vt : VTT) (vi2 : VTN) (vg2 : VG) (vt2 : VTT) (ve : VT) (Q : List D -> List Sl -> Prop) : List D -> List Sl -> Prop := fun ds S1 => ds.length <= 1000 /\ ∃ Iv : Nat -> List D -> List Sl -> Prop, Iv 0 [] S1 /\
 (∀ i d ys S2, ds[i]? = some d -> Iv i ys S2 -> g d (aZ n ix S2) fun S3 => vt S3 (u6 vi2 vg2 vt2 ve ys (fun zs S6 => Iv (i + 1) zs (backS n ix S2 S6)) fun S4 => Iv (i + 1) ys (backS n ix S2 S4))) /\ ∀ ys S2, Iv ds.length ys S2 -> Q ys S2
theorem u7 {Q : List D -> List Sl -> Prop} (h : vi S (mR n ix g vt vi2 g2 vt2 ve Q)) : mQ vi n ix g vt vi2 g2 vt2 ve S Q := h
theorem zQ {ys : List D} {A : List D -> List Sl -> Prop} {B : List Sl -> Prop} (h : vi2 S (zP g2 vt2 ve ys A)) : u6 vi2 g2 vt2 ve ys A B true S := by unfold u6; rw [if_pos rfl]; exact h
theorem pK {Q : List D -> List Sl -> Prop} {xs : List α} {en : α -> D} {r : α -> List D} (hl : xs.length <= 1000)
  (h : ∀ x ∈ xs, ∀ (ys : List D) (A : List D -> List Sl -> Prop) (B : List Sl -> Prop), (∀ S5, backS n ix S S5 = S -> A (ys ++ r x) S5) -> g (en x) (aZ n ix S) fun S3 => vt S3 (u6 vi2 g2 vt2 ve ys A B)) (h2 : Q (xs.flatMap r) S) : mR n ix g vt vi2 g2 vt2 ve Q (xs.map en) S := by
 refine ⟨by simpa using hl, fun i ys S' => S' = S /\ ys = (xs.take i).flatMap r, ⟨rfl, by simp⟩, ?_, ?_⟩
 ·rintro i d ys S2 e ⟨rfl, rfl⟩
  obtain ⟨x, h1, rfl, hm, ht⟩ := bP e
  refine h x hm _ _ _ fun S5 e5 => ⟨e5, ?_⟩
  rw [ht, List.flatMap_append]
  simp
 ·rintro ys S2 ⟨rfl, rfl⟩
  rw [List.length_map, List.take_length]
  exact h2
end
end VL
end
section
namespace VL
open PySem L2
section
variable {K : PySem.W.Frag} {X : Cx} {c e tg : Expr} {a : List Stmt} {tc : TT} {vt : VTT} {ta : TS} {wi : TI} {vi : VTN} {j : Nat} {pos ipos : Pos} {S : List Sl}
def nX : Sl -> Sl
 | .own ds => .val (.lst ds)
 | .odi ks ds => .val (.dic ks ds)
 | .pen _ _ => .no
 | .obj _ => .no
 | s => s
def lend (S : List Sl) : List Sl := S.map nX
theorem cM : ∀ S : List Sl, Wk S (lend S)
 | [] => .nil
 | s :: r => by
  cases s with
  | own ds => exact .fz (cM r)
  | odi ks ds => exact .fd (cM r)
  | pen ad ns => exact .drop (cM r)
  | obj k => exact .drop (cM r)
  | no => exact .keep (cM r)
  | val d => exact .keep (cM r)
  | fre d => exact .keep (cM r)
theorem nY : ∀ {S : List Sl} {j : Nat}, j < S.length -> Wk S (S.set j .no)
 | [], _, h => absurd h (Nat.not_lt_zero _)
 | _ :: r, 0, _ => .drop (Wk.refl r)
 | _ :: r, j + 1, h => .keep (nY (by simpa using h))
def Idle (S : List Sl) : Prop := ∀ (i : Nat) (s : Sl), S[i]? = some s -> s.mut = false
theorem jF (S : List Sl) : Idle (lend S) := fun i s h => by
 unfold lend at h
 rw [List.getElem?_map] at h
 cases hs : S[i]? with
 | none => rw [hs] at h; cases h
 | some t =>
  rw [hs] at h
  obtain rfl := Option.some.inj h
  cases t <;> rfl
theorem Idle.set (h : Idle S) {j : Nat} {s : Sl} (hs : s.mut = false) : Idle (S.set j s) := fun i t e => by
 by_cases e1 : j = i
 ·subst e1
  rw [List.getElem?_set_self'] at e
  cases hr : S[j]? with
  | none => rw [hr] at e; cases e
  | some z => rw [hr] at e; obtain rfl := Option.some.inj e; exact hs
 ·rw [List.getElem?_set_ne e1] at e; exact h i t e
theorem Idle.mo (h : Idle S) {b : Addr} : Mo Z σ S b ↔ Z b :=
 ⟨fun m => by
  rcases m with ⟨k, t, h1, h2, _⟩ | m
  ·rw [h k t h1] at h2; cases h2
  ·exact m, .inr⟩
theorem Idle.grow (h : Idle S) {H H' : Hp} {σ σ' : St} {S' : List Sl} (st : Step Z σ S H σ' S' H') : ∀ b, H b ≠ none -> H' b = H b := fun b hb => by
 by_cases z : Z b
 ·exact st.2.2 b z hb
 ·exact (st.1 b (fun m => z (h.mo.mp m)) hb).1
theorem Idle.step {S' : List Sl} (h' : Idle S') {H H' : Hp} {σ σ' : St} (g : ∀ b, H b ≠ none -> H' b = H b) : Step Z σ S H σ' S' H' :=
 ⟨fun b n hb => ⟨g b hb, fun m => n (.inr (h'.mo.mp m))⟩, fun b e => Classical.byContradiction fun z => by rw [g b z] at e; exact z e, fun b _ hb => g b hb⟩
theorem OK.setNo {H0 H : Hp} {v : L2.V} (k : OK K H0 Z σ H S) (hj : j < S.length) : OK K H0 Z (σ.set j (some v)) H (S.set j .no) /\ Step Z σ S H (σ.set j (some v)) (S.set j .no) H := by
 have n : ∀ b, NM Z σ S b -> NM Z (σ.set j (some v)) (S.set j .no) b := fun b x z => by
  rcases ir z with z | ⟨z, _⟩
  ·exact x z
  ·cases z
 exact ⟨k.put hj (fun b x _ => ⟨n b x, rfl⟩) (fun _ _ _ _ _ _ _ => rfl) trivial (fun _ _ _ _ _ _ z => nomatch z) (fun _ e => e) k.zl (fun _ z => nomatch z), fun b x _ => ⟨rfl, n b x⟩, fun _ e => e, fun _ _ _ => rfl⟩
end
end VL
end
section
namespace VL
open PySem L2
abbrev ZP (Z P : AP) : AP := fun b => Z b \/ P b
section
variable {K : PySem.W.Frag} {N N' : AP} {F : FP} {H H' H0 : Hp} {Z P : AP} {σ σ' : St} {S S' : List Sl}
mutual
theorem Rep.mark {v : L2.V} {d : D} : Rep K N F H v d -> Rep K N (fun o => F o /\ ∀ a, o = some a -> N a /\ IsM (H a)) H v d
 | .int i => .int i
 | .bl i => .bl i
 | .non => .non
 | .str i => .str i
 | .ty i => .ty i
 | .tup n h r => .tup n h (Reps.mark r)
 | .tupK h r => .tupK h (Reps.mark r)
 | .lst n f h r => .lst n ⟨f, fun a e => by cases e; exact ⟨n, by rw [h]; trivial⟩⟩ h (Reps.mark r)
 | .lstF n f h r => .lstF n ⟨f, fun a e => nomatch e⟩ h (Reps.mark r)
 | .lstK f h r => .lstK ⟨f, fun a e => nomatch e⟩ h (Reps.mark r)
 | .dic n f h e rk r => .dic n ⟨f, fun a e => by cases e; exact ⟨n, by rw [h]; trivial⟩⟩ h e (Reps.mark rk) (Reps.mark r)
 | .exc n h e => .exc n h e
theorem Reps.mark {vs : List L2.V} {ds : List D} : Reps K N F H vs ds -> Reps K N (fun o => F o /\ ∀ a, o = some a -> N a /\ IsM (H a)) H vs ds
 | .nil => .nil
 | .cons h t => .cons (Rep.mark h) (Reps.mark t)
end
theorem OK.growP (k : OK K H0 Z σ H S) (h : ∀ a, H a ≠ none -> H' a = H a) (hP : ∀ b, P b -> H b = none /\ IsM (H' b)) : OK K H0 (ZP Z P) σ H' S := by
 have nm : ∀ a, NM Z σ S a -> H a ≠ none -> NM (ZP Z P) σ S a := fun a n e z => by
  rcases z with z | z | z
  ·exact n (.inl z)
  ·exact n (.inr z)
  ·exact e (hP a z).1
 have hm : ∀ a, NM Z σ S a -> H a ≠ none -> NM (ZP Z P) σ S a /\ H' a = H a := fun a n e => ⟨nm a n e, h a e⟩
 refine ⟨k.len, fun i o s e1 e2 => ?_, k.inj, fun a e => k.dom a (Classical.byContradiction fun z => by rw [h a z] at e; exact z e), fun a z => ?_, fun i s a h1 h2 h3 z => ?_⟩
 ·have q := k.at_ i o s e1 e2
  cases s with
  | no => trivial
  | val d => obtain ⟨v, e, r⟩ := q; exact ⟨v, e, r.mono hm fun _ x => x⟩
  | fre d => obtain ⟨v, e, r⟩ := q; exact ⟨v, e, r.mono hm fun _ x => x⟩
  | own ds => obtain ⟨a, vs, e, e', e0, r⟩ := q; exact ⟨a, vs, e, by rw [h a (by simp [e'])]; exact e', e0, r.mono hm fun _ x => x⟩
  | pen ad ns => obtain ⟨a, e, e1, e'⟩ := q; exact ⟨a, e, e1, by rw [h a (by simp [e'])]; exact e'⟩
  | odi ks ds => obtain ⟨a, vs, e, ⟨ob, e'⟩, e0, ek, r⟩ := q; exact ⟨a, vs, e, ⟨ob, by rw [h a (by simp [e'])]; exact e'⟩, e0, ⟨ek.1, ek.2.mono hm fun _ x => x⟩, r.mono hm fun _ x => x⟩
  | obj k => obtain ⟨a, e, e0, r⟩ := q; exact ⟨a, e, e0, k.mono hm (h a (k.ism r).ne) r⟩
 ·rcases z with z | z
  ·have e := k.zl a z
   rw [h a e.ne]; exact e
  ·exact (hP a z).2
 ·rcases z with z | z
  ·exact k.nz i s a h1 h2 h3 z
  ·exact (k.mo (.inl ⟨i, s, h1, h2, h3⟩)).ne (hP a z).1
theorem nZ {a : Addr} (n : NM (ZP Z P) σ S a) : NM Z σ S a := fun z => n (z.elim .inl fun y => .inr (.inl y))
theorem OK.chP (k : OK K H0 (ZP Z P) σ H S) (h : ∀ a, H a ≠ none -> ¬P a -> H' a = H a) (hd : ∀ a, H' a = none -> H a = none) (dj : ∀ b, P b -> ¬Z b) : OK K H0 Z σ H' S := by
 have hm : ∀ a, NM (ZP Z P) σ S a -> H a ≠ none -> NM Z σ S a /\ H' a = H a := fun a n e => ⟨nZ n, h a e fun z => n (.inr (.inr z))⟩
 have np : ∀ (i : Nat) (s : Sl) (a : Addr), S[i]? = some s -> s.mut = true -> σ[i]? = some (some (L2.V.ref a)) -> ¬P a := fun i s a h1 h2 h3 z => k.nz i s a h1 h2 h3 (.inr z)
 refine ⟨k.len, fun i o s e1 e2 => ?_, k.inj, fun a e => k.dom a (hd a e), fun a z => ?_, fun i s a h1 h2 h3 z => k.nz i s a h1 h2 h3 (.inl z)⟩
 ·have q := k.at_ i o s e1 e2
  cases s with
  | no => trivial
  | val d => obtain ⟨v, e, r⟩ := q; exact ⟨v, e, r.mono hm fun _ x => x⟩
  | fre d => obtain ⟨v, e, r⟩ := q; exact ⟨v, e, r.mono hm fun _ x => x⟩
  | own ds => obtain ⟨a, vs, e, e', e0, r⟩ := q; exact ⟨a, vs, e, by rw [h a (by simp [e']) (np i _ a e2 rfl (by rw [e1, e]))]; exact e', e0, r.mono hm fun _ x => x⟩
  | pen ad ns => obtain ⟨a, e, e3, e'⟩ := q; exact ⟨a, e, e3, by rw [h a (by simp [e']) (np i _ a e2 rfl (by rw [e1, e]))]; exact e'⟩
  | odi ks ds => obtain ⟨a, vs, e, ⟨ob, e'⟩, e0, ek, r⟩ := q; exact ⟨a, vs, e, ⟨ob, by rw [h a (by simp [e']) (np i _ a e2 rfl (by rw [e1, e]))]; exact e'⟩, e0, ⟨ek.1, ek.2.mono hm fun _ x => x⟩, r.mono hm fun _ x => x⟩
  | obj kk => obtain ⟨a, e, e0, r⟩ := q; exact ⟨a, e, e0, kk.mono hm (h a (kk.ism r).ne (np i _ a e2 rfl (by rw [e1, e]))) r⟩
 ·have e := k.zl a (.inl z)
  by_cases p : P a
  ·exact absurd z (dj a p)
  ·rw [h a e.ne p]; exact e
def lendF : Sl -> Sl
 | .fre d => .val d
 | s => nX s
theorem iQ (S : List Sl) : Idle (S.map lendF) := fun i s h => by
 rw [List.getElem?_map] at h
 cases hs : S[i]? with
 | none => rw [hs] at h; cases h
 | some t =>
  rw [hs] at h
  obtain rfl := Option.some.inj h
  cases t <;> rfl
theorem OK.lendF (k : OK K H0 Z σ H S) : OK K H Z σ H (S.map VL.lendF) := by
 have il := iQ S
 have kl := (k.wk (cM S)).1
 have inz := jF S
 refine ⟨by rw [k.len, List.length_map], fun i o s e1 e2 => ?_, fun i j a s t h1 _ m => ?_, fun _ e => e, k.zl, fun i s a h1 m => ?_⟩
 ·rw [List.getElem?_map] at e2
  cases hs : S[i]? with
  | none => rw [hs] at e2; cases e2
  | some t =>
   rw [hs] at e2
   obtain rfl := Option.some.inj e2
   have q := kl.at_ i o (nX t) e1 (by unfold lend; rw [List.getElem?_map, hs]; rfl)
   have hm : ∀ a, NM Z σ (lend S) a -> H a ≠ none -> NM Z σ (S.map VL.lendF) a /\ H a = H a := fun a n _ => ⟨fun z => n (.inr (il.mo.mp z)), rfl⟩
   cases t with
   | no => trivial
   | val d => obtain ⟨v, e, r⟩ := q; exact ⟨v, e, r.mono hm fun _ x => x⟩
   | fre d => obtain ⟨v, e, r⟩ := q; exact ⟨v, e, r.mono hm fun _ _ => trivial⟩
   | own ds => obtain ⟨v, e, r⟩ := q; exact ⟨v, e, r.mono hm fun _ x => x⟩
   | pen ad ns => trivial
   | odi ks ds => obtain ⟨v, e, r⟩ := q; exact ⟨v, e, r.mono hm fun _ x => x⟩
   | obj k => trivial
 ·rw [il i s h1] at m; cases m
 ·rw [il i s h1] at m; cases m
end
end VL
end
section
namespace VL
open PySem L2
section
variable {β : Type} {S : List Sl} {g2 : VG} {vt2 : VTT} {ve : VT}
theorem pL {xs : List β} {en f : β -> D} {p : β -> Bool} {ys : List D} {A : List D -> List Sl -> Prop} (hl : xs.length <= 1000)
  (h : ∀ x ∈ xs, ∀ (A : D -> List Sl -> Prop) (B : List Sl -> Prop), (∀ S5, msk S S5 = S -> p x = true -> A (f x) S5) -> (∀ S5, msk S S5 = S -> p x = false -> B S5) -> g2 (en x) S fun S3 => vt2 S3 (fh ve A B)) (h2 : A (ys ++ (xs.filter p).map f) S) : zP g2 vt2 ve ys A (xs.map en) S := by
 refine ⟨by simpa using hl, fun j zs S' => S' = S /\ zs = ys ++ ((xs.take j).filter p).map f, ⟨rfl, by simp⟩, ?_, ?_⟩
 ·rintro i d zs S2 e ⟨rfl, rfl⟩
  obtain ⟨x, h1, rfl, hm, ht⟩ := bP e
  refine h x hm _ _ (fun S5 e5 hp => ⟨e5, ?_⟩) (fun S5 e5 hp => ⟨e5, ?_⟩)
  ·rw [ht, List.filter_append, List.map_append, <- List.append_assoc]
   simp [hp]
  ·rw [ht, List.filter_append, List.map_append]
   simp [hp]
 ·rintro zs S2 ⟨rfl, rfl⟩
  rw [List.length_map, List.take_length]
  exact h2
end
end VL
end
section
namespace L2
open PySem PySem.Spec PyProof.Rows
def Cu (i j : Int) : Prop := 0 < j /\ j < 2 ^ 200
theorem sC {X : Cx} : OpR X (binaryOp .FloorDiv) (rI Cu fun i j => .int (i / j)) := opI fun i j _ _ _ _ _ hc q => by
 have h1 : (0 : Int) < j := hc.1
 have h2 : j < 2 ^ 200 := hc.2
 refine floordiv_int (by lia) (by rw [Int.fdiv_eq_ediv_of_nonneg i (by lia)]; exact q) (.inl (PyProof.noPylong_of_log2 ?_))
 have h3 : j.natAbs < 2 ^ 200 := by
  have : (2 : Int) ^ 200 = ((2 ^ 200 : Nat) : Int) := by decide +kernel
  lia
 have h0 : j.natAbs ≠ 0 := by lia
 exact Nat.lt_trans ((Nat.log2_lt h0).mpr h3) (by decide)
end L2
end
section
namespace L2
open PySem PySem.Spec PyProof.Rows
theorem Inv.turnedL {X : Cx} {s : Shared} {h' : Heap} {t' : Nat} {fp : List Addr} (I : Inv X pins σ H s) (k : ∀ b o, b ∉ fp -> s.heap.get? b = some o -> h'.get? b = some o) (hf : ∀ b ∈ fp, dY X pins H b) :
  Inv X pins σ H { s with heap := h', toks := t' } := by
 have ne : ∀ b u, H b = some u -> b ∉ fp := fun b u q z => by rw [(hf b z).1] at q; cases q
 refine I.step (g' := s.gens) (d' := s.drawn) (ch := fp) (fun b hb => ?_) (fun b o _ _ hc q _ => k b o hc q) (fun b o _ _ hc q _ => ⟨o.slots, k b o hc q⟩) (fun _ _ _ _ n => n)
  (fun b o hc q => ⟨o, k b o hc q⟩) (fun _ _ q => q) (fun _ _ _ q => q) (fun b ps q => ⟨#[], by rw [q]; simp⟩) (fun m hm => ?_) (fun b u q => ?_) I.bare
 ·obtain ⟨e0, e1, _, e3, e4, e5⟩ := hf b hb
  exact ⟨e3, e1, e4, e5⟩
 ·obtain ⟨o, es, ep, ho, r⟩ := hm
  exact ⟨o, es, ep, k _ o (fun z => (hf _ z).2.1 rfl) ho, r⟩
 ·refine (I.hok b u q).stay (fun c v hc z => k c v ?_ z) (fun _ z => z) fun _ _ z => z
  rcases hc with y | y
  ·rw [y]; exact ne b u q
  ·exact ne c _ y
def Itz (K : PySem.W.Frag) (l1 l2 : Addr) : It :=
 ⟨fun i H => ∃ xs ys x y, SqL K H l1 xs /\ SqL K H l2 ys /\ xs[i]? = some x /\ ys[i]? = some y, fun i H x H' => ∃ p, H p = none /\ x = .ref p /\ ∀ xs ys, SqL K H l1 xs -> SqL K H l2 ys -> ∃ y z, xs[i]? = some y /\ ys[i]? = some z /\ H' = upd H p (.tup [y, z]),
  fun i H => ∃ xs ys, SqL K H l1 xs /\ SqL K H l2 ys /\ (xs.length <= i \/ ys.length <= i)⟩
theorem sD {P : Program} {w : World} {elts : List Expr} {x1} {tp : Pos} (z TI TO i1 i2 l1 l2 : Addr) (D : ZipApart z TI TO i1 i2 l1 l2) :
  Turn P w K (.Tuple elts x1 tp) (Itz K l1 l2) [z, TI, TO, i1, i2] z (fun i h => IsZip h z TI TO .none /\ IsPair h TI (.ref i1) (.ref i2) /\ (∃ a b, IsPair h TO a b) /\ h.IsListIter i1 l1 i /\ h.IsListIter i2 l2 i) where
 mem := by simp
 obj := fun i h zq b hb => by
  obtain ⟨hz, hTI, ⟨a, c, hTO⟩, ⟨o1, q1, c1, d1⟩, ⟨o2, q2, c2, d2⟩⟩ := zq
  simp only [List.mem_cons, List.not_mem_nil, or_false] at hb
  rcases hb with rfl | rfl | rfl | rfl | rfl
  ·exact ⟨_, hz, fun v e => by
    have e' : Data.fields _ = Data.cell v := e
    cases e'⟩
  ·exact ⟨_, hTI, fun v e => by
    have e' : Data.seq _ _ = Data.cell v := e
    cases e'⟩
  ·exact ⟨_, hTO, fun v e => by
    have e' : Data.seq _ _ = Data.cell v := e
    cases e'⟩
  ·exact ⟨o1, q1, fun v e => by rw [d1] at e; cases e⟩
  ·exact ⟨o2, q2, fun v e => by rw [d2] at e; cases e⟩
 keep := fun i h h' zq k => by
  obtain ⟨hz, hTI, ⟨a, c, hTO⟩, s1, s2⟩ := zq
  exact ⟨k z (by simp) _ hz, k TI (by simp) _ hTI, ⟨a, c, k TO (by simp) _ hTO⟩, s1.at fun o q => k i1 (by simp) o q, s2.at fun o q => k i2 (by simp) o q⟩
 item := by
  intro X hP hw hK hc i pins s σ H E I hf zq hg
  subst hP hw hK
  obtain ⟨hz, hTI, ⟨a, c, hTO⟩, s1, s2⟩ := zq
  obtain ⟨xs, ys, x, y, hq1, hq2, hx, hy⟩ := hg
  obtain ⟨its1, rv1, p1, hz1⟩ := I.list hq1
  obtain ⟨its2, rv2, p2, hz2⟩ := I.list hq2
  obtain ⟨u1, hu1, ru1⟩ := rv1.get hx
  obtain ⟨u2, hu2, ru2⟩ := rv2.get hy
  refine wpAny_pyNext_zip_item D hz hTI hTO s1 s2 p1.isList p2.isList (x := u1) (y := u2) (by simpa using hu1) (by simpa using hu2) fun h' a1 a2 a3 a4 a5 a6 a7 => ⟨_, rfl, wpAny_letOwnedTupleGo_zip (s := { s with heap := h' }) a1 fun h2 b1 b2 => ?_⟩
  have kb : ∀ b o, b ≠ z -> h'.get? b = some o -> h2.get? b = some o := fun b o hb q => (b2.2 b hb).trans q
  have I2 : Inv X pins σ H { s with heap := h2, toks := s.toks } := I.turnedL (fp := [z, TI, TO, i1, i2]) (fun b o nb q => by
   simp only [List.mem_cons, List.not_mem_nil, or_false, not_or] at nb
   exact kb b o nb.1 (a7 b o nb.1 nb.2.2.1 nb.2.2.2.1 nb.2.2.2.2 q)) hf
  have np : H s.heap.objs.size = none := I.hok.fresh (Nat.le_refl _)
  obtain ⟨_, f1, _, f3, f4, f5⟩ := I.fpOk (H' := H) (b := s.heap.objs.size) (Nat.le_refl _) np
  have nn : ∀ {b o}, s.heap.get? b = some o -> s.heap.objs.size ≠ b := fun q => Nat.ne_of_gt (Heap.lt_size q)
  have hTI' : IsPair h2 TI (.ref i1) (.ref i2) := kb _ _ D.TIz (a7 _ _ D.TIz D.TITO D.TIi1 D.TIi2 hTI)
  refine ⟨.ref s.heap.objs.size, upd H s.heap.objs.size (.tup [x, y]), I2.track np I.sz f1 f4 f5 ⟨by rw [sizeLine_eq]; exact Nat.le_of_ble_eq_true rfl, [u1, u2], .cons ru1 (.cons ru2 .nil), ⟨_, kb _ _ (nn hz) a5, rfl, _, rfl⟩⟩, rfl,
   ⟨_, np, rfl, fun zs ws h1 h2 => ⟨x, y, by rw [I.list_inj h1 hq1]; exact hx, by rw [I.list_inj h2 hq2]; exact hy, rfl⟩⟩,
   ⟨b1, hTI', ⟨_, _, kb _ _ D.TOz a2⟩, a3.at fun o q => kb i1 o D.i1z q, a4.at fun o q => kb i2 o D.i2z q⟩, fun b hb => ?_⟩
  have hbn := (hf b hb).1
  obtain ⟨ob, hob⟩ : ∃ o, s.heap.get? b = some o := by
   obtain ⟨o1, q1, _⟩ := id s1
   obtain ⟨o2, q2, _⟩ := id s2
   simp only [List.mem_cons, List.not_mem_nil, or_false] at hb
   rcases hb with rfl | rfl | rfl | rfl | rfl
   ·exact ⟨_, hz⟩
   ·exact ⟨_, hTI⟩
   ·exact ⟨_, hTO⟩
   ·exact ⟨_, q1⟩
   ·exact ⟨_, q2⟩
  rw [au (Ne.symm (nn hob))]
  exact hbn
 done := by
  intro X hP hw hK hc i pins s σ H E I hf zq hg
  subst hP hw hK
  obtain ⟨hz, hTI, ⟨a, c, hTO⟩, s1, s2⟩ := zq
  obtain ⟨xs, ys, hq1, hq2, hx⟩ := hg
  obtain ⟨its1, rv1, p1, hz1⟩ := I.list hq1
  obtain ⟨its2, rv2, p2, hz2⟩ := I.list hq2
  have e1 := rv1.length
  have e2 := rv2.length
  refine wpAny_pyNext_zip_end (I.ok.hd hc) D hz hTI hTO s1 s2 p1.isList p2.isList ?_ fun h' hk => ⟨rfl, I.turnedL (t' := s.toks) (fp := [z, TI, TO, i1, i2]) (fun b o nb q => by
   simp only [List.mem_cons, List.not_mem_nil, or_false, not_or] at nb
   exact hk b o nb.1 nb.2.2.1 nb.2.2.2.1 nb.2.2.2.2 q) hf⟩
  rcases hx with hx | hx
  ·exact .inl (Array.getElem?_eq_none (by simp; lia))
  ·exact .inr (Array.getElem?_eq_none (by simp; lia))
 self := fun _ _ _ _ _ zq h => wpAny_pyIter_zip zq.1 h
section
variable {X : Cx}
def Cv (K : PySem.W.Frag) (ta : TA) : TI := fun σ H R => ta σ H fun vs H1 => ∃ l1 l2, vs = [.ref l1, .ref l2] /\ (∃ xs, SqL K H1 l1 xs) /\ (∃ xs, SqL K H1 l2 xs) /\ R (Itz K l1 l2) H1
theorem zR {a b : Expr} {ta : TA} {p pos tp : Pos} {elts : List Expr} {x1} (hg : Gl X "zip") (hm : X.mg "zip" = none) (ha : PA X [a, b] ta) (hs : starEach [a, b] X.env = (false, eval a X.env) :: starEach [b] X.env := by rfl) (hpl : (backTo pos (starEach [b] X.env)).any (·.1) = false := by rfl) : PI X (.Tuple elts x1 tp) (.Call (.Name "zip" p) [a, b] [] pos) (Cv X.K ta) := by
 intro pins s σ H R I h
 refine Call_ (gV I hg hm boot_zip (PyProof.Rows.callWith_type1 (thn (ha pos pins s σ H _ I h) fun us s1 zr1 => ?_) hs hpl))
 obtain ⟨vs, H1, I1, r1, q1⟩ := zr1
 obtain ⟨l1, l2, e, ⟨xs, hq1⟩, ⟨ys, hq2⟩, q⟩ := q1
 subst e
 obtain ⟨u1, u2, rfl, ru1, ru2⟩ := vals2 r1
 cases ru1; cases ru2
 obtain ⟨its1, rv1, pl1, hz1⟩ := I1.list hq1
 obtain ⟨its2, rv2, pl2, hz2⟩ := I1.list hq2
 refine call_zip_2 pl1.isList pl2.isList fun h' g1 g2 g3 g4 g5 g6 g7 => ?_
 have I2 : Inv X pins σ H1 { s1 with heap := h' } := I1.kept (t' := s1.toks) g7
 have lt1 : l1 < s1.heap.objs.size := by obtain ⟨o, e, _⟩ := pl1.isList; exact Heap.lt_size e
 have lt2 : l2 < s1.heap.objs.size := by obtain ⟨o, e, _⟩ := pl2.isList; exact Heap.lt_size e
 have ap : ZipApart (s1.heap.objs.size + 4) (s1.heap.objs.size + 2) (s1.heap.objs.size + 3) s1.heap.objs.size (s1.heap.objs.size + 1) l1 l2 := by
  constructor <;> (intro e; have e : (_ : Nat) = _ := e; lia)
 refine wpAny_pyIter_zip (s := { s1 with heap := h' }) g1 ⟨s1.heap.objs.size + 4, [s1.heap.objs.size + 4, s1.heap.objs.size + 2, s1.heap.objs.size + 3, s1.heap.objs.size, s1.heap.objs.size + 1], _, Itz X.K l1 l2, H1, rfl, I2, sD _ _ _ _ _ l1 l2 ap, ⟨g1, g2, ⟨_, _, g3⟩, g4, g5⟩, fun b hb => ?_, q⟩
 have hb' : s1.heap.objs.size <= b := by
  simp only [List.mem_cons, List.not_mem_nil, or_false] at hb
  rcases hb with rfl | rfl | rfl | rfl | rfl
  all_goals first | exact Nat.le_add_right _ _ | exact Nat.le_refl _
 exact I1.fpOk hb' (I1.hok.fresh hb')
end
end L2
namespace VL
open PySem L2
section
variable {K : PySem.W.Frag} {X : Cx} {a b : Expr} {tr : TA} {vr : VTA} {S : List Sl} {QN : List D -> List Sl -> Prop} {p pos tp : Pos}
def zpD (ds es : List D) : List D := (ds.zip es).map fun x => .tup [x.1, x.2]
theorem u9 (ds es : List D) : (zpD ds es).length = min ds.length es.length := by simp [zpD]
theorem zS {ds es : List D} {i : Nat} {d e : D} (h : ds[i]? = some d) (h' : es[i]? = some e) : (zpD ds es)[i]? = some (.tup [d, e]) := by
 unfold zpD
 rw [List.getElem?_map, (List.getElem?_zip_eq_some (z := (d, e))).mpr ⟨h, h'⟩]
 rfl
def Cw (vr : VTA) : VTN := fun S Q => vr S fun rs S1 => ∃ ds es, rs = [.d (.lst ds), .d (.lst es)] /\ Q (zpD ds es) S1
theorem zT {elts : List Expr} {x1} (hK : X.K = K) (hg : Gl X "zip") (hm : X.mg "zip" = none) (ha : VA K X false [a, b] tr vr) (hs : starEach [a, b] X.env = (false, eval a X.env) :: starEach [b] X.env := by rfl) (hpl : (backTo pos (starEach [b] X.env)).any (·.1) = false := by rfl) :
  VI K X (.Tuple elts x1 tp) (.Call (.Name "zip" p) [a, b] [] pos) (Cv K tr) (Cw vr) := ⟨by subst hK; exact zR hg hm ha.pe hs hpl, fun H0 Z σ H S Q C k t hc =>
 ha.snd H0 Z σ H S _ _ k t fun vs H1 rs S1 k1 st1 rrs zq1 => by
  obtain ⟨ds, es, e, q⟩ := zq1
  subst e
  cases rrs with
  | @cons v1 _ _ _ rv1 rr =>
  obtain ⟨v2, rfl, rv2⟩ := rr.one
  have rv1 : Rep K _ _ H1 v1 (.lst ds) := rv1
  have rv2 : Rep K _ _ H1 v2 (.lst es) := rv2
  obtain ⟨l1, xs, rfl, hq1, _⟩ := rv1.sqL
  obtain ⟨l2, ys, rfl, hq2, _⟩ := rv2.sqL
  refine ⟨l1, l2, rfl, ⟨xs, hq1⟩, ⟨ys, hq2⟩, hc _ (zpD ds es) H1 S1 k1 st1 (fun σ2 S2 H2 nm st2 i => ?_) q⟩
  obtain ⟨_, xs', e, hx2, r1⟩ := (rv1.step st2).sqL
  cases e
  obtain ⟨_, ys', e, hy2, r2⟩ := (rv2.step st2).sqL
  cases e
  rw [u9]
  refine ⟨fun hi => ?_, fun x H3 hy hi => ?_, fun hi => ⟨xs', ys', hx2, hy2, by rw [r1.length, r2.length]; lia⟩⟩
  ·obtain ⟨x, h1, _⟩ := r1.getD (List.getElem?_eq_getElem (show i < ds.length by lia))
   obtain ⟨y, h2, _⟩ := r2.getD (List.getElem?_eq_getElem (show i < es.length by lia))
   exact ⟨xs', ys', x, y, hx2, hy2, h1, h2⟩
  ·obtain ⟨p, hp, rfl, hy⟩ := hy
   obtain ⟨y, z, h2, h3, rfl⟩ := hy xs' ys' hx2 hy2
   obtain ⟨d, h4, h5⟩ := r1.get h2
   obtain ⟨d', h6, h7⟩ := r2.get h3
   have g := ba (o := .tup [y, z]) hp
   exact ⟨g, _, zS h4 h6, .tup (nm p hp) (.inl aD) (.cons (h5.mono (fun b n z => ⟨n, g b z⟩) fun _ _ => trivial) (.cons (h7.mono (fun b n z => ⟨n, g b z⟩) fun _ _ => trivial) .nil))⟩⟩
@[irreducible] def vf (QN : List D -> List Sl -> Prop) : List VR -> List Sl -> Prop := fun rs S1 => ∃ ds es, rs = [.d (.lst ds), .d (.lst es)] /\ QN (zpD ds es) S1
theorem Cy (h : vr S (vf QN)) : Cw vr S QN := by unfold vf at h; exact h
theorem zU {ds es : List D} (h : QN (zpD ds es) S) : vf QN [.d (.lst ds), .d (.lst es)] S := by unfold vf; exact ⟨ds, es, rfl, h⟩
end
end VL
end
section
namespace VL
open PySem L2
section
variable {K : PySem.W.Frag} {X : Cx} {m : Bool} {pos p : Pos} {a b : Expr} {ta tb : TE} {va vb : VT} {S : List Sl} {Q : VR -> List Sl -> Prop}
def xo : D -> D -> (D -> Prop) -> Prop := fun d1 d2 q => ∃ i j : Str, d1 = .str i /\ d2 = .str j /\ i.length + j.length <= sizeLine /\ q (.str (i ++ j))
theorem dJ : bX K (fun x y H Q => ∃ i j, x = .str i /\ y = .str j /\ i.length + j.length <= sizeLine /\ Q (.str (i ++ j)) H) xo := by
 rintro x y H d1 d2 q Cc r1 r2 ⟨i, j, rfl, rfl, hz, h⟩ hc
 cases r1; cases r2
 exact ⟨i, j, rfl, rfl, hz, hc _ _ h fun _ _ => .str _⟩
def inS (i j : Str) : Bool := !(Builtin.Str.occurrences j i 0 j.length 1).isEmpty
def Cz (neg : Bool) : D -> D -> (D -> Prop) -> Prop := fun d1 d2 q => ∃ i j : Str, d1 = .str i /\ d2 = .str j /\ q (.bl (if neg then !inS i j else inS i j))
theorem xp : bX K (fun x y H Q => ∃ i j, x = .str i /\ y = .str j /\ Q (.bl (!(Builtin.Str.occurrences j i 0 j.length 1).isEmpty)) H) (Cz false) := by
 rintro x y H d1 d2 q Cc r1 r2 ⟨i, j, rfl, rfl, h⟩ hc
 cases r1; cases r2
 exact ⟨i, j, rfl, rfl, hc _ _ h fun _ _ => .bl _⟩
def xq : List D -> (D -> Prop) -> Prop := fun ds q => ∃ z : Str, ds = [.str z] /\ z.length <= sizeLine /\ q (.int z.length)
theorem mS : dv K (fun xs H Q => ∃ z, xs = [.str z] /\ z.length <= sizeLine /\ Q (.int z.length) H) xq := by
 rintro xs H ds q C r ⟨z, rfl, hz, h⟩ hc
 obtain ⟨v, rfl, rv⟩ := rep1 r
 cases rv
 exact ⟨z, rfl, hz, hc _ _ h fun _ _ => .int _⟩
def zV (va vb : VT) : VT := fun S Q => va S fun ra S1 => vb S1 fun rb S2 => ∃ (z : Str) (i : Int) (c : Nat), ra = .d (.str z) /\ rb = .d (.int i) /\ z.length <= sizeLine /\ atI z.cps.toList i = some c /\ Q (.d (.str ⟨#[c]⟩)) S2
theorem sE (hK : X.K = K) (ha : VE K X false a ta va) (hb : VE K X false b tb vb) (hs : gL b) : VE K X m (.Subscript a b pos) (tOp (rIx K) ta tb) (zV va vb) := ⟨by subst hK; exact qr qt ha.pe hb.pe hs, fun H0 Z σ H S Q C k t hc =>
 ha.snd H0 Z σ H S _ _ k t fun x H1 ra S1 k1 st1 r1 t1 => hb.snd H0 Z σ H1 S1 _ _ k1 t1 fun y H2 rb S2 k2 st2 r2 zq1 => by
  obtain ⟨z, i, c, rfl, rfl, hz, hat, q⟩ := zq1
  cases (show Rep K _ _ H1 x (.str z) from r1)
  cases (show Rep K _ _ H2 y (.int i) from r2)
  exact .inr (.inr ⟨z, i, c, rfl, rfl, hz, hat, hc _ H2 (.d (.str _)) S2 k2 (st1.trans st2) (Rep.str _) q⟩)⟩
end
end VL
end
section
namespace L2
open PySem PySem.Spec PyProof.Rows
def CA : V -> List V -> Hp -> VK -> Prop := fun x xs H Q => ∃ z y, x = .str z /\ xs = [.str y] /\ z.length <= sizeLine /\ Q (.str (Txt.removeprefix z y)) H
theorem zW {X : Cx} : MtR X "str.removeprefix" CA := by
 rintro pins s σ H x xs v us Q I rx r ⟨z, y, e1, e2, h, q⟩
 subst e1; subst e2
 obtain ⟨u, rfl, t', rfl⟩ := Vals.one r
 obtain ⟨t, rfl⟩ := rx
 exact SC.removeprefix (fun t' k => ⟨.str _, H, I.tok _, ⟨_, rfl⟩, q⟩) h
theorem fK : ∀ (l : List (Str × Tok)), Vals ((l.map (·.1)).map V.str) (strValues l)
 | [] => .nil
 | p :: r => .cons ⟨p.2, rfl⟩ (fK r)
theorem fL : ∀ {zs : List Str} {us : List Value}, Vals (zs.map V.str) us -> ∃ l : List (Str × Tok), us = strValues l /\ l.map (·.1) = zs
 | [], _, r => by cases r; exact ⟨[], rfl, rfl⟩
 | z :: zs, _, r => by
  cases r with
  | cons h t =>
   obtain ⟨k, rfl⟩ := h
   obtain ⟨l, rfl, e⟩ := fL t
   exact ⟨(z, k) :: l, rfl, by rw [List.map_cons, e]⟩
def rJoin (K : PySem.W.Frag) : V -> List V -> Hp -> VK -> Prop := fun x xs H Q => ∃ (z : Str) (l : Addr) (zs : List Str), x = .str z /\ xs = [.ref l] /\ SqL K H l (zs.map V.str) /\ JoinOk z zs = true /\ Q (.str (Txt.join z zs)) H
theorem n4 {X : Cx} : MtR X "str.join" (rJoin X.K) := by
 rintro pins s σ H x xs v us Q I rx r ⟨z, l, zs, e1, e2, h, hok, q⟩
 subst e1; subst e2
 obtain ⟨u, rfl, ru⟩ := Vals.one r
 cases ru
 obtain ⟨t, rfl⟩ := rx
 obtain ⟨its, ri, pl, _⟩ := I.list h
 obtain ⟨ps, rfl, e⟩ := fL ri
 exact SC.join pl.isList e hok fun t' k => ⟨.str _, H, I.tok _, ⟨_, rfl⟩, q⟩
def sF : V -> List V -> Hp -> VK -> Prop := fun x xs H Q => ∃ z y, x = .str z /\ xs = [.str y] /\ z.length + 2 <= sizeLine /\ (y.length == 0) = false /\ (Txt.split z y).length <= sizeLine /\ ∀ D, H D = none -> Q (.ref D) (upd H D (.lst ((Txt.split z y).map V.str)))
theorem sG {X : Cx} (hex : X.ex = []) : MtR X "str.split" sF := by
 rintro pins s σ H x xs v us Q I rx r ⟨z, y, e1, e2, hz, hy, hn, q⟩
 subst e1; subst e2
 obtain ⟨u, rfl, t', rfl⟩ := Vals.one r
 obtain ⟨t, rfl⟩ := rx
 obtain ⟨m, F⟩ := I.fr
 refine splitN1 F d7 hy (fun l h' k hl F' N' => ?_) hz
 have lt : ∀ p ∈ bQ X.base s.heap X.env.locals, p.1 < s.heap.objs.size := fun p hp => Heap.lt_size (d0 hp).2.2
 obtain ⟨hD, I2⟩ := I.made_list (c := 0) hex F.ns F' N' lt (hl ▸ fK l) (by rw [List.length_map]; exact hn)
 exact ⟨.ref _, _, I2.tok k, rfl, q _ hD⟩
end L2
namespace VL
open PySem L2
section
variable {K : PySem.W.Frag} {X : Cx} {m : Bool} {e o : Expr} {te ta : TE} {va vb : VT} {pos apos : Pos} {S : List Sl} {Q : VR -> List Sl -> Prop} {QN : List D -> List Sl -> Prop}
def CC (va vb : VT) : VT := fun S Q => va S fun ra S1 => ∃ z, ra = .d (.str z) /\ vb S1 fun rb S2 => ∃ y, rb = .d (.str y) /\ z.length <= sizeLine /\ Q (.d (.str (Txt.removeprefix z y))) S2
theorem zX (hK : X.K = K) (ho : VE K X false o ta va) (h : VE K X false e te vb) (hbase : attributeBase o "removeprefix" X.env (eval o X.env) = eval o X.env := by rfl)
  (hfew : ((backTo pos (starEach (e :: []) X.env)).all (fun x => !x.1) && (backToKw pos (keywordEach [] X.env)).all (fun x => x.1.isSome)
   && decide ((e :: []).length + ([] : List Keyword).length + (if ([] : List Keyword).isEmpty then 0 else 1) < 30)) = true := by rfl)
  (hline : (apos.endLine == pos.line) = true := by rfl) (hs : starEach (e :: []) X.env = (false, eval e X.env) :: starEach [] X.env := by rfl) (hplain : (backTo pos (starEach [] X.env)).any (·.1) = false := by rfl) :
  VE K X m (.Call (.Attribute o "removeprefix" apos) [e] [] pos) (tBM K "str" CA ta (cQ te fU)) (CC va vb) := ⟨by
 have := kU PySem.F.plainAttrs_str PySem.F.slot_str_removeprefix PySem.F.type_str_removeprefix zW ho.pe (bR h.pe dq hs) hbase hfew hline hs hplain
 rwa [hK] at this, fun H0 Z σ H S Q C k t hc => by
 refine ho.snd H0 Z σ H S _ _ k t fun x H1 ra S1 k1 st1 r1 t1 => ?_
 obtain ⟨z, rfl, t1⟩ := t1
 cases (show Rep K _ _ H1 x (.str z) from r1)
 refine ⟨rfl, h.snd H0 Z σ H1 S1 _ _ k1 t1 fun y H2 rb S2 k2 st2 r2 t2 => ?_⟩
 obtain ⟨yy, rfl, hl, q⟩ := t2
 cases (show Rep K _ _ H2 y (.str yy) from r2)
 exact ⟨z, yy, rfl, rfl, hl, hc _ H2 (.d (.str _)) S2 k2 (st1.trans st2) (Rep.str _) q⟩⟩
def xr (va vb : VT) : VT := fun S Q => va S fun ra S1 => ∃ z, ra = .d (.str z) /\ vb S1 fun rb S2 => ∃ zs : List Str, get S2 rb = some (.lst (zs.map .str)) /\ JoinOk z zs = true /\ Q (.d (.str (Txt.join z zs))) S2
theorem Reps.toStrs {N : AP} : ∀ {vs : List V} {zs : List Str}, Reps K N F H vs (zs.map .str) -> vs = zs.map V.str
 | [], [], _ => rfl
 | _ :: _, [], r => by cases r
 | [], _ :: _, r => by cases r
 | _ :: vs, _ :: zs, r => by
  cases r with
  | cons h t => cases h; rw [List.map_cons, <- Reps.toStrs t]
theorem Reps.strs {N : AP} : ∀ {zs : List Str}, Reps K N F H (zs.map V.str) (zs.map .str)
 | [] => .nil
 | _ :: _ => .cons (.str _) Reps.strs
theorem n5 (hK : X.K = K) (ho : VE K X false o ta va) (h : VE K X false e te vb) (hbase : attributeBase o "join" X.env (eval o X.env) = eval o X.env := by rfl)
  (hfew : ((backTo pos (starEach (e :: []) X.env)).all (fun x => !x.1) && (backToKw pos (keywordEach [] X.env)).all (fun x => x.1.isSome)
   && decide ((e :: []).length + ([] : List Keyword).length + (if ([] : List Keyword).isEmpty then 0 else 1) < 30)) = true := by rfl)
  (hline : (apos.endLine == pos.line) = true := by rfl) (hs : starEach (e :: []) X.env = (false, eval e X.env) :: starEach [] X.env := by rfl) (hplain : (backTo pos (starEach [] X.env)).any (·.1) = false := by rfl) :
  VE K X m (.Call (.Attribute o "join" apos) [e] [] pos) (tBM K "str" (rJoin K) ta (cQ te fU)) (xr va vb) := ⟨by
 have := kU PySem.F.plainAttrs_str PySem.F.slot_str_join PySem.F.type_str_join n4 ho.pe (bR h.pe dq hs) hbase hfew hline hs hplain
 rwa [hK] at this, fun H0 Z σ H S Q C k t hc => by
 refine ho.snd H0 Z σ H S _ _ k t fun x H1 ra S1 k1 st1 r1 t1 => ?_
 obtain ⟨z, rfl, t1⟩ := t1
 cases (show Rep K _ _ H1 x (.str z) from r1)
 refine ⟨rfl, h.snd H0 Z σ H1 S1 _ _ k1 t1 fun y H2 rb S2 k2 st2 r2 t2 => ?_⟩
 obtain ⟨zs, e1, hok, q⟩ := t2
 obtain ⟨p, vs, rfl, hq, rr⟩ := r2.elems k2 e1
 cases Reps.toStrs rr
 exact ⟨z, p, zs, rfl, rfl, hq, hok, hc _ H2 (.d (.str _)) S2 k2 (st1.trans st2) (Rep.str _) q⟩⟩
def sH (va : VT) (t : VTN) : VT := fun S Q => va S fun ra S1 => ∃ z, ra = .d (.str z) /\ t S1 fun ds S2 => ∃ zs : List Str, ds = zs.map .str /\ JoinOk z zs = true /\ Q (.d (.str (Txt.join z zs))) S2
theorem fM {t : VTN} (hK : X.K = K) (ho : VE K X false o ta va) (h : VN K X e te t) (hbase : attributeBase o "join" X.env (eval o X.env) = eval o X.env := by rfl)
  (hfew : ((backTo pos (starEach (e :: []) X.env)).all (fun x => !x.1) && (backToKw pos (keywordEach [] X.env)).all (fun x => x.1.isSome)
   && decide ((e :: []).length + ([] : List Keyword).length + (if ([] : List Keyword).isEmpty then 0 else 1) < 30)) = true := by rfl)
  (hline : (apos.endLine == pos.line) = true := by rfl) (hs : starEach (e :: []) X.env = (false, eval e X.env) :: starEach [] X.env := by rfl) (hplain : (backTo pos (starEach [] X.env)).any (·.1) = false := by rfl) :
  VE K X m (.Call (.Attribute o "join" apos) [e] [] pos) (tBM K "str" (rJoin K) ta (cQ te fU)) (sH va t) := ⟨by
 have := kU PySem.F.plainAttrs_str PySem.F.slot_str_join PySem.F.type_str_join n4 ho.pe (bR h.pe dq hs) hbase hfew hline hs hplain
 rwa [hK] at this, fun H0 Z σ H S Q C k t hc => by
 refine ho.snd H0 Z σ H S _ _ k t fun x H1 ra S1 k1 st1 r1 t1 => ?_
 obtain ⟨z, rfl, t1⟩ := t1
 cases (show Rep K _ _ H1 x (.str z) from r1)
 refine ⟨rfl, h.snd H0 Z σ H1 S1 _ _ k1 t1 fun p vs ds H2 H' S2 k2 st2 hp hg hl rr t2 => ?_⟩
 obtain ⟨zs, rfl, hok, q⟩ := t2
 cases Reps.toStrs rr
 exact ⟨z, p, zs, rfl, rfl, .inl (.inl hl), hok, hc _ H' (.d (.str _)) S2 (k2.grow hg) (st1.trans (st2.trans (.grow hg))) (Rep.str _) q⟩⟩
def sI (va vb : VT) : VTN := fun S Q => va S fun ra S1 => ∃ z, ra = .d (.str z) /\ vb S1 fun rb S2 => ∃ y, rb = .d (.str y) /\ z.length + 2 <= sizeLine /\ (y.length == 0) = false /\ (Txt.split z y).length <= sizeLine /\ Q ((Txt.split z y).map .str) S2
theorem iR (hK : X.K = K) (hex : X.ex = []) (ho : VE K X false o ta va) (h : VE K X false e te vb) (hbase : attributeBase o "split" X.env (eval o X.env) = eval o X.env := by rfl)
  (hfew : ((backTo pos (starEach (e :: []) X.env)).all (fun x => !x.1) && (backToKw pos (keywordEach [] X.env)).all (fun x => x.1.isSome)
   && decide ((e :: []).length + ([] : List Keyword).length + (if ([] : List Keyword).isEmpty then 0 else 1) < 30)) = true := by rfl)
  (hline : (apos.endLine == pos.line) = true := by rfl) (hs : starEach (e :: []) X.env = (false, eval e X.env) :: starEach [] X.env := by rfl) (hplain : (backTo pos (starEach [] X.env)).any (·.1) = false := by rfl) :
  VN K X (.Call (.Attribute o "split" apos) [e] [] pos) (tBM K "str" sF ta (cQ te fU)) (sI va vb) := ⟨by
 have := kU PySem.F.plainAttrs_str PySem.F.slot_str_split PySem.F.type_str_split (sG hex) ho.pe (bR h.pe dq hs) hbase hfew hline hs hplain
 rwa [hK] at this, fun H0 Z σ H S Q C k t hc => by
 refine ho.snd H0 Z σ H S _ _ k t fun x H1 ra S1 k1 st1 r1 t1 => ?_
 obtain ⟨z, rfl, t1⟩ := t1
 cases (show Rep K _ _ H1 x (.str z) from r1)
 refine ⟨rfl, h.snd H0 Z σ H1 S1 _ _ k1 t1 fun y H2 rb S2 k2 st2 r2 t2 => ?_⟩
 obtain ⟨yy, rfl, hz, hy, hn, q⟩ := t2
 cases (show Rep K _ _ H2 y (.str yy) from r2)
 exact ⟨z, yy, rfl, rfl, hz, hy, hn, fun D hD => hc D _ _ H2 _ S2 k2 (st1.trans st2) hD (ba hD) aD Reps.strs q⟩⟩
end
end VL
end
section
namespace L2
open PySem PySem.Spec PyProof.Rows
abbrev TJ := St -> Hp -> Str -> (Str -> Hp -> Prop) -> Prop
section
variable {X : Cx} {e : Expr} {es : List Expr} {te : TE} {tj : TJ} {pos : Pos}
def CD (te : TE) : TE := fun σ H Q => te σ H fun x H1 => (∃ i : Int, x = .int i /\ i.natAbs.log2 < 1920 /\ Q (.str (toString i)) H1) \/ ∃ z : Str, x = .str z /\ z.length <= sizeLine /\ Q (.str z) H1
theorem zY (h : PE X e te) : PE X (.FormattedValue e (-1) none pos) (CD te) := by
 intro pins s σ H Q I t
 refine wpAny_FormattedValue_plain (wpAny_mono (h pins s σ H _ I t) (fun v s1 z => ?_) fun _ _ x => x)
 obtain ⟨x, H1, I1, rx, q⟩ := z
 rcases q with ⟨i, e, hi, q⟩ | ⟨z, e, hz, q⟩
 ·subst e
  obtain ⟨t, rfl⟩ := rx
  exact wpAny_formatField_int hi ⟨.str _, H1, I1.tok _, ⟨_, rfl⟩, q⟩
 ·subst e
  obtain ⟨t, rfl⟩ := rx
  exact SB.field_str (fun t' k => ⟨.str _, H1, I1.tok _, ⟨_, rfl⟩, q⟩) hz
def PJ (X : Cx) (es : List Expr) (t : TJ) : Prop := ∀ (pins : List (Addr × Obj)) (s : Shared) (σ : St) (H : Hp) (acc : Str) (Q : Str -> Hp -> Prop), Inv X pins σ H s -> t σ H acc Q ->
 Joins (model X.prog X.w) X.A X.xe (evalEach es X.env) acc (fun z s1 => ∃ H', Inv X pins σ H' s1 /\ z.length <= sizeLine /\ Q z H') s
def tJn : TJ := fun _ H acc Q => acc.length <= sizeLine /\ Q acc H
def tJc (te : TE) (tj : TJ) : TJ := fun σ H acc Q => te σ H fun x H1 => ∃ y : Str, x = .str y /\ (acc ++ y).length <= sizeLine /\ tj σ H1 (acc ++ y) Q
theorem zZ : PJ X [] tJn := fun pins s σ H acc Q I t => Joins_nil ⟨H, I, t.1, t.2⟩
theorem vm (h : PE X e te) (hj : PJ X es tj) : PJ X (e :: es) (tJc te tj) := fun pins s σ H acc Q I t =>
 Joins_cons (wpAny_mono (h pins s σ H _ I t) (fun v s1 z => by
  obtain ⟨x, H1, I1, rx, y, e, hy, q⟩ := z
  subst e
  obtain ⟨t, rfl⟩ := rx
  exact ⟨y, t, rfl, hy, hj pins s1 σ H1 _ Q I1 q⟩) fun _ _ x => x)
def n6 (tj : TJ) : TE := fun σ H Q => tj σ H Str.empty fun z H' => Q (.str z) H'
theorem iS {M : Model} {A : Around} {E : Value -> Shared -> Prop} {Q Q' : Str -> Shared -> Prop} (h : ∀ z s, Q z s -> Q' z s) : ∀ {ps : List (Sem Value)} {acc : Str} {s : Shared}, Joins M A E ps acc Q s -> Joins M A E ps acc Q' s
 | [], _, _, t => h _ _ t
 | _ :: _, _, _, t => wpAny_mono t (fun _ _ zt1 => by obtain ⟨y, k, e, hy, q⟩ := zt1; exact ⟨y, k, e, hy, iS h q⟩) fun _ _ x => x
theorem pM {v w : Expr} (h : PJ X (v :: w :: es) tj) : PE X (.JoinedStr (v :: w :: es) pos) (n6 tj) := fun pins s σ H Q I t =>
 wpAny_JoinedStr (iS (fun z s1 zt1 => by obtain ⟨H', I', hz, q⟩ := zt1; exact ⟨hz, .str z, H', I'.tok _, ⟨_, rfl⟩, q⟩) (h pins s σ H _ _ I t))
end
end L2
namespace VL
open PySem L2
abbrev VTJ := List Sl -> Str -> (Str -> List Sl -> Prop) -> Prop
structure VJ (K : PySem.W.Frag) (X : Cx) (es : List Expr) (tj : TJ) (t : VTJ) : Prop where
 pe : PJ X es tj
 snd : ∀ H0 Z σ H S acc Q C, OK K H0 Z σ H S -> t S acc Q -> (∀ z H' S', OK K H0 Z σ H' S' -> Step Z σ S H σ S' H' -> Q z S' -> C z H') -> tj σ H acc C
section
variable {K : PySem.W.Frag} {X : Cx} {m : Bool} {e v w : Expr} {es : List Expr} {te : TE} {tj : TJ} {va : VT} {vj : VTJ} {pos : Pos} {S : List Sl} {Q : VR -> List Sl -> Prop}
def CF (va : VT) : VT := fun S Q => va S fun r S1 => (∃ i : Int, r = .d (.int i) /\ i.natAbs.log2 < 1920 /\ Q (.d (.str (toString i))) S1) \/ ∃ z : Str, r = .d (.str z) /\ z.length <= sizeLine /\ Q (.d (.str z)) S1
theorem sJ (h : VE K X false e te va) : VE K X m (.FormattedValue e (-1) none pos) (CD te) (CF va) := ⟨zY h.pe, fun H0 Z σ H S Q C k t hc =>
 h.snd H0 Z σ H S _ _ k t fun x H1 r S1 k1 st1 r1 t1 => by
  rcases t1 with ⟨i, e, hi, q⟩ | ⟨z, e, hz, q⟩
  ·subst e
   cases (show Rep K _ _ H1 x (.int i) from r1)
   exact .inl ⟨i, rfl, hi, hc _ H1 (.d (.str _)) S1 k1 st1 (Rep.str _) q⟩
  ·subst e
   cases (show Rep K _ _ H1 x (.str z) from r1)
   exact .inr ⟨z, rfl, hz, hc _ H1 (.d (.str _)) S1 k1 st1 (Rep.str _) q⟩⟩
def vJn : VTJ := fun S acc Q => acc.length <= sizeLine /\ Q acc S
theorem Aa : VJ K X [] tJn vJn := ⟨zZ, fun H0 Z σ H S acc Q C k t hc => ⟨t.1, hc _ H S k Step.refl t.2⟩⟩
def vJc (va : VT) (vj : VTJ) : VTJ := fun S acc Q => va S fun r S1 => ∃ y : Str, r = .d (.str y) /\ (acc ++ y).length <= sizeLine /\ vj S1 (acc ++ y) Q
theorem gQ (h : VE K X false e te va) (hj : VJ K X es tj vj) : VJ K X (e :: es) (tJc te tj) (vJc va vj) := ⟨vm h.pe hj.pe, fun H0 Z σ H S acc Q C k t hc =>
 h.snd H0 Z σ H S _ _ k t fun x H1 r S1 k1 st1 r1 t1 => by
  obtain ⟨y, e, hy, q⟩ := t1
  subst e
  cases (show Rep K _ _ H1 x (.str y) from r1)
  exact ⟨y, rfl, hy, hj.snd H0 Z σ H1 S1 _ _ _ k1 q fun z H2 S2 k2 st2 q2 => hc z H2 S2 k2 (st1.trans st2) q2⟩⟩
def n8 (vj : VTJ) : VT := fun S Q => vj S Str.empty fun z S1 => Q (.d (.str z)) S1
theorem pN (h : VJ K X (v :: w :: es) tj vj) : VE K X m (.JoinedStr (v :: w :: es) pos) (n6 tj) (n8 vj) := ⟨pM h.pe, fun H0 Z σ H S Q C k t hc =>
 h.snd H0 Z σ H S _ _ _ k t fun z H1 S1 k1 st1 q => hc _ H1 (.d (.str _)) S1 k1 st1 (Rep.str _) q⟩
end
end VL
end
section
namespace L2
open PySem PySem.Spec PyProof.Rows
def Its (z : Str) : It := ⟨fun i _ => i < z.cps.size, fun i H x H' => H' = H /\ ∃ c, z.cps[i]? = some c /\ x = .str ⟨#[c]⟩, fun i _ => i = z.cps.size⟩
theorem lQ {P : Program} {w : World} {tg : Expr} (it : Addr) (z : Str) (t : Tok) (ty : String) (hn : ["enumerate", "zip", "dict_itemiterator", "dict_reverseitemiterator", "odict_iterator", "itertools.zip_longest", "itertools.pairwise"].contains ty = false)
  (W : ∀ A : Around, A.handled = none -> Walks P w A it [it] [it] z.cps.size (SignAt z) (fun i h => h.IsStrIter it ty z t i))
  (hself : ∀ (A : Around) (i : Nat) (s : Shared) (Q : Value -> Shared -> Prop) (E : Value -> Shared -> Prop), s.heap.IsStrIter it ty z t i -> Q (.ref it) s -> wpAny (model P w) A (pyIter (.ref it)) Q E s) :
  Turn P w K tg (Its z) [it] it (fun i h => h.IsStrIter it ty z t i) where
 mem := by simp
 obj := fun i h st b hb => by
  have e : b = it := by simpa using hb
  subst e
  obtain ⟨o, e, c, d⟩ := st
  exact ⟨o, e, fun v z => by rw [d] at z; cases z⟩
 keep := fun i h h' st k => let ⟨o, e, r⟩ := st; ⟨o, k it (by simp) o e, r⟩
 item := by
  intro X hP hw hK hc i pins s σ H E I hf st hg
  subst hP hw hK
  obtain ⟨f0, f1, f2, f3, f4, f5⟩ := hf it (by simp)
  refine (W X.A (I.ok.hd hc)).item i s _ _ hg st fun v h' tk hv st' kk => ?_
  obtain ⟨c, u, hx, rfl⟩ := hv
  have I1 : Inv X pins σ H { s with heap := h', toks := tk } := I.turned (fun b o hb e => kk b o (by simpa using hb) e) f0 f1 f3 f4 f5
  obtain ⟨o, e, cc, d⟩ := id st'
  exact ⟨_, rfl, m6 (s := { s with heap := h', toks := tk }) e cc d hn ⟨.str ⟨#[c]⟩, H, I1, ⟨u, rfl⟩, ⟨rfl, c, hx, rfl⟩, st', fun b hb => (hf b hb).1⟩⟩
 done := by
  intro X hP hw hK hc i pins s σ H E I hf st hg
  subst hP hw hK
  obtain ⟨f0, f1, f2, f3, f4, f5⟩ := hf it (by simp)
  have hi : i = z.cps.size := hg
  subst hi
  exact (W X.A (I.ok.hd hc)).done s _ _ st fun h' tk kk => ⟨rfl, I.turned (fun b o hb e => kk b o (by simpa using hb) e) f0 f1 f3 f4 f5⟩
 self := fun A i s Q E st h => hself A i s Q E st h
section
variable {X : Cx} {tg : Expr}
def CG (tl : TE) : TI := fun σ H R => tl σ H fun x H1 => ∃ z, x = .str z /\ R (Its z) H1
theorem Ab {l : Expr} {tl : TE} (hl : PE X l tl) : PI X tg l (CG tl) := by
 intro pins s σ H R I h
 refine thn (hl pins s σ H _ I h) fun v s1 zr1 => ?_
 obtain ⟨x, H1, I1, r1, q1⟩ := zr1
 obtain ⟨z, e, q⟩ := q1
 subst e
 obtain ⟨t, rfl⟩ := r1
 have fp : ∀ b ∈ [s1.heap.objs.size], dY X pins H1 b := fun b hb => by
  have e : b = s1.heap.objs.size := by simpa using hb
  subst e
  exact I1.fpOk (Nat.le_refl _) (I1.hok.fresh (Nat.le_refl _))
 cases ha : z.cps.all (· < 128)
 ·exact wpAny_pyIter_wide ha ⟨s1.heap.objs.size, [s1.heap.objs.size], _, _, H1, rfl, I1.kept (t' := s1.toks) fun b o e => Heap.get?_push_of_some _ e, lQ _ z t "str_iterator" (by decide) (fun A hA => Walks.strWide hA _ z t) (fun A i s Q E st h => wpAny_pyIter_striter_wide st h), ⟨_, Heap.get?_push_size _ rfl, rfl, rfl⟩, fp, q⟩
 ·exact wpAny_pyIter_ascii ha ⟨s1.heap.objs.size, [s1.heap.objs.size], _, _, H1, rfl, I1.kept (t' := s1.toks) fun b o e => Heap.get?_push_of_some _ e, lQ _ z t "str_ascii_iterator" (by decide) (fun A hA => Walks.strAscii hA _ z t) (fun A i s Q E st h => wpAny_pyIter_striter_ascii st h), ⟨_, Heap.get?_push_size _ rfl, rfl, rfl⟩, fp, q⟩
def xt : List V -> Hp -> VK -> Prop := fun xs H Q => ∃ z n, xs = [.str z] /\ PySem.intText? z = some n /\ z.length <= 640 /\ Q (.int n) H
theorem pO : bW X (.type "int") xt := by
 intro pins s σ H xs us Q I r h
 obtain ⟨z, n, rfl, hn, hz, q⟩ := h
 obtain ⟨u, rfl, rx⟩ := vals1 r
 obtain ⟨t, rfl⟩ := rx
 exact PySem.W.KIN.call_text hn hz ⟨.int n, H, I.tok _, ⟨_, rfl⟩, q⟩
end
end L2
namespace VL
open PySem L2
section
variable {K : PySem.W.Frag} {X : Cx} {m : Bool} {e tg : Expr} {te : TE} {va : VT} {pos : Pos}
def sgs (z : Str) : List D := z.cps.toList.map fun c => .str ⟨#[c]⟩
def CH (va : VT) : VTN := fun S Q => va S fun r S1 => ∃ z, r = .d (.str z) /\ Q (sgs z) S1
theorem sL (h : VE K X false e te va) : VI K X tg e (CG te) (CH va) := ⟨Ab h.pe, fun H0 Z σ H S Q C k t hc => h.snd H0 Z σ H S _ _ k t fun v H1 r S1 k1 st1 rr zq1 => by
 obtain ⟨z, e, q⟩ := zq1
 subst e
 cases (show Rep K _ _ H1 v (.str z) from rr)
 have hl : (sgs z).length = z.cps.size := by unfold sgs; rw [List.length_map, Array.length_toList]
 refine ⟨z, rfl, hc _ (sgs z) H1 S1 k1 st1 (fun σ2 S2 H2 _ st2 i => ⟨fun hi => (show i < z.cps.size by rw [<- hl]; exact hi), fun x H3 hy hi => ?_, fun hi => hi.trans hl⟩) q⟩
 obtain ⟨rfl, c, hx, rfl⟩ := hy
 refine ⟨fun _ _ => rfl, .str ⟨#[c]⟩, ?_, .str _⟩
 unfold sgs
 rw [List.getElem?_map, Array.getElem?_toList, hx]
 rfl⟩
def xu : List D -> (D -> Prop) -> Prop := fun ds q => ∃ (z : Str) (n : Int), ds = [.str z] /\ PySem.intText? z = some n /\ z.length <= 640 /\ q (.int n)
theorem Ac : dv K xt xu := by
 rintro xs H ds q C r ⟨z, n, rfl, hn, hz, h⟩ hc
 obtain ⟨v, rfl, rv⟩ := rep1 r
 cases rv
 exact ⟨z, n, rfl, hn, hz, hc _ _ h fun _ _ => .int _⟩
end
end VL
end
section
namespace VL
open PySem L2
section
variable {S : List Sl} {Q : VR -> List Sl -> Prop} {QN : List D -> List Sl -> Prop} {QJ : Str -> List Sl -> Prop} {q : D -> Prop} {va vb : VT} {t : VTN} {vj : VTJ} {vl vh : VO} {vr : VTA} {p : PJ2} {x y z acc : Str}
theorem dr (hl : x.length + y.length <= sizeLine) (h : q (.str (x ++ y))) : xo (.str x) (.str y) q := ⟨x, y, rfl, rfl, hl, h⟩
theorem xw {b : Bool} (e : inS x y = b) (h : q (.bl b)) : Cz false (.str x) (.str y) q := ⟨x, y, rfl, rfl, by rw [if_neg Bool.false_ne_true, e]; exact h⟩
theorem mT (hl : z.length <= sizeLine) (h : q (.int z.length)) : xq [.str z] q := ⟨z, rfl, hl, h⟩
theorem Ad {n : Int} (hn : PySem.intText? z = some n) (hl : z.length <= 640) (h : q (.int n)) : xu [.str z] q := ⟨z, n, rfl, hn, hl, h⟩
@[irreducible] def n9 (vb : VT) (Q : VR -> List Sl -> Prop) : VR -> List Sl -> Prop := fun ra S1 => ∃ z, ra = .d (.str z) /\ vb S1 fun rb S2 => ∃ y, rb = .d (.str y) /\ z.length <= sizeLine /\ Q (.d (.str (Txt.removeprefix z y))) S2
@[irreducible] def oa (z : Str) (Q : VR -> List Sl -> Prop) : VR -> List Sl -> Prop := fun rb S2 => ∃ y, rb = .d (.str y) /\ z.length <= sizeLine /\ Q (.d (.str (Txt.removeprefix z y))) S2
theorem CI (h : va S (n9 vb Q)) : CC va vb S Q := by unfold n9 at h; exact h
theorem vo (h : vb S (oa z Q)) : n9 vb Q (.d (.str z)) S := by unfold oa at h; unfold n9; exact ⟨z, rfl, h⟩
theorem vp (hl : z.length <= sizeLine) (h : Q (.d (.str (Txt.removeprefix z y))) S) : oa z Q (.d (.str y)) S := by unfold oa; exact ⟨y, rfl, hl, h⟩
@[irreducible] def vq (t : VTN) (Q : VR -> List Sl -> Prop) : VR -> List Sl -> Prop := fun ra S1 => ∃ z, ra = .d (.str z) /\ t S1 fun ds S2 => ∃ zs : List Str, ds = zs.map .str /\ JoinOk z zs = true /\ Q (.d (.str (Txt.join z zs))) S2
@[irreducible] def vw (z : Str) (Q : VR -> List Sl -> Prop) : List D -> List Sl -> Prop := fun ds S2 => ∃ zs : List Str, ds = zs.map .str /\ JoinOk z zs = true /\ Q (.d (.str (Txt.join z zs))) S2
theorem vz (h : va S (vq t Q)) : sH va t S Q := by unfold vq at h; exact h
theorem Ae (h : t S (vw z Q)) : vq t Q (.d (.str z)) S := by unfold vw at h; unfold vq; exact ⟨z, rfl, h⟩
theorem mU {zs : List Str} (e : ds = zs.map .str) (hok : JoinOk z zs = true) (h : Q (.d (.str (Txt.join z zs))) S) : vw z Q ds S := by unfold vw; exact ⟨zs, e, hok, h⟩
@[irreducible] def vA (vb : VT) (Q : List D -> List Sl -> Prop) : VR -> List Sl -> Prop := fun ra S1 => ∃ z, ra = .d (.str z) /\ vb S1 fun rb S2 => ∃ y, rb = .d (.str y) /\ z.length + 2 <= sizeLine /\ (y.length == 0) = false /\ (Txt.split z y).length <= sizeLine /\ Q ((Txt.split z y).map .str) S2
@[irreducible] def vB (z : Str) (Q : List D -> List Sl -> Prop) : VR -> List Sl -> Prop := fun rb S2 => ∃ y, rb = .d (.str y) /\ z.length + 2 <= sizeLine /\ (y.length == 0) = false /\ (Txt.split z y).length <= sizeLine /\ Q ((Txt.split z y).map .str) S2
theorem vD (h : va S (vA vb QN)) : sI va vb S QN := by unfold vA at h; exact h
theorem Af (h : vb S (vB z QN)) : vA vb QN (.d (.str z)) S := by unfold vB at h; unfold vA; exact ⟨z, rfl, h⟩
theorem mV {ws : List Str} (hl : z.length + 2 <= sizeLine) (hy : (y.length == 0) = false) (e : Txt.split z y = ws) (hn : ws.length <= sizeLine) (h : QN (ws.map .str) S) : vB z QN (.d (.str y)) S := by unfold vB; subst e; exact ⟨y, rfl, hl, hy, hn, h⟩
@[irreducible] def kJd (Q : VR -> List Sl -> Prop) : Str -> List Sl -> Prop := fun z S1 => Q (.d (.str z)) S1
theorem sM (h : vj S Str.empty (kJd Q)) : n8 vj S Q := by unfold kJd at h; exact h
theorem CJ (h : Q (.d (.str z)) S) : kJd Q z S := by unfold kJd; exact h
@[irreducible] def kJc (vj : VTJ) (acc : Str) (Q : Str -> List Sl -> Prop) : VR -> List Sl -> Prop := fun r S1 => ∃ y : Str, r = .d (.str y) /\ (acc ++ y).length <= sizeLine /\ vj S1 (acc ++ y) Q
theorem DE (h : va S (kJc vj acc QJ)) : vJc va vj S acc QJ := by unfold kJc at h; exact h
theorem oe (hl : (acc ++ y).length <= sizeLine) (h : vj S (acc ++ y) QJ) : kJc vj acc QJ (.d (.str y)) S := by unfold kJc; exact ⟨y, rfl, hl, h⟩
theorem DF (hl : acc.length <= sizeLine) (h : QJ acc S) : vJn S acc QJ := ⟨hl, h⟩
@[irreducible] def vE (Q : VR -> List Sl -> Prop) : VR -> List Sl -> Prop := fun r S1 => (∃ i : Int, r = .d (.int i) /\ i.natAbs.log2 < 1920 /\ Q (.d (.str (toString i))) S1) \/ ∃ z : Str, r = .d (.str z) /\ z.length <= sizeLine /\ Q (.d (.str z)) S1
theorem CK (h : va S (vE Q)) : CF va S Q := by unfold vE at h; exact h
theorem og {i : Int} (hi : i.natAbs.log2 < 1920) (h : Q (.d (.str (toString i))) S) : vE Q (.d (.int i)) S := by unfold vE; exact .inl ⟨i, rfl, hi, h⟩
@[irreducible] def vF (Q : List D -> List Sl -> Prop) : VR -> List Sl -> Prop := fun r S1 => ∃ z, r = .d (.str z) /\ Q (sgs z) S1
theorem CL (h : va S (vF QN)) : CH va S QN := by unfold vF at h; exact h
theorem Ag (h : QN (sgs z) S) : vF QN (.d (.str z)) S := by unfold vF; exact ⟨z, rfl, h⟩
end
end VL
end
section
namespace My
open PySem
def jl (c : Nat) : List (List Nat) -> List Nat
 | [] => []
 | [x] => x
 | x :: y :: r => x ++ c :: jl c (y :: r)
theorem sN {c : Nat} {y y' : List Nat} : ∀ {x x' : List Nat}, c ∉ x -> c ∉ x' -> x ++ c :: y = x' ++ c :: y' -> x = x' /\ y = y'
 | [], [], _, _, e => ⟨rfl, (List.cons.inj e).2⟩
 | [], b :: x', _, h, e => by
  have := (List.cons.inj e).1
  subst this
  exact absurd List.mem_cons_self h
 | a :: x, [], h, _, e => by
  have := (List.cons.inj e).1
  subst this
  exact absurd List.mem_cons_self h
 | a :: x, b :: x', h, h', e => by
  obtain ⟨e1, e2⟩ := List.cons.inj e
  obtain ⟨e3, e4⟩ := sN (fun z => h (List.mem_cons_of_mem _ z)) (fun z => h' (List.mem_cons_of_mem _ z)) e2
  exact ⟨by rw [e1, e3], e4⟩
theorem sP {c : Nat} : ∀ {ws vs : List (List Nat)}, ws ≠ [] -> vs ≠ [] -> (∀ w ∈ ws, c ∉ w) -> (∀ v ∈ vs, c ∉ v) -> jl c ws = jl c vs -> ws = vs
 | [], _, h, _, _, _, _ => absurd rfl h
 | _, [], _, h, _, _, _ => absurd rfl h
 | [x], [y], _, _, _, _, e => by rw [show x = y from e]
 | [x], y :: z :: r, _, _, h, _, e => by
  have e : x = y ++ c :: jl c (z :: r) := e
  exact absurd (by rw [e]; simp) (h x List.mem_cons_self)
 | x :: w :: r, [y], _, _, _, h, e => by
  have e : x ++ c :: jl c (w :: r) = y := e
  exact absurd (by rw [<- e]; simp) (h y List.mem_cons_self)
 | x :: w :: r, y :: z :: r', _, _, h, h', e => by
  obtain ⟨e1, e2⟩ := sN (h x List.mem_cons_self) (h' y List.mem_cons_self) e
  rw [e1, sP (by simp) (by simp) (fun a m => h a (List.mem_cons_of_mem _ m)) (fun a m => h' a (List.mem_cons_of_mem _ m)) e2]
theorem fN (c : Nat) : ∀ ws : List Str, (Str.join ⟨#[c]⟩ ws).cps.toList = jl c (ws.map fun w => w.cps.toList)
 | [] => rfl
 | [x] => rfl
 | x :: y :: r => by
  have ih := fN c (y :: r)
  show (x ++ ⟨#[c]⟩ ++ Str.join ⟨#[c]⟩ (y :: r)).cps.toList = x.cps.toList ++ c :: jl c ((y :: r).map fun w => w.cps.toList)
  rw [<- ih]
  show (x.cps ++ #[c] ++ (Str.join ⟨#[c]⟩ (y :: r)).cps).toList = _
  simp
theorem cN {x y : Str} (h : x.cps.toList = y.cps.toList) : x = y := by
 cases x; cases y
 exact congrArg Str.mk (Array.toList_inj.mp h)
theorem f7 (m : Nat) : (Str.ofString (toString (Int.negSucc m))).cps.toList = 45 :: (Nat.toDigits 10 (m + 1)).map Char.toNat := by
 rw [PyProof.Rows.signs_ofString]
 show ("-" ++ Nat.repr (m + 1)).toList.map Char.toNat = _
 rw [String.toList_append, List.map_append, Nat.toList_repr]
 rfl
theorem kq (m : Nat) : ∀ c ∈ (Nat.toDigits 10 m).map Char.toNat, 48 <= c /\ c <= 57 := by
 intro c hc
 obtain ⟨ch, hch, e⟩ := List.mem_map.mp hc
 have r := PyProof.Rows.digit_range (Nat.isDigit_of_mem_toDigits (by decide) (by decide) hch)
 rw [<- e]
 exact r
theorem mW (m : Nat) : (Nat.toDigits 10 m).map Char.toNat ≠ [] := fun e => by
 have h : 0 < (Nat.toDigits 10 m).length := Nat.length_toDigits_pos
 rw [List.map_eq_nil_iff.mp e] at h
 exact absurd h (by decide)
theorem kr {m k : Nat} (hk : 0 < k) (h : m < 10 ^ k) : ((Nat.toDigits 10 m).map Char.toNat).length <= k := by
 rw [List.length_map]
 exact (Nat.length_toDigits_le_iff (by decide) hk).mpr h
theorem de {n : Int} {k : Nat} (hk : 0 < k) (h : n.natAbs < 10 ^ k) : (Str.ofString (toString n)).length <= k + 1 := by
 show (Str.ofString (toString n)).cps.size <= k + 1
 rw [<- Array.length_toList]
 cases n with
 | ofNat m =>
  rw [show (Str.ofString (toString (Int.ofNat m))).cps.toList = (Nat.toDigits 10 m).map Char.toNat from PySem.W.KIN.signs_num m]
  exact Nat.le_succ_of_le (kr hk h)
 | negSucc m =>
  rw [f7, List.length_cons]
  exact Nat.succ_le_succ (kr hk h)
theorem sQ {n : Int} (h : n.natAbs < 10 ^ 600) : intText? (Str.ofString (toString n)) = some n := by
 have hl := de (by decide) h
 cases n with
 | ofNat m =>
  have es : (Str.ofString (toString (Int.ofNat m))).cps.toList = (Nat.toDigits 10 m).map Char.toNat := PySem.W.KIN.signs_num m
  have e := PySem.intText_digits (x := Str.ofString (toString (Int.ofNat m))) (by rw [es]; exact kq m) (by rw [es]; exact mW m) (Nat.le_trans hl (by decide))
  rw [es, PySem.W.KIN.val_back] at e
  exact e
 | negSucc m =>
  have e := PySem.intText_neg (f7 m) (kq (m + 1)) (mW (m + 1)) (Nat.le_trans hl (by decide))
  rw [PySem.W.KIN.val_back] at e
  rw [e]
  rfl
end My
end
section
namespace My
open PySem VL
def figs (n : Int) : List Nat := (Nat.toDigits 10 n.natAbs).map Char.toNat
def mk (l : List Nat) : Str := ⟨l.toArray⟩
theorem aB (l : List Nat) : (mk l).cps.toList = l := by unfold mk; simp
theorem aS (l : List Nat) : (mk l).length = l.length := by show l.toArray.size = _; simp
theorem str_mk (z : Str) : z = mk z.cps.toList := cN (by rw [aB])
def wr (n : Int) : Str := Str.ofString (toString n)
theorem ku {n : Int} (h : 0 <= n) : wr n = mk (figs n) := by
 obtain ⟨m, rfl⟩ := Int.eq_ofNat_of_zero_le h
 exact cN (by rw [aB]; exact PySem.W.KIN.signs_num m)
theorem kz {n : Int} (h : n < 0) : wr n = mk (45 :: figs n) := by
 cases n with
 | ofNat m => exact absurd h (by simp)
 | negSucc m => exact cN (by rw [aB]; exact f7 m)
theorem gR (n : Int) : ∀ c ∈ figs n, 48 <= c /\ c <= 57 := kq _
theorem vG (n : Int) : figs n ≠ [] := mW _
theorem lR {n : Int} {k : Nat} (hk : 0 < k) (h : n.natAbs < 10 ^ k) : (figs n).length <= k := kr hk h
theorem Ah {c : Nat} {l : List Nat} (h : c ≠ 45) : Txt.removeprefix (mk (c :: l)) (mk [45]) = mk (c :: l) := by
 rw [StrLaws.removeprefix_eq, StrLaws.subAt_eq, aB, aB, aS]
 have : ((List.drop 0 (c :: l)).take [45].length == [45]) = false := by simpa using h
 rw [this, Bool.and_false, if_neg Bool.false_ne_true]
theorem vH {l : List Nat} : Txt.removeprefix (mk (45 :: l)) (mk [45]) = mk l := by
 rw [StrLaws.removeprefix_eq, StrLaws.subAt_eq, aB, aB, aS, aS]
 rw [if_pos (by simp)]
 show (⟨_⟩ : Str) = ⟨_⟩
 simp
end My
end
section
namespace VL
open PySem L2
section
variable {S : List Sl} {Q : VR -> List Sl -> Prop} {q : D -> Prop} {va vb : VT} {x y z : Str}
@[irreducible] def oh (vb : VT) (Q : VR -> List Sl -> Prop) : VR -> List Sl -> Prop := fun ra S1 => vb S1 fun rb S2 => ∃ (z : Str) (i : Int) (c : Nat), ra = .d (.str z) /\ rb = .d (.int i) /\ z.length <= sizeLine /\ atI z.cps.toList i = some c /\ Q (.d (.str ⟨#[c]⟩)) S2
theorem CM (h : va S (oh vb Q)) : zV va vb S Q := by unfold oh at h; exact h
@[irreducible] def oi (z : Str) (Q : VR -> List Sl -> Prop) : VR -> List Sl -> Prop := fun rb S2 => ∃ (z' : Str) (i : Int) (c : Nat), VR.d (.str z) = .d (.str z') /\ rb = .d (.int i) /\ z'.length <= sizeLine /\ atI z'.cps.toList i = some c /\ Q (.d (.str ⟨#[c]⟩)) S2
theorem vI (h : vb S (oi z Q)) : oh vb Q (.d (.str z)) S := by unfold oi at h; unfold oh; exact h
theorem om {i : Int} {c : Nat} (hl : z.length <= sizeLine) (e : atI z.cps.toList i = some c) (h : Q (.d (.str ⟨#[c]⟩)) S) : oi z Q (.d (.int i)) S := by unfold oi; exact ⟨z, i, c, rfl, rfl, hl, e, h⟩
end
end VL
end
section
namespace VL
open PySem L2 PySem.W
section
variable {K : PySem.W.Frag} {X : Cx} {a b : Expr} {ta tb : TE} {pos : Pos} {S : List Sl} {Q : List D -> List Sl -> Prop}
theorem Reps.rep {N : AP} (h : Reps K N F H vs ds) : ∀ k : Nat, Reps K N F H (List.replicate k vs).flatten (List.replicate k ds).flatten
 | 0 => .nil
 | k + 1 => by
  rw [List.replicate_succ, List.flatten_cons, List.replicate_succ, List.flatten_cons]
  exact Reps.append h (Reps.rep h k)
def CN (t : VTN) (vb : VT) : VTN := fun S Q => t S fun ds S1 => vb S1 fun r S2 => ∃ k : Nat, r = .d (.int k) /\ ds.length * k <= 1000000 /\ k <= 1000000 /\ Q (List.replicate k ds).flatten S2
theorem Ai {t : VTN} {vb : VT} (h1 : VN K X a ta t) (h2 : VE K X false b tb vb) : VN K X (.BinOp a .Mult b pos) (tOp AY ta tb) (CN t vb) := ⟨wF yl h1.pe h2.pe, fun H0 Z σ H S Q C k t hc =>
 h1.snd H0 Z σ H S _ _ k t fun c us ds H1 H1' S1 k1 st1 ha1 hg1 hl1 rr1 t1 => h2.snd H0 Z σ H1' S1 _ _ (k1.grow hg1) t1 fun y H2 r S2 k2 st2 r2 zq1 => by
  obtain ⟨n, rfl, hlen, hn, q⟩ := zq1
  obtain ⟨ec, nc2⟩ := st2.1 c (k1.nm ha1) (by simp [hl1])
  have ec' : H2 c = some (.lst us) := by rw [ec, hl1]
  have r1 : Reps K (NM Z σ S2) (Fr H0) H2 us ds := (rr1.mono (N' := NM Z σ S1) (fun b n e => ⟨n.1, rfl⟩) (fun _ x => x)).step st2
  cases r2
  refine ⟨c, (n : Int), us, rfl, rfl, ec', by lia, by lia, by rw [rr1.length, sizeLine_eq, Int.toNat_natCast]; exact Nat.le_trans hlen (by decide), fun p hp => ?_⟩
  rw [Int.toNat_natCast]
  exact hc p _ _ H2 _ S2 k2 ((st1.trans (.grow hg1)).trans st2) hp (ba hp) aD (cC hp ((Reps.rep r1 n).mono (fun _ n _ => ⟨n, rfl⟩) fun _ x _ => x)) q⟩
@[irreducible] def oo (vb : VT) (Q : List D -> List Sl -> Prop) : List D -> List Sl -> Prop := fun ds S1 => vb S1 fun r S2 => ∃ k : Nat, r = .d (.int k) /\ ds.length * k <= 1000000 /\ k <= 1000000 /\ Q (List.replicate k ds).flatten S2
@[irreducible] def oq (ds : List D) (Q : List D -> List Sl -> Prop) : VR -> List Sl -> Prop := fun r S2 => ∃ k : Nat, r = .d (.int k) /\ ds.length * k <= 1000000 /\ k <= 1000000 /\ Q (List.replicate k ds).flatten S2
theorem CO {t : VTN} {vb : VT} (h : t S (oo vb Q)) : CN t vb S Q := by unfold oo at h; exact h
theorem vJ {vb : VT} (h : vb S (oq ds Q)) : oo vb Q ds S := by unfold oo; unfold oq at h; exact h
theorem vK {k : Nat} (h1 : ds.length * k <= 1000000) (h2 : k <= 1000000) (h : Q (List.replicate k ds).flatten S) : oq ds Q (.d (.int k)) S := by unfold oq; exact ⟨k, rfl, h1, h2, h⟩
variable {va vb : VT} {z : Str} {QR : VR -> List Sl -> Prop}
@[irreducible] def vL (vb : VT) (Q : VR -> List Sl -> Prop) : VR -> List Sl -> Prop := fun ra S1 => ∃ z, ra = .d (.str z) /\ vb S1 fun rb S2 => ∃ zs : List Str, get S2 rb = some (.lst (zs.map .str)) /\ JoinOk z zs = true /\ Q (.d (.str (Txt.join z zs))) S2
@[irreducible] def vM (z : Str) (Q : VR -> List Sl -> Prop) : VR -> List Sl -> Prop := fun rb S2 => ∃ zs : List Str, get S2 rb = some (.lst (zs.map .str)) /\ JoinOk z zs = true /\ Q (.d (.str (Txt.join z zs))) S2
theorem Aj (h : va S (vL vb QR)) : xr va vb S QR := by unfold vL at h; exact h
theorem Ak (h : vb S (vM z QR)) : vL vb QR (.d (.str z)) S := by unfold vM at h; unfold vL; exact ⟨z, rfl, h⟩
theorem sR {zs : List Str} (e : get S r = some (.lst (zs.map .str))) (hok : JoinOk z zs = true) (h : QR (.d (.str (Txt.join z zs))) S) : vM z QR r S := by unfold vM; exact ⟨zs, e, hok, h⟩
end
end VL
end
section
namespace L2
open PySem PySem.Spec PyProof.Rows
section
variable {X : Cx}
def repS (x : Str) (n : Nat) : Str := ⟨(List.replicate n x.cps).foldl (· ++ ·) #[]⟩
def CP : R2 := fun x y H Q => ∃ (z : Str) (k : Nat), x = .str z /\ y = .int k /\ 1 < k /\ z.length = 1 /\ k <= 1000000 /\ Q (.str (repS z k)) H
theorem lS (x : Str) (h : x.length = 1) : ∀ (n : Nat) (a : Array Nat), ((List.replicate n x.cps).foldl (· ++ ·) a).size = a.size + n
 | 0, a => rfl
 | n + 1, a => by
  rw [List.replicate_succ, List.foldl_cons, lS x h n, Array.size_append]
  have : x.cps.size = 1 := h
  omega
theorem vN : OpR X (binaryOp .Mult) CP := by
 rintro pins s σ H x y v u Q I rx ry ⟨z, k, e1, e2, hk, hz, hl, q⟩
 subst e1; subst e2
 obtain ⟨t, rfl⟩ := rx
 obtain ⟨t', rfl⟩ := ry
 have c1 : ¬ ((k : Int) < 1) := by omega
 have c2 : ((k : Int) == 1 || z.length == 0) = false := by
  have a1 : ((k : Int) == 1) = false := beq_eq_false_iff_ne.mpr (by omega)
  rw [a1, hz]; rfl
 refine PySem.P.mul_str (by rw [decide_eq_false (by omega), decide_eq_false (by omega)]; rfl) (fun _ _ => ?_) (fun _ _ => ?_) ?_
 ·rw [hz]
  have : (1 : Int) <= (2 ^ 63 - 1) / (k : Int) := by
   rw [Int.le_ediv_iff_mul_le (by omega)]; omega
  omega
 ·rw [hz, Int.toNat_natCast]
  exact decide_eq_false (by rw [sizeLine_eq]; omega)
 ·rw [if_neg c1, c2]
  simp only [Bool.false_eq_true, if_false]
  rw [Int.toNat_natCast]
  refine ⟨?_, ⟨.str (repS z k), H, I.tok _, ⟨_, rfl⟩, q⟩⟩
  show ((List.replicate k z.cps).foldl (· ++ ·) #[]).size <= sizeLine
  rw [lS z hz, sizeLine_eq]
  show 0 + k <= _
  omega
end
end L2
end
section
namespace VL
open PySem L2
section
variable {K : PySem.W.Frag} {H H' H0 : Hp} {Z P : AP} {σ σ' : St} {S S' : List Sl}
theorem OK.inP (k : OK K H0 (ZP Z P) σ H S) (h : ∀ a, H a ≠ none -> ¬P a -> H' a = H a) (hd : ∀ a, H' a = none -> H a = none) (hP : ∀ a, P a -> IsM (H' a)) : OK K H0 (ZP Z P) σ H' S := by
 have hm : ∀ a, NM (ZP Z P) σ S a -> H a ≠ none -> NM (ZP Z P) σ S a /\ H' a = H a := fun a n e => ⟨n, h a e fun z => n (.inr (.inr z))⟩
 have np : ∀ (i : Nat) (s : Sl) (a : Addr), S[i]? = some s -> s.mut = true -> σ[i]? = some (some (L2.V.ref a)) -> ¬P a := fun i s a h1 h2 h3 z => k.nz i s a h1 h2 h3 (.inr z)
 refine ⟨k.len, fun i o s e1 e2 => ?_, k.inj, fun a e => k.dom a (hd a e), fun a z => ?_, k.nz⟩
 ·have q := k.at_ i o s e1 e2
  cases s with
  | no => trivial
  | val d => obtain ⟨v, e, r⟩ := q; exact ⟨v, e, r.mono hm fun _ x => x⟩
  | fre d => obtain ⟨v, e, r⟩ := q; exact ⟨v, e, r.mono hm fun _ x => x⟩
  | own ds => obtain ⟨a, vs, e, e', e0, r⟩ := q; exact ⟨a, vs, e, by rw [h a (by simp [e']) (np i _ a e2 rfl (by rw [e1, e]))]; exact e', e0, r.mono hm fun _ x => x⟩
  | pen ad ns => obtain ⟨a, e, e3, e'⟩ := q; exact ⟨a, e, e3, by rw [h a (by simp [e']) (np i _ a e2 rfl (by rw [e1, e]))]; exact e'⟩
  | odi ks ds => obtain ⟨a, vs, e, ⟨ob, e'⟩, e0, ek, r⟩ := q; exact ⟨a, vs, e, ⟨ob, by rw [h a (by simp [e']) (np i _ a e2 rfl (by rw [e1, e]))]; exact e'⟩, e0, ⟨ek.1, ek.2.mono hm fun _ x => x⟩, r.mono hm fun _ x => x⟩
  | obj kk => obtain ⟨a, e, e0, r⟩ := q; exact ⟨a, e, e0, kk.mono hm (h a (kk.ism r).ne (np i _ a e2 rfl (by rw [e1, e]))) r⟩
 ·rcases z with z | z
  ·by_cases p : P a
   ·exact hP a p
   ·have e := k.zl a (.inl z)
    rw [h a e.ne p]; exact e
  ·exact hP a z
def Gr (H : Hp) (a : Addr) (bs : List Addr) (rows : List (List Str)) : Prop := H a = some (.lst (bs.map L2.V.ref)) /\ (a :: bs).Nodup /\ bs.length = rows.length /\ ∀ (k : Nat) (b : Addr) (r : List Str), bs[k]? = some b -> rows[k]? = some r -> H b = some (.lst (r.map L2.V.str))
def grD (rows : List (List Str)) : D := .lst (rows.map fun r => .lst (r.map .str))
theorem sS : ∀ {l : List Addr} {i j : Nat} {b : Addr}, l.Nodup -> l[i]? = some b -> l[j]? = some b -> i = j
 | [], _, _, _, _, h, _ => by simp at h
 | c :: l, 0, 0, b, _, _, _ => rfl
 | c :: l, 0, j + 1, b, n, h1, h2 => by
  simp at h1 h2
  subst h1
  exact absurd (List.mem_of_getElem? h2) (List.nodup_cons.mp n).1
 | c :: l, i + 1, 0, b, n, h1, h2 => by
  simp at h1 h2
  subst h2
  exact absurd (List.mem_of_getElem? h1) (List.nodup_cons.mp n).1
 | c :: l, i + 1, j + 1, b, n, h1, h2 => by
  have := sS (List.nodup_cons.mp n).2 (i := i) (j := j) (by simpa using h1) (by simpa using h2)
  rw [this]
theorem jG {N : AP} : ∀ {r : List Str}, Reps K N F H (r.map L2.V.str) (r.map D.str)
 | [] => .nil
 | _ :: r => .cons (.str _) (jG (r := r))
theorem ot {N : AP} : ∀ {bs : List Addr} {rows : List (List Str)}, bs.length = rows.length -> (∀ b ∈ bs, N b /\ F (some b)) -> (∀ (k : Nat) (b : Addr) (r : List Str), bs[k]? = some b -> rows[k]? = some r -> H b = some (.lst (r.map L2.V.str))) -> Reps K N F H (bs.map L2.V.ref) (rows.map fun r => .lst (r.map .str))
 | [], [], _, _, _ => .nil
 | b :: bs, r :: rows, hl, hn, h => .cons (.lst (hn b List.mem_cons_self).1 (hn b List.mem_cons_self).2 (h 0 b r rfl rfl) jG) (ot (by simpa using hl) (fun c hc => hn c (List.mem_cons_of_mem _ hc)) fun k c q h1 h2 => h (k + 1) c q (by simpa using h1) (by simpa using h2))
 | [], _ :: _, hl, _, _ => by simp at hl
 | _ :: _, [], hl, _, _ => by simp at hl
theorem Gr.rep {N : AP} {a : Addr} {bs : List Addr} {rows : List (List Str)} (g : Gr H a bs rows) (hn : ∀ b, (b = a \/ b ∈ bs) -> N b /\ F (some b)) : Rep K N F H (.ref a) (grD rows) :=
 .lst (hn a (.inl rfl)).1 (hn a (.inl rfl)).2 g.1 (ot g.2.2.1 (fun b hb => hn b (.inr hb)) g.2.2.2)
theorem Gr.keep {a : Addr} {bs : List Addr} {rows : List (List Str)} (g : Gr H a bs rows) (h : ∀ b, (b = a \/ b ∈ bs) -> H b ≠ none -> H' b = H b) : Gr H' a bs rows :=
 ⟨(h a (.inl rfl) (by rw [g.1]; exact fun z => nomatch z)).trans g.1, g.2.1, g.2.2.1, fun k b r h1 h2 => by
  have e := g.2.2.2 k b r h1 h2
  exact (h b (.inr (List.mem_of_getElem? h1)) (by rw [e]; exact fun z => nomatch z)).trans e⟩
theorem Gr.set {a : Addr} {bs : List Addr} {rows : List (List Str)} (g : Gr H a bs rows) {p q : Nat} {b : Addr} {r : List Str} {z : Str} (hb : bs[p]? = some b) (hr : rows[p]? = some r) : Gr (upd H b (.lst ((r.map L2.V.str).set q (.str z)))) a bs (rows.set p (r.set q z)) := by
 have hm := List.mem_of_getElem? hb
 have hne : a ≠ b := fun e => (List.nodup_cons.mp g.2.1).1 (by rw [e]; exact hm)
 refine ⟨by rw [au hne]; exact g.1, g.2.1, by rw [List.length_set]; exact g.2.2.1, fun k c r' h1 h2 => ?_⟩
 have hp : p < rows.length := (List.getElem?_eq_some_iff.mp hr).1
 by_cases e : p = k
 ·subst e
  rw [List.getElem?_set_self hp] at h2
  cases h2
  rw [hb] at h1
  cases h1
  rw [aD, List.map_set]
 ·rw [List.getElem?_set_ne e] at h2
  have hcb : c ≠ b := fun z => by
   subst z
   exact e (sS (List.nodup_cons.mp g.2.1).2 hb h1)
  rw [au hcb]
  exact g.2.2.2 k c r' h1 h2
end
end VL
end
section
namespace VL
open PySem L2
section
variable {K : PySem.W.Frag} {X : Cx} {inner iter target tg it o e1 e2 : Expr} {pos : Pos} {n : Nat} {ix : List Nat}
def vGr (vi : VTN) (n : Nat) (ix : List Nat) (vg : VG) (vn : VTN) (S : List Sl) (Q : List (List Str) -> Prop) : Prop := vi S fun ds S1 => S1 = S /\ ds.length <= 1000 /\ ∃ rows : List (List Str), rows.length = ds.length /\
 (∀ (i : Nat) d r, ds[i]? = some d -> rows[i]? = some r -> vg d (aZ n ix S) fun S3 => vn S3 fun xs S4 => xs = r.map D.str /\ backS n ix S S4 = S) /\ Q rows
theorem Al {wi : TI} {vi : VTN} {g : TG} {vg : VG} {ti : TE} {vn : VTN} (kg : bO n ix g) (hnd : ix.Nodup) (si : SndI K wi vi) (sg : SndG K g vg) (mg : wR g) (sn : A0 K ti vn) {Q : List (List Str) -> Prop} {C : VK}
  (k : OK K H Z σ H S) (il : Idle S) (t : vGr vi n ix vg vn S Q) (hc : ∀ a bs rows H', (∀ b, H b ≠ none -> H' b = H b) -> H a = none -> (∀ b ∈ bs, H b = none) -> Gr H' a bs rows -> Q rows -> C (.ref a) H') : dU wi n ix g nv ti σ H C := by
 refine si H Z σ H S _ _ k t fun J ds H1 S1 k1 st1 gd zq => ?_
 obtain ⟨eS, hl, rows, hlr, hs, hq⟩ := zq
 subst eS
 have g1 := il.grow st1
 refine ⟨fun i m ys H2 => m = ds.length - i /\ i <= ds.length /\ OK K H Z σ H2 S1 /\ Step Z σ S1 H1 σ S1 H2 /\ ∃ bs : List Addr, ys = bs.map L2.V.ref /\ bs.length = i /\ bs.Nodup /\ (∀ b ∈ bs, H b = none) /\ ∀ (k : Nat) (b : Addr) (r : List Str), bs[k]? = some b -> rows[k]? = some r -> H2 b = some (.lst (r.map L2.V.str)),
  ⟨ds.length, by simp, Nat.zero_le _, k1, .refl, [], rfl, rfl, List.nodup_nil, (fun _ z => nomatch z), fun k b r z => by simp at z⟩, ?_⟩
 rintro i m ys H2 ⟨rfl, hi, k2, st2, bs, rfl, hbl, hbn, hb0, hbr⟩
 obtain ⟨q1, q2, q3⟩ := gd σ S1 H2 (fun _ => k2.nm) st2 i
 have hsz : (1000000 : Nat) < sizeLine := by rw [sizeLine_eq]; lia
 by_cases hlt : i < ds.length
 ·refine .inr ⟨q1 hlt, by rw [List.length_map]; lia, fun ys' H' => OK K H Z σ H' S1 /\ Step Z σ S1 H1 σ S1 H' /\ ∃ bs : List Addr, ys' = bs.map L2.V.ref /\ bs.length = i + 1 /\ bs.Nodup /\ (∀ b ∈ bs, H b = none) /\ ∀ (k : Nat) (b : Addr) (r : List Str), bs[k]? = some b -> rows[k]? = some r -> H' b = some (.lst (r.map L2.V.str)), fun ys' H' p => ⟨ds.length - (i + 1), by lia, rfl, hlt, p⟩, fun x H3 y => ?_⟩
  obtain ⟨hgr, d, hd', rd⟩ := q2 x H3 y hlt
  obtain ⟨r, hr⟩ : ∃ r, rows[i]? = some r := ⟨_, List.getElem?_eq_getElem (by lia)⟩
  replace k2 := k2.grow hgr
  replace st2 := st2.trans (.grow hgr)
  replace hbr : ∀ (k : Nat) (b : Addr) (r : List Str), bs[k]? = some b -> rows[k]? = some r -> H3 b = some (.lst (r.map L2.V.str)) := fun k b r z1 z2 => by
   have e := hbr k b r z1 z2
   exact (hgr b (by rw [e]; exact fun z => nomatch z)).trans e
  have kc := k2.capt (n := n) hnd
  have rd' : Rep K (NM (Zin Z ix σ S1) (L2.capt n ix σ) (aZ n ix S1)) AnyF H3 x d := rd.mono (fun a n _ => ⟨fun z => n (ei.mp z), rfl⟩) fun _ x => x
  have h1 := sg H _ _ H3 _ x d _ (fun σ4 H4 => ∃ S4, OK K H (Zin Z ix σ S1) σ4 H4 S4 /\ Step (Zin Z ix σ S1) (L2.capt n ix σ) (aZ n ix S1) H3 σ4 S4 H4 /\ vn S4 fun xs S5 => xs = r.map D.str /\ backS n ix S1 S5 = S1) kc rd' (hs i d r hd' hr) (fun σ4 H4 S4 k4 st4 q4 => ⟨S4, k4, st4, q4⟩)
  have h2 := kg x σ H3 _ h1
  refine mg _ _ _ _ _ ?_ h2
  rintro σ4 H4 ⟨⟨hl4, hσ4⟩, S4, k4, st4, q4⟩
  show ti σ4 H4 _
  refine sn H _ σ4 H4 S4 _ _ k4 q4 fun a vs xs H5 H6 S5 k5 st5 ha hg hla rr zq => ?_
  obtain ⟨ex, eb⟩ := zq
  subst ex
  obtain rfl := Reps.toStrs rr
  obtain ⟨kb, sb, nb⟩ := k2.back k5 (st4.trans st5) hσ4
  rw [eb] at kb sb
  have gb := il.grow sb
  have st6 : Step Z σ S1 H1 σ S1 H6 := (st2.trans sb).trans (.grow hg)
  have h3n : H3 a = none := Classical.byContradiction fun z => by
   have := gb a z
   rw [ha] at this
   exact z this.symm
  refine ⟨kb.grow hg, st6, bs ++ [a], by rw [List.map_append]; rfl, by rw [List.length_append, hbl]; rfl, ?_, fun b hb => ?_, fun kk b r' z1 z2 => ?_⟩
  ·rw [List.nodup_append]
   refine ⟨hbn, by simp, fun b hb c hc => ?_⟩
   obtain rfl := List.mem_singleton.mp hc
   rintro rfl
   obtain ⟨kk, hk⟩ := List.getElem?_of_mem hb
   obtain ⟨r', hr'⟩ : ∃ r', rows[kk]? = some r' := ⟨_, List.getElem?_eq_getElem (by have := (List.getElem?_eq_some_iff.mp hk).1; lia)⟩
   rw [hbr kk b r' hk hr'] at h3n
   cases h3n
  ·rcases List.mem_append.mp hb with hb | hb
   ·exact hb0 b hb
   ·obtain rfl := List.mem_singleton.mp hb
    exact Classical.byContradiction fun z => by
     have z1 : H1 b ≠ none := by rw [g1 b z]; exact z
     exact z1 (st2.2.1 b h3n)
  ·by_cases hk : kk < bs.length
   ·rw [List.getElem?_append_left hk] at z1
    have e := hbr kk b r' z1 z2
    have e5 := (gb b (by rw [e]; exact fun z => nomatch z)).trans e
    exact (hg b (by rw [e5]; exact fun z => nomatch z)).trans e5
   ·have hke : kk = bs.length := by
     have := (List.getElem?_eq_some_iff.mp z1).1
     rw [List.length_append, List.length_singleton] at this
     lia
    subst hke
    rw [List.getElem?_append_right (Nat.le_refl _), Nat.sub_self] at z1
    obtain rfl : a = b := by simpa using z1
    rw [hbl, hr] at z2
    cases z2
    exact hla
 ·have e : i = ds.length := by lia
  refine .inl ⟨q3 e, by rw [List.length_map]; lia, fun D hD => ?_⟩
  have gg : ∀ b, H b ≠ none -> H2 b = H b := fun b z => ((il.grow st2) b (by rw [g1 b z]; exact z)).trans (g1 b z)
  have hnb : ∀ b ∈ bs, D ≠ b := fun b hb z => by
   subst z
   obtain ⟨kk, hk⟩ := List.getElem?_of_mem hb
   obtain ⟨r', hr'⟩ : ∃ r', rows[kk]? = some r' := ⟨_, List.getElem?_eq_getElem (by have := (List.getElem?_eq_some_iff.mp hk).1; lia)⟩
   rw [hbr kk D r' hk hr'] at hD
   cases hD
  refine hc D bs rows _ (fun b z => (ba hD b (by rw [gg b z]; exact z)).trans (gg b z)) (Classical.byContradiction fun z => by rw [gg D z] at hD; exact z hD) hb0 ⟨aD, List.nodup_cons.mpr ⟨fun z => hnb D z rfl, hbn⟩, by lia, fun kk b r' z1 z2 => ?_⟩ hq
  rw [au (fun z => hnb b (List.mem_of_getElem? z1) z.symm)]
  exact hbr kk b r' z1 z2
end
end VL
end
section
namespace VL
open PySem L2
section
variable {K : PySem.W.Frag} {X : Cx} {inner iter target tg it o e1 e2 : Expr} {pos spos px p1 p2 p3 p4 pc : Pos} {n i j : Nat} {ix : List Nat} {x : Str} {rest : List Stmt} {u : TS} {w : VTS} {jj : Nat} {z : Str}
def CQ (i j vv : Nat) (z : Str) (cr : List Sl -> (List (List Str) -> Prop) -> Prop) (v1 v2 : VT) (w : VTS) : VTS := fun V S => i < S.length /\ j < S.length /\ i ≠ j /\ vv ≠ i /\ vv ≠ j /\ cr (S.map lendF) fun rows0 => ∃ ds, S[vv]? = some (.val (.lst ds)) /\ ∃ Iv : Nat -> List (List Str) -> Prop, Iv 0 rows0 /\
 (∀ (m : Nat) d rows, ds[m]? = some d -> Iv m rows -> v1 ((S.set i .no).set j (.val d)) fun r1 S2 => S2 = (S.set i .no).set j (.val d) /\ ∃ i1 p r, r1 = .d (.int i1) /\ ixN rows.length i1 = some p /\ rows[p]? = some r /\
  v2 ((S.set i .no).set j (.val d)) fun r2 S3 => S3 = (S.set i .no).set j (.val d) /\ ∃ j1 q, r2 = .d (.int j1) /\ ixN r.length j1 = some q /\ Iv (m + 1) (rows.set p (r.set q z))) /\
 ∀ rows, Iv ds.length rows -> w V (((S.set i .no).set j .no).set i (.val (grD rows)))
theorem sT {bs : List Addr} {i1 : Int} {p : Nat} {b : Addr} (h : ixN bs.length i1 = some p) (hb : bs[p]? = some b) : atI (bs.map L2.V.ref) i1 = some (.ref b) := by
 unfold atI
 rw [List.length_map, h]
 show (bs.map L2.V.ref)[p]? = _
 rw [List.getElem?_map, hb]
 rfl
theorem sU {scope : Scope} {tgs cs : List Str} {wi : TI} {vi : VTN} {vv : Nat} {g : TG} {vg : VG} {ti t1 t2 : TE} {vn : VTN} {v1 v2 : VT} (hN0 : X.N.Nodup) (hi0 : X.N[i]? = some x) (hx0 : Loc X.env.scope x) (hf0 : X.fn x = true \/ X.env.scope.names.lookup x = some .local)
  (Sc : aV X scope tgs cs ix) (hcalm : X.calm = true) (hK : X.K = K) (kg : bO tgs.length ix g) (hnd : ix.Nodup) (hi : VI K X target iter wi vi) (hg : ∀ C fp s H, VGe K (ak X scope (tgs ++ cs) C fp s H) target g vg) (hn : ∀ C fp s H, VN K (ak X scope (tgs ++ cs) C fp s H) inner ti vn)
  (hp : PassesOwn (model X.prog X.w) X.A X.env X.xe) (hv : PE X it (di vv)) (hgj : PG X tg (bq j)) (ho : PE X o (di i)) (h1 : VE K X false e1 t1 v1) (h2 : VE K X false e2 t2 v2) (hpl : gL e1) (gr : VSs K X rest u w)
  (hsw : swapsWith (.ListComp inner [⟨target, iter, [], 0⟩] scope pos) (some (.Name x px)) spos.line X.env = pure true := by rfl) (hs : ∀ y, foldedSetIterable iter X.env y = pure y := by intro _; rfl) (hs2 : ∀ y, foldedSetIterable it X.env y = pure y := by intro _; rfl)
  (ha : ∀ v, assign (.Subscript (.Subscript o e1 p1) e2 p2) X.env v = (do
   let ov <- holding [v] (eval (.Subscript o e1 p1) X.env)
   let iv <- holding [v, ov] (eval e2 X.env)
   standAt p2
   holding [v, ov, iv] (setItem ov iv v)
   release [v, ov, iv] []) := by intro _; rfl)
  (hs3 : swapsWithSole [.Subscript (.Subscript o e1 p1) e2 p2] (.Constant (.str z) jj pc) p3.line X.env = pure false := by rfl) (hw3 : swappedStores [.Subscript (.Subscript o e1 p1) e2 p2] (.Constant (.str z) jj pc) X.env = pure none := by rfl)
  (h13 : (assignEach [.Subscript (.Subscript o e1 p1) e2 p2] X.env).map (·.2) = [assign (.Subscript (.Subscript o e1 p1) e2 p2) X.env] := by rfl) :
  VSs K X (.Assign [.Name x px] (.ListComp inner [⟨target, iter, [], 0⟩] scope pos) spos :: .For tg it [.Assign [.Subscript (.Subscript o e1 p1) e2 p2] (.Constant (.str z) jj pc) p3] [] p4 :: rest)
   (gW (dk (dU wi tgs.length ix g nv ti) (bq i)) (gW (oT (qc K (di vv)) (bq j) (dk (tC (.str z)) (p6 (tOp (uc K) (di i) t1) t2 kS))) u)) (CQ i j vv z (vGr vi tgs.length ix vg vn) v1 v2 w) := by
 have sg := (hg 0 [] X.s₀ (fun _ => none)).snd
 have mg := (hg 0 [] X.s₀ (fun _ => none)).mono
 have sn := (hn 0 [] X.s₀ (fun _ => none)).snd
 refine ⟨cA (lh hN0 hi0 hx0 Sc hcalm kg hi.pi (fun C fp s H => (hg C fp s H).pg) (fun C fp s H => ny) (fun C fp s H => (hn C fp s H).pe) hf0 hsw hs) (cA (jN hp hcalm (by subst hK; exact m7 hv) hgj (jL (mh pX (p8 (by subst hK; exact qr nj ho h1.pe hpl) h2.pe set_list ha) hs3 hw3 h13)) hs2) gr.ps), fun H0 Z σ H S V E k zq l => ?_⟩
 obtain ⟨hil, hjl, hij, hvi, hvj, zq⟩ := zq
 unfold gW dk
 refine Al kg hnd hi.snd sg mg sn k.lendF (iQ S) zq fun a bs rows0 H1 g1 ha0 hb0 gr0 zq => ?_
 obtain ⟨ds, hvs, Iv, iv0, step, fin⟩ := zq
 have hPn : ∀ b, (b = a \/ b ∈ bs) -> H b = none := fun b hb => hb.elim (fun e => by rw [e]; exact ha0) (hb0 b)
 have isM : ∀ {H' : Hp} {rows : List (List Str)}, Gr H' a bs rows -> ∀ b, (b = a \/ b ∈ bs) -> IsM (H' b) := fun {H' rows} g b hb => by
  rcases hb with rfl | hb
  ·rw [g.1]; trivial
  ·obtain ⟨kk, hk⟩ := List.getElem?_of_mem hb
   obtain ⟨r, hr⟩ : ∃ r, rows[kk]? = some r := ⟨_, List.getElem?_eq_getElem (by have := (List.getElem?_eq_some_iff.mp hk).1; have := g.2.2.1; lia)⟩
   rw [g.2.2.2 kk b r hk hr]; trivial
 have hz : ∀ b, Z b -> H b ≠ none := fun b zb => (k.zl b zb).ne
 -- the state behind the first row
 have kP := k.growP (P := fun b => b = a \/ b ∈ bs) g1 fun b hb => ⟨hPn b hb, isM gr0 b hb⟩
 obtain ⟨k1, _⟩ := kP.setNo (v := .ref a) hil
 have st1 := ((Step.grow (Z := Z) (σ := σ) (S := S) g1).trans ((k.grow g1).setNo (v := .ref a) hil).2)
 -- what is put by, and all else, through the loop
 have fwd : ∀ {σ2 σ3 : St} {S2 S3 : List Sl} {H2 H3 : Hp}, Step Z σ S H σ2 S2 H2 -> Step (ZP Z fun b => b = a \/ b ∈ bs) σ2 S2 H2 σ3 S3 H3 -> Step Z σ S H σ3 S3 H3 := fun {σ2 σ3 S2 S3 H2 H3} s1 s2 =>
  ⟨fun b nb hb => by
   obtain ⟨y1, y2⟩ := s1.1 b nb hb
   obtain ⟨y3, y4⟩ := s2.1 b (fun m => by
    rcases m with m | m | m
    ·exact y2 (.inl m)
    ·exact y2 (.inr m)
    ·exact hb (hPn b m)) (by rw [y1]; exact hb)
   exact ⟨y3.trans y1, nZ y4⟩, fun b e => s1.2.1 b (s2.2.1 b e), fun b zb hb => by
   have y1 := s1.2.2 b zb hb
   exact (s2.2.2 b (.inl zb) (by rw [y1]; exact hb)).trans y1⟩
 have keepG : ∀ {σ2 σ3 : St} {S2 S3 : List Sl} {H2 H3 : Hp} {rows : List (List Str)}, Gr H2 a bs rows -> Step (ZP Z fun b => b = a \/ b ∈ bs) σ2 S2 H2 σ3 S3 H3 -> Gr H3 a bs rows := fun g s => g.keep fun b hb hn => s.2.2 b (.inr hb) hn
 have hjl' : j < (S.set i .no).length := by rw [List.length_set]; exact hjl
 have hlσ : σ.length = S.length := k.len
 -- the list that is walked
 obtain ⟨lo, hl0, lv, rfl, lr⟩ := k.ownAt hvs
 obtain ⟨lx, _, rfl, _⟩ := lr.sqL
 have hvS : ((S.set i .no).set j .no)[vv]? = some (.val (.lst ds)) := by rw [List.getElem?_set_ne (Ne.symm hvj), List.getElem?_set_ne (Ne.symm hvi)]; exact hvs
 have walk : ∀ {σ3 : St} {H3 : Hp}, (σ3 = σ.set i (some (.ref a)) \/ ∃ v, σ3 = (σ.set i (some (.ref a))).set j (some v)) -> OK K H0 (ZP Z fun b => b = a \/ b ∈ bs) σ3 H3 ((S.set i .no).set j .no) -> ∃ vs, SqL K H3 lx vs /\ Reps K (NM (ZP Z fun b => b = a \/ b ∈ bs) σ3 ((S.set i .no).set j .no)) AnyF H3 vs ds := fun {σ3 H3} hσ k3 => by
  obtain ⟨o3, h3, v3, rfl, r3⟩ := k3.ownAt hvS
  have e : σ3[vv]? = some (some (.ref lx)) := by
   rcases hσ with rfl | ⟨v, rfl⟩
   ·rw [List.getElem?_set_ne (Ne.symm hvi)]; exact hl0
   ·rw [List.getElem?_set_ne (Ne.symm hvj), List.getElem?_set_ne (Ne.symm hvi)]; exact hl0
  rw [e] at h3
  cases h3
  obtain ⟨c, vs, ec, hq, rr⟩ := r3.sqL
  cases ec
  exact ⟨vs, hq, rr⟩
 obtain ⟨k2, st2⟩ := k1.wk (nY hjl')
 obtain ⟨vs0, hq0, _⟩ := walk (.inl rfl) k2
 refine ⟨.ref lx, by rw [List.getElem?_set_ne (Ne.symm hvi)]; exact hl0, lx, rfl, ⟨vs0, hq0⟩, ?_⟩
 refine ⟨fun m mm σ3 H3 => mm = ds.length - m /\ m <= ds.length /\ (σ3 = σ.set i (some (.ref a)) \/ ∃ v, σ3 = (σ.set i (some (.ref a))).set j (some v)) /\ OK K H0 (ZP Z fun b => b = a \/ b ∈ bs) σ3 H3 ((S.set i .no).set j .no) /\ Step Z σ S H σ3 ((S.set i .no).set j .no) H3 /\ ∃ rows, Gr H3 a bs rows /\ Iv m rows,
  ⟨ds.length, by simp, Nat.zero_le _, .inl rfl, k2, fwd st1 st2, rows0, gr0, iv0⟩, ?_⟩
 rintro m mm σ3 H3 ⟨rfl, hm, hσ, k3, st3, rows, g3, iv⟩
 obtain ⟨vs, hq, rr⟩ := walk hσ k3
 have hlen := rr.length
 have sv : σ3[i]? = some (some (.ref a)) := by
  rcases hσ with rfl | ⟨v, rfl⟩
  ·exact List.getElem?_set_self (by lia)
  ·rw [List.getElem?_set_ne (Ne.symm hij)]; exact List.getElem?_set_self (by lia)
 by_cases hlt : m < ds.length
 ·refine .inr ⟨⟨vs, _, hq, List.getElem?_eq_getElem (by lia)⟩, fun σ4 H4 => (∃ v, σ4 = (σ.set i (some (.ref a))).set j (some v)) /\ OK K H0 (ZP Z fun b => b = a \/ b ∈ bs) σ4 H4 ((S.set i .no).set j .no) /\ Step Z σ S H σ4 ((S.set i .no).set j .no) H4 /\ ∃ rows, Gr H4 a bs rows /\ Iv (m + 1) rows, fun σ4 H4 p => ⟨ds.length - (m + 1), by lia, rfl, hlt, .inr p.1, p.2⟩, ?_⟩
  rintro xx H4 ⟨rfl, hy⟩
  have hx := hy vs hq
  obtain ⟨d, hd, rd⟩ := rr.get hx
  have e2 : σ3.set j (some xx) = (σ.set i (some (.ref a))).set j (some xx) := by
   rcases hσ with rfl | ⟨v, rfl⟩
   ·rfl
   ·rw [List.set_set]
  have hj3 : j < ((S.set i .no).set j .no).length := by rw [List.length_set, List.length_set]; exact hjl
  obtain ⟨k4, st4⟩ := k3.setVal (i := j) hj3 rd
  have eS : ((S.set i .no).set j .no).set j (.val d) = (S.set i .no).set j (.val d) := by rw [List.set_set]
  rw [eS, e2] at k4 st4
  show p6 (tOp (uc K) (di i) t1) t2 kS (.str z) (σ3.set j (some xx)) H4 _
  rw [e2]
  have sv4 : ((σ.set i (some (.ref a))).set j (some xx))[i]? = some (some (.ref a)) := by rw [List.getElem?_set_ne (Ne.symm hij)]; exact List.getElem?_set_self (by lia)
  have g4 := keepG g3 st4
  have zq := step m d rows hd iv
  refine ⟨.ref a, sv4, h1.snd H0 _ _ _ _ _ _ k4 zq fun y1 H5 r1 S5 k5 st5 rr5 zq => ?_⟩
  obtain ⟨eS5, i1, p, r, er, hp', hr, zq⟩ := zq
  subst eS5 er
  cases (show Rep K _ _ H5 y1 (.int i1) from rr5)
  have g5 := keepG g4 st5
  have hpl' : p < bs.length := by rw [g5.2.2.1]; exact (List.getElem?_eq_some_iff.mp hr).1
  obtain ⟨b, hb⟩ : ∃ b, bs[p]? = some b := ⟨_, List.getElem?_eq_getElem hpl'⟩
  refine ⟨a, bs.map L2.V.ref, i1, .ref b, rfl, rfl, .inl (.inl g5.1), sT (by rw [g5.2.2.1]; exact hp') hb, ?_⟩
  refine h2.snd H0 _ _ H5 _ _ _ k5 zq fun y2 H6 r2 S6 k6 st6 rr6 zq => ?_
  obtain ⟨eS6, j1, q, er, hq', iv'⟩ := zq
  subst eS6 er
  cases (show Rep K _ _ H6 y2 (.int j1) from rr6)
  have g6 := keepG g5 st6
  refine ⟨b, r.map L2.V.str, j1, q, rfl, rfl, g6.2.2.2 p b r hb hr, by rw [List.length_map]; exact hq', ?_⟩
  have hbP : b = a \/ b ∈ bs := .inr (List.mem_of_getElem? hb)
  have g7 := g6.set (q := q) (z := z) hb hr
  have k7 := k6.inP (H' := upd H6 b (.lst ((r.map L2.V.str).set q (.str z)))) (fun c _ hc => au fun e => hc (by rw [e]; exact hbP)) (fun c e => by
   by_cases hc : c = b
   ·subst hc; rw [aD] at e; cases e
   ·rw [au hc] at e; exact e) (isM g7)
  have hj4 : j < ((S.set i .no).set j (.val d)).length := by rw [List.length_set, List.length_set]; exact hjl
  obtain ⟨k8, st8⟩ := k7.wk (nY hj4)
  rw [List.set_set] at k8 st8
  refine ⟨⟨xx, rfl⟩, k8, fwd (?_ : Step Z σ S H _ ((S.set i .no).set j (.val d)) _) st8, _, g7, iv'⟩
  have st6' := fwd (fwd (fwd st3 st4) st5) st6
  exact ⟨fun c nc hc => by
   obtain ⟨y1, y2⟩ := st6'.1 c nc hc
   exact ⟨(au fun e => hc (hPn c (by rw [e]; exact hbP))).trans y1, y2⟩, fun c e => st6'.2.1 c (by
   by_cases hc : c = b
   ·subst hc; rw [aD] at e; cases e
   ·rw [au hc] at e; exact e), fun c zc hc => (au fun e => hc (hPn c (by rw [e]; exact hbP))).trans (st6'.2.2 c zc hc)⟩
 ·have e : m = ds.length := by lia
  subst e
  refine .inl ⟨⟨vs, hq, by lia⟩, ?_⟩
  have k4 : OK K H0 Z σ3 H3 ((S.set i .no).set j .no) := k3.chP (fun _ _ _ => rfl) (fun _ e => e) fun b hb zb => hz b zb (hPn b hb)
  have hi3 : i < ((S.set i .no).set j .no).length := by rw [List.length_set, List.length_set]; exact hil
  have nP : ∀ b, (b = a \/ b ∈ bs) -> NM Z σ3 ((S.set i .no).set j .no) b := fun b hb mo => by
   rcases mo with ⟨q, s, m1, m2, m3⟩ | mo
   ·exact k3.nz q s b m1 m2 m3 (.inr hb)
   ·exact hz b mo (hPn b hb)
  obtain ⟨k5, st5⟩ := k4.setVal (i := i) hi3 (g3.rep (K := K) (F := AnyF) fun b hb => ⟨nP b hb, trivial⟩)
  rw [lw sv] at k5 st5
  exact gr.snd H0 Z σ3 H3 _ V E k5 (fin rows iv) (l.step (st3.trans st5))
end
end VL
end
section
namespace L2
open PySem
def kB (scope : Scope) (tg : List Str) : Prop :=
 (∀ y ∈ scope.names, y.2 ≠ .cell) /\ (∀ y ∈ scope.names, y.2 = .local -> scope.names.lookup y.1 = some .local) /\ tg.Nodup /\ ∀ y ∈ scope.names, y.2 ≠ .free
instance (scope : Scope) (tg : List Str) : Decidable (kB scope tg) := by unfold kB; infer_instance
theorem lT {X : Cx} {scope : Scope} (h : kB scope tg) (hk : scope.kind = .function := by rfl) : aV X scope tg [] [] := by
 obtain ⟨h1, h2, h3, h4⟩ := h
 exact ⟨hk, h1, h2, by rw [List.append_nil]; exact h3, rfl, (fun _ z => nomatch z), fun x hx => absurd rfl (h4 (x, .free) hx)⟩
end L2
end
section
namespace L2
open PySem PySem.Spec PyProof.Rows
def layB : Str × NameKind -> List (Str × Addr) -> Sem (ForInStep (List (Str × Addr))) := fun x cells =>
 if (x.2 == NameKind.cell) = true then do let c <- alloc { cls := .type "cell", data := .cell none }; pure (ForInStep.yield ((x.1, c) :: cells)) else pure (ForInStep.yield cells)
theorem lU : ∀ (l : List (Str × NameKind)) (acc : List (Str × Addr)), (∀ z ∈ l, z.2 ≠ .cell) -> forIn l acc layB = pure acc
 | [], _, _ => rfl
 | z :: r, acc, h => by
  have hz : (z.2 == NameKind.cell) = false := by simpa using h z List.mem_cons_self
  rw [List.forIn_cons]
  unfold layB
  rw [hz]
  simp only [Bool.false_eq_true, if_false, pure_bind]
  exact lU r acc fun y hy => h y (List.mem_cons_of_mem _ hy)
theorem ou {y : Str} {post : List (Str × NameKind)} (hp : ∀ z ∈ post, z.2 ≠ .cell) : ∀ (pre : List (Str × NameKind)) (acc : List (Str × Addr)), (∀ z ∈ pre, z.2 ≠ .cell) ->
  forIn (pre ++ (y, NameKind.cell) :: post) acc layB = (do let c <- alloc { cls := .type "cell", data := .cell none }; pure ((y, c) :: acc))
 | [], acc, _ => by
  rw [List.nil_append, List.forIn_cons]
  show (layB (y, NameKind.cell) acc >>= _) = _
  unfold layB
  rw [if_pos (show (NameKind.cell == NameKind.cell) = true from rfl)]
  simp only [bind_assoc, pure_bind]
  congr 1
  funext c
  exact lU post _ hp
 | z :: r, acc, h => by
  have hz : (z.2 == NameKind.cell) = false := by simpa using h z List.mem_cons_self
  rw [List.cons_append, List.forIn_cons]
  show (layB z acc >>= _) = _
  unfold layB
  rw [hz]
  simp only [Bool.false_eq_true, if_false, pure_bind]
  exact ou hp r acc fun y hy => h y (List.mem_cons_of_mem _ hy)
structure kC (scope : Scope) (y : Str) : Prop where
 at_ : ∃ pre post, scope.names = pre ++ (y, NameKind.cell) :: post /\ (∀ z ∈ pre, z.2 ≠ .cell) /\ ∀ z ∈ post, z.2 ≠ .cell
theorem jd {M : Model} {A : Around} {E : Value -> Shared -> Prop} {s : Shared} {scope : Scope} {y : Str} {g : Addr} {cl : List (Str × Addr)} {qual : Str} {env : Env} {Q : Env -> Shared -> Prop} (h : kC scope y)
  (hQ : Q { scope := scope, locals := s.heap.objs.size, globals := g, cells := (y, s.heap.objs.size + 1) :: cl, qual := qual, func := none, code := env.code, frame := env.frame, builtins := env.builtins }
   { s with heap := (s.heap.push { cls := .type "dict", data := .dict #[] }).push { cls := .type "cell", data := .cell none } }) :
  wpAny M A (newFunctionEnv scope g cl [] qual none Value.none (some env)) Q E s := by
 obtain ⟨pre, post, e, h1, h2⟩ := h.at_
 have he : (forIn scope.names cl fun (x : Str × NameKind) (cells : List (Str × Addr)) => match x with
   | (name, kind) => if (kind == NameKind.cell) = true then (do let c <- alloc { cls := .type "cell", data := .cell none }; pure (ForInStep.yield ((name, c) :: cells)) : Sem (ForInStep (List (Str × Addr)))) else pure (ForInStep.yield cells)) = (do let c <- alloc { cls := .type "cell", data := .cell none }; pure ((y, c) :: cl)) := by
  rw [e]
  exact ou h2 pre cl h1
 simp only [newFunctionEnv, Option.isSome_some, if_true]
 refine wpAny_bind (wpAny_alloc ?_)
 refine wpAny_bind ?_
 show wpAny M A (forIn scope.names cl fun (x : Str × NameKind) (cells : List (Str × Addr)) => match x with
   | (name, kind) => if (kind == NameKind.cell) = true then (do let c <- alloc { cls := .type "cell", data := .cell none }; pure (ForInStep.yield ((name, c) :: cells)) : Sem (ForInStep (List (Str × Addr)))) else pure (ForInStep.yield cells)) _ _ _
 rw [he]
 refine wpAny_bind (wpAny_alloc (wpAny_pure ?_))
 refine wpAny_bind ?_
 rw [List.forIn_nil]
 refine wpAny_pure (wpAny_pure ?_)
 have e2 : (s.heap.push { cls := .type "dict", data := .dict #[] }).objs.size = s.heap.objs.size + 1 := Heap.size_push ..
 rw [<- e2] at hQ
 exact hQ
def aO (X : Cx) (scope : Scope) (N : List Str) (y : Str) (C : Addr) (fp : List Addr) (s₀ : Shared) (H₀ : Hp) : Cx :=
 { X with N := N, s₀ := s₀, H₀ := H₀, env := compEnvC scope ((y, C + 1) :: bg X.env scope.names []) C X.env, outer := X.stack, stack := X.stack, ex := fp, fn := fun x => x == y, pn := [], xe := fun _ _ => False }
structure bV (X : Cx) (scope : Scope) (y : Str) (tg cs : List Str) (ix : List Nat) : Prop where
 kind : scope.kind = .function
 one : kC scope y
 look : scope.names.lookup y = some .cell
 names : ∀ z ∈ scope.names, z.2 = .local -> scope.names.lookup z.1 = some .local
 nd : (tg ++ cs).Nodup
 at_ : ix.map (fun i => X.N[i]?) = cs.map some
 free : ∀ x ∈ cs, (x, NameKind.free) ∈ scope.names /\ scope.names.lookup x = some .free
 nofree : (y, NameKind.free) ∉ scope.names
 out : ∀ x, (x, NameKind.free) ∈ scope.names -> X.env.scope.names.lookup x = some .cell \/ X.env.scope.names.lookup x = some .free
theorem iT {env : Env} {scope : Scope} {x : Str} {k : NameKind} (h : (relabel scope env).names.lookup x = some k) (hk : k = .cell \/ k = .free) : scope.names.lookup x = some .cell \/ (x, NameKind.free) ∈ scope.names := by
 have h : (scope.names.map fun (n, k) => if (k == NameKind.free && env.scope.kind == .function && env.kindOf n == some .cell) then (n, NameKind.cell) else (n, k)).lookup x = some k := h
 rw [cK] at h
 cases q : scope.names.lookup x with
 | none => rw [q] at h; cases h
 | some k0 =>
  have hm := PySem.mem_of_lookup q
  rw [q] at h
  by_cases c : freed env (x, k0) = true
  ·unfold freed at c
   simp only [Bool.and_eq_true, beq_iff_eq] at c
   refine .inr ?_
   rw [<- c.1.1]
   exact hm
  ·have h2 : k0 = k := by simpa [c] using h
   subst h2
   rcases hk with rfl | rfl
   ·exact .inl rfl
   ·exact .inr hm
theorem pP {scope : Scope} {x y : Str} (h : kC scope y) (e : scope.names.lookup x = some .cell) : x = y := by
 obtain ⟨pre, post, en, h1, h2⟩ := h.at_
 have hm := PySem.mem_of_lookup e
 rw [en] at hm
 rcases List.mem_append.mp hm with z | z
 ·exact absurd rfl (h1 _ z)
 ·rcases List.mem_cons.mp z with z | z
  ·exact congrArg Prod.fst z
  ·exact absurd rfl (h2 _ z)
section
variable {X : Cx} {pins : List (Addr × Obj)} {σ : St} {H H1 : Hp} {s : Shared}
theorem pQ {scope : Scope} {y : Str} {tg cs : List Str} {fp : List Addr} {s4 : Shared} (S : bV X scope y tg cs ix) (I : Inv X pins σ H s) (hf : ∀ b ∈ fp, dY X pins H b) (ho : ∀ b ∈ fp, ∃ o, s.heap.get? b = some o) {C : Addr} (hC : s.heap.objs.size <= C)
  (hk : ∀ b o, s.heap.get? b = some o -> s4.heap.get? b = some o) (hns : s4.heap.Ns C fun _ => none) (hcell : s4.heap.IsCell (C + 1) none) (os : s4.os = s.os) (bare : AllBare s4.gens) (hn : H C = none) (hn1 : H (C + 1) = none) :
  Inv (aO X scope (tg ++ cs) y C fp s H) [] (capt tg.length ix σ) H s4 := by
 have clX : ∀ x c, (bg X.env scope.names []).lookup x = some c -> X.env.cells.lookup x = some c := fun x c e => by
  rcases cB (PySem.mem_of_lookup e) with h | h
  ·cases h
  ·exact h
 -- a cell of the block: its own or one of outside
 have clY : ∀ x c, ((y, C + 1) :: bg X.env scope.names []).lookup x = some c -> (x = y /\ c = C + 1) \/ (x ≠ y /\ (bg X.env scope.names []).lookup x = some c) := fun x c e => by
  rw [List.lookup_cons] at e
  cases q : x == y with
  | true => rw [q] at e; exact .inl ⟨by simpa using q, (Option.some.inj e).symm⟩
  | false => rw [q] at e; exact .inr ⟨by simpa using q, e⟩
 have old : ∀ x c, X.env.cells.lookup x = some c -> c < s.heap.objs.size := fun x c e => by
  obtain ⟨v, o, h1, _⟩ := I.cell x c e
  exact Heap.lt_size h1
 have hasC : ∀ x, (x, NameKind.free) ∈ scope.names -> ∃ c, (bg X.env scope.names []).lookup x = some c := fun x hx => by
  obtain ⟨c, e⟩ := I.ok.has x (S.out x hx)
  have m := hV (acc := []) hx e
  cases q : (bg X.env scope.names []).lookup x with
  | some c' => exact ⟨c', rfl⟩
  | none =>
   have := List.lookup_eq_none_iff.mp q (x, c) m
   simp at this
 have hasY : ∀ x, x ≠ y -> ∀ c, (bg X.env scope.names []).lookup x = some c -> ((y, C + 1) :: bg X.env scope.names []).lookup x = some c := fun x hx c e => by
  rw [List.lookup_cons, show (x == y) = false by simpa using hx]
  exact e
 have atY : ((y, C + 1) :: bg X.env scope.names []).lookup y = some (C + 1) := by rw [List.lookup_cons, show (y == y) = true by simp]
 refine ⟨⟨I.ok.mod, ?_, I.ok.glob, I.ok.blt, hC, fun x z c e1 e2 => ?_, fun x hx => ?_, fun x c h e => ?_, I.ok.hd, I.ok.frames, .inl rfl, fun b hb => ⟨?_, fun x c e => ?_⟩, I.bs, Nat.le_trans I.ok.bsz I.sz, fun b o e hb => ?_, fun b hb hx => ?_, I.stack, I.stkFree⟩,
  os, bare, Un.kept hk, ⟨_, hns, fun i x v e1 e2 e3 => ?_⟩, fun x c e => ?_, hn, fun x c e => ?_, fun p hp => (by cases hp), I.hok.kept hk, ?_⟩
 ·show (relabel scope X.env).kind = .function
  exact S.kind
 ·rcases clY x c e1 with ⟨rfl, rfl⟩ | ⟨h1, q1⟩ <;> rcases clY z _ e2 with ⟨rfl, h2⟩ | ⟨h2, q2⟩
  ·rfl
  ·have := old _ _ (clX _ _ q2); lia
  ·have := old _ _ (clX _ _ q1); lia
  ·exact I.ok.inj x z c (clX x c q1) (clX z c q2)
 ·have hx' : (relabel scope X.env).names.lookup x = some .cell \/ (relabel scope X.env).names.lookup x = some .free := hx
  have hx2 : scope.names.lookup x = some .cell \/ (x, NameKind.free) ∈ scope.names := by
   rcases hx' with h | h
   ·exact iT h (.inl rfl)
   ·exact iT h (.inr rfl)
  by_cases hxy : x = y
  ·subst hxy; exact ⟨_, atY⟩
  ·rcases hx2 with h | h
   ·exact absurd (pP S.one h) hxy
   ·obtain ⟨c, e⟩ := hasC x h
    exact ⟨c, hasY x hxy c e⟩
 ·have h : (x == y) = true := h
  obtain rfl : x = y := by simpa using h
  have e : ((x, C + 1) :: bg X.env scope.names []).lookup x = some c := e
  rw [atY] at e
  cases e
  show s.heap.objs.size <= C + 1
  lia
 ·obtain ⟨o, e⟩ := ho b hb
  exact Nat.ne_of_lt (Nat.lt_of_lt_of_le (Heap.lt_size e) hC)
 ·rcases clY x c e with ⟨rfl, rfl⟩ | ⟨_, q⟩
  ·obtain ⟨o, e⟩ := ho b hb
   have := Heap.lt_size e
   lia
  ·exact (hf b hb).2.2.2.2.1 x c (clX x c q)
 ·obtain ⟨_, _, _, h, _⟩ := hf b hb
  rcases h with h | h
  ·exact I.ok.noex b o e h
  ·exact absurd (Nat.lt_of_lt_of_le (Heap.lt_size (I.ok.bs b o e).1) h) (Nat.lt_irrefl _)
 ·have hx : b ∈ frs X.stack := hx
  obtain ⟨_, h1, h2, _⟩ := hf b hb
  rcases List.mem_cons.mp (I.stkSub b hx) with h | h
  ·exact h1 h
  ·exact h2 h
 ·obtain ⟨hx, k, h1, h2⟩ := cT (X := X) S.at_ e1 e2
  obtain ⟨hx1, hx2⟩ := S.free x hx
  have hxy : x ≠ y := fun z => S.nofree (z ▸ hx1)
  obtain ⟨m, hnm, hl⟩ := I.loc
  have ov := S.out x hx1
  obtain ⟨u, r, l⟩ := hl k x v h1 h2 (by rcases ov with z | z; exact .inr (.inl z); exact .inr (.inr z))
  refine ⟨u, r, ?_⟩
  rcases l with ⟨l, _⟩ | ⟨_, c, lc, ic⟩
  ·have l : X.env.scope.names.lookup x = some .local := l
   rcases ov with z | z <;> rw [z] at l <;> cases l
  ·obtain ⟨c', e'⟩ := hasC x hx1
   have := (clX x c' e').symm.trans lc
   cases this
   refine .inr ⟨bN hx2, c, hasY x hxy c e', ?_⟩
   obtain ⟨o, ho1, ho2⟩ := ic
   exact ⟨o, hk c o ho1, ho2⟩
 ·rcases clY x c e with ⟨rfl, rfl⟩ | ⟨_, q⟩
  ·exact ⟨none, hcell⟩
  ·obtain ⟨v, o, ho1, ho2⟩ := I.cell x c (clX x c q)
   exact ⟨v, o, hk c o ho1, ho2⟩
 ·rcases clY x c e with ⟨rfl, rfl⟩ | ⟨_, q⟩
  ·exact hn1
  ·exact I.freeC x c (clX x c q)
 ·show (capt tg.length ix σ).length = (tg ++ cs).length
  have := congrArg List.length S.at_
  simp only [List.length_map] at this
  unfold capt
  simp [this]
theorem iU {yy : Str} {use : Option (Value -> Sem Unit)} {Qc : Value -> Shared -> Prop} {pos' : Pos} {elt target iter : Expr} {ifs : List Expr} {scope : Scope} {pos : Pos} {tg cs : List Str} {wi : TI} {g : TG} {tc : TT} {te : TE} (S : bV X scope yy tg cs ix) (hcalm : X.calm = true) (kg : bO tg.length ix g)
    (hi : PI X target iter wi) (hg : ∀ C fp s H, PG (aO X scope (tg ++ cs) yy C fp s H) target g) (hc : ∀ C fp s H, PTs (aO X scope (tg ++ cs) yy C fp s H) ifs tc) (he : ∀ C fp s H, PE (aO X scope (tg ++ cs) yy C fp s H) elt te)
    (hs : ∀ x, foldedSetIterable iter X.env x = pure x) {pins : List (Addr × Obj)} {s : Shared} {σ : St} {H : Hp} {Q : VK} (I : Inv X pins σ H s) (h : dU wi tg.length ix g tc te σ H Q)
    (fin : ∀ D C H' s' v, Inv X pins σ H' s' -> Q (.ref D) H' -> dY X pins H' C -> (∃ m, s'.heap.Ns C m) -> compPost (model X.prog X.w) X.A X.xe use Qc (.ref D) C (.ok v) s') :
    wpAny (model X.prog X.w) X.A (comprehension (.ListComp elt [⟨target, iter, ifs, 0⟩] scope pos) scope X.env pos' (newList []) false (eval iter X.env) use) Qc X.xe s := by
  refine wpAny_comprehension_free (use := use) (cl := bg X.env scope.names []) rfl hs (cS fun n hn => I.ok.has n (S.out n hn)) S.kind S.names ?_
  refine wpAny_mono (hi pins s σ H _ I h) (fun v s1 h1 => wpAny_mono h1 (fun itv s2 h2 => ?_) fun _ _ e => e) fun _ _ e => e
  obtain ⟨it, fp, tn, J, H2, rfl, I2, T, st2, f2, W, ⟨m0, w0⟩, turn⟩ := h2
  refine wpAny_newObj_type (jd S.one ?_)
  dsimp only
  generalize hP : s2.heap.push { cls := .type "list", dict := none, data := .seq ([] : List Value).toArray } = P2
  have hCs : P2.objs.size = s2.heap.objs.size + 1 := by rw [<- hP, Heap.size_push]
  have hsz1 : (P2.push { cls := .type "dict", data := .dict #[] }).objs.size = P2.objs.size + 1 := Heap.size_push ..
  have hns1 : ((P2.push { cls := .type "dict", data := .dict #[] }).push { cls := .type "cell", data := .cell none }).Ns P2.objs.size fun _ => none := (Heap.Ns.new P2 (.type "dict")).keeps fun b o e => Heap.get?_push_of_some _ e
  have hcl1 : ((P2.push { cls := .type "dict", data := .dict #[] }).push { cls := .type "cell", data := .cell none }).IsCell (P2.objs.size + 1) none := ⟨_, hsz1 ▸ Heap.get?_push_size _ rfl, rfl⟩
  have old1 : ∀ b o, P2.get? b = some o -> ((P2.push { cls := .type "dict", data := .dict #[] }).push { cls := .type "cell", data := .cell none }).get? b = some o := fun b o e => Heap.get?_push_of_some _ (Heap.get?_push_of_some _ e)
  generalize hh1 : (P2.push { cls := .type "dict", data := .dict #[] }).push { cls := .type "cell", data := .cell none } = h1 at hns1 hcl1 old1 ⊢
  have hDC : s2.heap.objs.size ≠ P2.objs.size := by rw [hCs]; exact Nat.ne_of_lt (Nat.lt_succ_self _)
  have hCle : s2.heap.objs.size <= P2.objs.size := by rw [hCs]; exact Nat.le_succ _
  have hD0 : h1.get? s2.heap.objs.size = some { cls := .type "list", data := .seq ([] : List Value).toArray 0 } := old1 _ _ (hP ▸ Heap.get?_push_size _ rfl)
  have old : ∀ b o, s2.heap.get? b = some o -> h1.get? b = some o := fun b o e => old1 b o (hP ▸ Heap.get?_push_of_some _ e)
  generalize hCg : P2.objs.size = C at *
  generalize hDg : s2.heap.objs.size = D at *
  have nC : H2 C = none := I2.hok.fresh (by rw [hDg]; exact hCle)
  have nC1 : H2 (C + 1) = none := I2.hok.fresh (by rw [hDg]; exact Nat.le_succ_of_le hCle)
  have nD : H2 D = none := I2.hok.fresh (by rw [hDg]; exact Nat.le_refl _)
  have fo : ∀ b ∈ fp, ∃ o, s2.heap.get? b = some o := fun b hb => let ⟨o, e, _⟩ := T.obj _ _ st2 b hb; ⟨o, e⟩
  have Dfp : D ∉ fp := fun z => by
    obtain ⟨o, e⟩ := fo D z
    have := Heap.lt_size e
    rw [hDg] at this
    exact absurd this (Nat.lt_irrefl _)
  have Dfs : D ∉ frs X.stack := fun z => by
    rcases List.mem_cons.mp (I2.stkSub D z) with e | e
    · have := I2.lt
      rw [<- e, hDg] at this
      exact absurd this (Nat.lt_irrefl _)
    · exact I2.nofs (by rw [hDg]; exact Nat.le_refl _) e
  have DcY : ∀ x c, ((yy, C + 1) :: bg X.env scope.names []).lookup x = some c -> c ≠ D := fun x c e => by
    rw [List.lookup_cons] at e
    cases q : x == yy with
    | true =>
      rw [q] at e
      cases e
      lia
    | false =>
      rw [q] at e
      rcases cB (PySem.mem_of_lookup e) with h | h
      · cases h
      · exact (I2.fpOk (H' := H2) (b := D) (by rw [hDg]; exact Nat.le_refl _) nD).2.2.2.2.1 x c h
  -- the block's context
  have Yok : ∀ s4 : Shared, s4 = { s2 with heap := h1 } -> Inv (aO X scope (tg ++ cs) yy C fp s2 H2) [] (capt tg.length ix σ) H2 s4 := by
    rintro s4 rfl
    exact pQ S I2 f2 fo (by rw [hDg]; exact hCle) old hns1 hcl1 rfl I2.bare nC nC1
  -- the loop
  have loop : ∀ s4 : Shared, s4 = { s2 with heap := h1 } ->
      codeAny (model X.prog X.w) X.A (.compLoop (.ListComp elt [⟨target, iter, ifs, 0⟩] scope pos) 0 (.ref it) (.ref D) (compEnvC scope ((yy, C + 1) :: bg X.env scope.names []) C X.env)) (compPost (model X.prog X.w) X.A X.xe use Qc (.ref D) C) s4 := by
    intro s4 e4
    refine codeAny_loop rfl (fun n s' => ∃ i ys its k H', Inv (aO X scope (tg ++ cs) yy C fp s2 H2) [] (capt tg.length ix σ) H' s' /\ tn i s'.heap /\ (∀ b ∈ fp, H' b = none) /\ H' D = none /\ s'.heap.get? D = some { cls := .type "list", data := .seq (its : List Value).toArray k } /\ Vals ys its /\ W i n ys H')
      ?_ m0 ⟨0, [], [], 0, H2, Yok s4 e4, ?_, fun b hb => (f2 b hb).1, nD, by rw [e4]; exact hD0, .nil, w0⟩
    · rintro n s5 ⟨i, ys, its, k, H5, I5, st5, fr5, d5, o5, v5, w5⟩
      show wpAny _ X.A ((compTurn (.ListComp elt [⟨target, iter, ifs, 0⟩] scope pos) 0 (.ref it) (.ref D) (compEnvC scope ((yy, C + 1) :: bg X.env scope.names []) C X.env)).onRaise (fun x => do noteFrame x (compEnvC scope ((yy, C + 1) :: bg X.env scope.names []) C X.env); theTreesLotGoes x)) _ _ s5
      refine wpAny_noted ?_
      rw [compTurn_list]
      have pin0 : Inv (aO X scope (tg ++ cs) yy C fp s2 H2) [(D, { cls := .type "list", data := .seq its.toArray k })] (capt tg.length ix σ) H5 s5 := I5.pins_of fun p hp => by
        have e : p = (D, { cls := .type "list", data := .seq its.toArray k }) := by simpa using hp
        subst e
        exact ⟨o5, d5, hDC, Dfs, fun v z => by have z' : Data.seq _ _ = Data.cell v := z; cases z'⟩
      have fpY : ∀ {H' : Hp}, (∀ b ∈ fp, H' b = none) -> ∀ b ∈ fp, dY (aO X scope (tg ++ cs) yy C fp s2 H2) [(D, { cls := .type "list", data := .seq its.toArray k })] H' b := fun hn b hb =>
        ⟨hn b hb, (I5.ok.exf b hb).1, fun z => I5.ok.exfs b hb z, .inl hb, (I5.ok.exf b hb).2, fun p hp z => by
          have hp : p ∈ ([] : List (Addr × Obj)) ++ [(D, { cls := .type "list", data := .seq its.toArray k })] := hp
          have e : p = (D, { cls := .type "list", data := .seq its.toArray k }) := by simpa using hp
          subst e
          have z : D = b := z
          exact Dfp (z ▸ hb)⟩
      refine wpAny_bind (wpAny_standAt (wpAny_bind ?_))
      rcases turn i n ys H5 w5 with ⟨stop, hz, qn⟩ | ⟨go, hz, Nx, hN, step⟩
      · refine thn (T.done (aO X scope (tg ++ cs) yy C fp s2 H2) rfl rfl rfl hcalm i _ s5 _ H5 _ pin0 (fpY fr5) st5 stop) fun r s6 zr1 => ?_
        obtain ⟨hr, I6⟩ := zr1
        subst hr
        refine wpAny_pure ?_
        obtain ⟨mC, hnsC, _⟩ := id I6.loc
        have IX : Inv X pins σ H5 s6 := I2.call' (ch := fp) I6.os I6.base I6.hok I6.bare fun b hb => let ⟨_, a1, _, a3, a4, a5⟩ := f2 b hb; ⟨a3, a1, a4, a5⟩
        obtain ⟨_, b1, _, b3, b4, b5⟩ := I2.fpOk (H' := H5) (b := D) (by rw [hDg]; exact Nat.le_refl _) d5
        obtain ⟨_, c1, c2, c3, c4, c5⟩ := I2.fpOk (H' := H5) (b := C) (by rw [hDg]; exact hCle) I6.free
        have gD : s6.heap.get? D = some { cls := .type "list", data := .seq its.toArray k } := (I6.pin (D, { cls := .type "list", data := .seq its.toArray k }) (List.mem_append_right _ List.mem_cons_self)).1
        have IXD : Inv X pins σ (upd H5 D (.lst ys)) s6 := IX.track d5 (by rw [<- hDg]; exact I2.sz) b1 b4 b5 ⟨hz, its, k, v5, gD⟩
        exact fin D C _ s6 _ IXD (qn D d5) ⟨by rw [au (Ne.symm hDC)]; exact I6.free, c1, c2, c3, c4, c5⟩ ⟨mC, hnsC⟩
      · refine thn (T.item (aO X scope (tg ++ cs) yy C fp s2 H2) rfl rfl rfl hcalm i _ s5 _ H5 _ pin0 (fpY fr5) st5 go) fun r s6 zr1 => ?_
        obtain ⟨u, hr, h6⟩ := zr1
        subst hr
        refine wpAny_bind (thn h6 fun _ s7 zr1 => ?_)
        obtain ⟨x, H7, I7, r7, y7, st7, fr7⟩ := zr1
        have I7' := I7.pinned (fpY fr7) (T.obj _ _ st7)
        -- the next turn
        have again : ∀ {σ2 : St} {H8 : Hp} {s8 : Shared} {ys' : List V} {its' : List Value} {k' : Nat} , Inv (aO X scope (tg ++ cs) yy C fp s2 H2) [] σ2 H8 s8 -> (σ2.length = (capt tg.length ix σ).length /\ ∀ (i : Nat) (v : V), (capt tg.length ix σ)[i]? = some (some v) -> σ2[i]? = some (some v)) ->
            (∀ b ∈ fp, ∀ o, s7.heap.get? b = some o -> s8.heap.get? b = some o) -> (∀ b ∈ fp, H8 b = none) -> H8 D = none -> s8.heap.get? D = some { cls := .type "list", data := .seq its'.toArray k' } -> Vals ys' its' -> Nx ys' H8 ->
            ∃ m, m < n /\ ∃ i ys its k H', Inv (aO X scope (tg ++ cs) yy C fp s2 H2) [] (capt tg.length ix σ) H' s8 /\ tn i s8.heap /\ (∀ b ∈ fp, H' b = none) /\ H' D = none /\ s8.heap.get? D = some { cls := .type "list", data := .seq (its : List Value).toArray k } /\ Vals ys its /\ W i m ys H' := by
          intro σ2 H8 s8 ys' its' k' I8 kp fk fn dn dg vv nx
          obtain ⟨m', hm, w8⟩ := hN ys' H8 nx
          exact ⟨m', hm, i + 1, ys', its', k', H8, I8.weak kp.1.symm kp.2, T.keep _ _ _ st7 fk, fn, dn, dg, vv, w8⟩
        refine wpAny_bind (wpAny_mono (hg C fp s2 H2 _ s7 _ H7 x u _ I7' r7 (kg x σ H7 _ (step x H7 y7))) (fun _ s8 zr1 => ?_) fun _ _ z => z.elim)
        obtain ⟨σ8, H8, I8, kp8, q8⟩ := zr1
        refine wpAny_bind (wpAny_mono (hc C fp s2 H2 _ s8 σ8 H8 _ I8 q8) (fun ok s9 zr1 => ?_) fun _ _ z => z.elim)
        obtain ⟨H9, I9, q9⟩ := zr1
        have pinsOf : ∀ {σ' : St} {H' : Hp} {s' : Shared}, Inv (aO X scope (tg ++ cs) yy C fp s2 H2) ([(D, { cls := .type "list", data := .seq its.toArray k })] ++ b6 fp s7.heap) σ' H' s' ->
            (∀ b ∈ fp, ∀ o, s7.heap.get? b = some o -> s'.heap.get? b = some o) /\ (∀ b ∈ fp, H' b = none) /\ H' D = none /\ s'.heap.get? D = some { cls := .type "list", data := .seq its.toArray k } := by
          intro σ' H' s' I'
          refine ⟨fun b hb o e => (I'.pin (b, o) (List.mem_append_right _ (List.mem_append_right _ (aQ hb e)))).1, fun b hb => ?_, (I'.pin (D, { cls := .type "list", data := .seq its.toArray k }) (List.mem_append_right _ (List.mem_append_left _ List.mem_cons_self))).2.1, (I'.pin (D, { cls := .type "list", data := .seq its.toArray k }) (List.mem_append_right _ (List.mem_append_left _ List.mem_cons_self))).1⟩
          obtain ⟨o, e, d⟩ := T.obj _ _ st7 b hb
          exact (I'.pin (b, o) (List.mem_append_right _ (List.mem_append_right _ (aQ hb e)))).2.1
        cases ok with
        | false =>
          obtain ⟨p1, p2, p3, p4⟩ := pinsOf I9
          exact wpAny_pure ⟨rfl, again (I9.pins_of fun p hp => nomatch hp) kp8 p1 p2 p3 p4 v5 q9⟩
        | true =>
          have q9 : te σ8 H9 fun v H6 => Nx (ys ++ [v]) H6 := q9
          refine wpAny_bind (wpAny_bind (wpAny_mono (he C fp s2 H2 _ s9 σ8 H9 _ I9 q9) (fun y s10 zr1 => ?_) fun _ _ z => z.elim))
          obtain ⟨v, H10, I10, rv, nx⟩ := zr1
          obtain ⟨p1, p2, p3, p4⟩ := pinsOf I10
          have hl5 := v5.length
          refine wpAny_bind (call_meets F.slot_list_append ⟨_, p4, rfl⟩ F.entry_list_append (F.args_list_append_2 _ _) (PySem.list_append D its.toArray k y (by rw [List.size_toArray]; lia)) ⟨p4, ?_⟩)
          have g10 := PySem.IsL.update p4 (·.push y)
          rw [show its.toArray.push y = (its ++ [y]).toArray by simp] at g10
          have I11 : Inv (aO X scope (tg ++ cs) yy C fp s2 H2) [] σ8 H10 s10 := I10.pins_of fun p hp => nomatch hp
          have I12 : Inv (aO X scope (tg ++ cs) yy C fp s2 H2) [] σ8 H10 { s10 with heap := s10.heap.update D (Obj.mapSeq (·.push y)) } :=
            I11.turned (t' := s10.toks) (fun b o hb e => (Heap.get?_update_other s10.heap (Obj.mapSeq (·.push y)) (Ne.symm hb)).trans e) p3 hDC (.inr (by show s2.heap.objs.size <= D; rw [hDg]; exact Nat.le_refl _)) DcY (fun p hp => nomatch hp)
          refine wpAny_pure (wpAny_pure ⟨rfl, again (its' := its ++ [y]) I12 kp8 (fun b hb o e => ?_) p2 p3 g10 (v5.append (.cons rv .nil)) nx⟩)
          exact (Heap.get?_update_other s10.heap (Obj.mapSeq (·.push y)) (fun z : D = b => Dfp (z ▸ hb))).trans (p1 b hb o e)
    · rw [e4]; exact T.keep _ _ _ st2 fun b _ o e => old b o e
  exact codeAny_compStart_list (loop _ rfl) (T.self _ 0 _ _ _ (T.keep _ _ _ st2 fun b _ o e => old b o e) (loop _ rfl))
theorem sV {y : Str} {elt target iter : Expr} {ifs : List Expr} {scope : Scope} {pos : Pos} {tg cs : List Str} {wi : TI} {g : TG} {tc : TT} {te : TE} (S : bV X scope y tg cs ix) (hcalm : X.calm = true) (kg : bO tg.length ix g)
  (hi : PI X target iter wi) (hg : ∀ C fp s H, PG (aO X scope (tg ++ cs) y C fp s H) target g) (hc : ∀ C fp s H, PTs (aO X scope (tg ++ cs) y C fp s H) ifs tc) (he : ∀ C fp s H, PE (aO X scope (tg ++ cs) y C fp s H) elt te)
  (hs : ∀ x, foldedSetIterable iter X.env x = pure x := by intro _; rfl) : PE X (.ListComp elt [⟨target, iter, ifs, 0⟩] scope pos) (dU wi tg.length ix g tc te) := by
 intro pins s σ H Q I h
 rw [eval_ListComp]
 refine iU S hcalm kg hi hg hc he hs I h fun D C H' s' v I' q fp z => ?_
 obtain ⟨f0, c1, _, c3, c4, c5⟩ := fp
 obtain ⟨m, hm⟩ := z
 exact ⟨m, hm, fun h' sb => ⟨.ref D, H', I'.turned (t' := s'.toks) (fun b o hb e => (sb.2 b hb).trans e) f0 c1 c3 c4 c5, rfl, q⟩⟩
end
end L2
end
section
namespace L2
open PySem PySem.Spec PyProof.Rows
section
variable {X : Cx} {pins : List (Addr × Obj)} {σ : St} {H H1 : Hp} {s : Shared}
theorem pR {yc : Str} {elt target iter : Expr} {ifs : List Expr} {scope : Scope} {pos spos py : Pos} {yy : Str} {ii : Nat} {tg cs : List Str} {wi : TI} {g : TG} {tc : TT} {te : TE} (hN0 : X.N.Nodup) (hi0 : X.N[ii]? = some yy) (hx0 : Loc X.env.scope yy)
  (S : bV X scope yc tg cs ix) (hcalm : X.calm = true) (kg : bO tg.length ix g)
  (hi : PI X target iter wi) (hg : ∀ C fp s H, PG (aO X scope (tg ++ cs) yc C fp s H) target g) (hc : ∀ C fp s H, PTs (aO X scope (tg ++ cs) yc C fp s H) ifs tc) (he : ∀ C fp s H, PE (aO X scope (tg ++ cs) yc C fp s H) elt te)
  (hf0 : X.fn yy = true \/ X.env.scope.names.lookup yy = some .local)
  (hsw : swapsWith (.ListComp elt [⟨target, iter, ifs, 0⟩] scope pos) (some (.Name yy py)) spos.line X.env = pure true)
  (hs : ∀ x, foldedSetIterable iter X.env x = pure x := by intro _; rfl) : PS X (.Assign [.Name yy py] (.ListComp elt [⟨target, iter, ifs, 0⟩] scope pos) spos) (dk (dU wi tg.length ix g tc te) (bq ii)) := by
 intro pins s σ H Dn I h
 rw [exec_Assign_Name_used _ _ _ _ hsw]
 refine wpAny_bind (wpAny_standAt (wpAny_bind ?_))
 show wpAny _ X.A (do let _ <- comprehension (.ListComp elt [⟨target, iter, ifs, 0⟩] scope pos) scope X.env _ (newList []) false (eval iter X.env) (some (assign (.Name yy py) X.env))) _ _ s
 refine wpAny_bind (wpAny_mono (iU (use := some (assign (.Name yy py) X.env)) (Qc := fun _ s' => SP X pins Dn .next s') S hcalm kg hi hg hc he hs I h fun D C H' s' v I' q fp z => ?_) (fun _ s' hq => wpAny_pure (wpAny_pure hq)) fun _ _ e => e)
 obtain ⟨f0, c1, _, c3, c4, c5⟩ := fp
 obtain ⟨m, hm⟩ := z
 show wpAny _ X.A (assign (.Name yy py) X.env (.ref D)) _ _ s'
 refine wpAny_assign_Name (eI (v := .ref D) I' hN0 hi0 hx0 rfl (fun s'' I'' zq => ?_) hf0)
 obtain ⟨a, sb, ha⟩ := zq
 have hCa : C ≠ a := by
  rcases ha with rfl | ha
  ·exact c1
  ·exact (c4 _ _ ha).symm
 exact ⟨m, hm.sameBut sb hCa, fun h' sb' => ⟨_, _, I''.turned (t' := s''.toks) (it := C) (fun b o hb e => (sb'.2 b hb).trans e) f0 c1 c3 c4 c5, q⟩⟩
end
def kD (scope osc : Scope) (N : List Str) (y : Str) (tg cs : List Str) (ix : List Nat) (k : Nat) : Prop :=
 scope.names[k]? = some (y, .cell) /\ (∀ z ∈ scope.names.take k, z.2 ≠ .cell) /\ (∀ z ∈ scope.names.drop (k + 1), z.2 ≠ .cell) /\ scope.names.lookup y = some .cell /\ (∀ z ∈ scope.names, z.2 = .local -> scope.names.lookup z.1 = some .local) /\ (tg ++ cs).Nodup /\ ix.map (fun i => N[i]?) = cs.map some /\
 (∀ x ∈ cs, (x, NameKind.free) ∈ scope.names /\ scope.names.lookup x = some .free) /\ (y, NameKind.free) ∉ scope.names /\ ∀ z ∈ scope.names, z.2 = .free -> osc.names.lookup z.1 = some .cell \/ osc.names.lookup z.1 = some .free
instance (scope osc : Scope) (N : List Str) (y : Str) (tg cs : List Str) (ix : List Nat) (k : Nat) : Decidable (kD scope osc N y tg cs ix k) := by unfold kD; infer_instance
theorem gz {X : Cx} {scope : Scope} {y : Str} {tg cs : List Str} (osc : Scope) (N : List Str) (k : Nat) (h : kD scope osc N y tg cs ix k) (hk : scope.kind = .function := by rfl) (ho : X.env.scope = osc := by rfl) (hN : X.N = N := by rfl) : bV X scope y tg cs ix := by
 obtain ⟨a1, a2, a3, h1, h2, h3, h4, h5, h6, h7⟩ := h
 have hlt := (List.getElem?_eq_some_iff.mp a1).1
 refine ⟨hk, ⟨scope.names.take k, scope.names.drop (k + 1), ?_, a2, a3⟩, h1, h2, h3, by rw [hN]; exact h4, h5, h6, fun x hx => by rw [ho]; exact h7 (x, .free) hx rfl⟩
 have e : scope.names[k] = (y, .cell) := (List.getElem?_eq_some_iff.mp a1).2
 rw [<- e, <- List.drop_eq_getElem_cons hlt, List.take_append_drop]
theorem fO {X : Cx} {env : Env} {scope : Scope} {tg cs : List Str} (osc : Scope) (N : List Str) (h : j3 scope osc N tg cs ix) (ho : X.env.scope = relabel osc env := by rfl) (hk : scope.kind = .function := by rfl) (hN : X.N = N := by rfl) : aV X scope tg cs ix := by
 obtain ⟨h1, h2, h3, h4, h5, h6⟩ := h
 refine ⟨hk, h1, h2, h3, by rw [hN]; exact h4, h5, fun x hx => ?_⟩
 rw [ho]
 rcases h6 (x, .free) hx rfl with e | e
 ·refine .inl ?_
  show (osc.names.map fun (n, k) => if (k == NameKind.free && env.scope.kind == .function && env.kindOf n == some .cell) then (n, NameKind.cell) else (n, k)).lookup x = _
  rw [cK]
  have e : osc.names.lookup x = some .cell := e
  rw [e]
  rfl
 ·exact bN e
end L2
namespace VL
open PySem L2 PySem.W
section
variable {K : PySem.W.Frag} {X : Cx} {e a b c tg elt iter : Expr} {te : TE} {va : VT} {pos : Pos}
theorem sW {yc : Str} {ifs : List Expr} {scope : Scope} {tg cs : List Str} {target : Expr} {wi : TI} {vi : VTN} {g : TG} {vg : VG} {tc : TT} {vt : VTT} {te : TE} {ve : VT} (Sc : bV X scope yc tg cs ix) (hcalm : X.calm = true) (kg : bO tg.length ix g) (hnd : ix.Nodup)
  (hi : VI K X target iter wi vi) (hg : ∀ C fp s H, VGe K (aO X scope (tg ++ cs) yc C fp s H) target g vg) (hc : ∀ C fp s H, VTs K (aO X scope (tg ++ cs) yc C fp s H) ifs tc vt) (he : ∀ C fp s H, VE K (aO X scope (tg ++ cs) yc C fp s H) true elt te ve)
  (hs : ∀ x, foldedSetIterable iter X.env x = pure x := by intro _; rfl) : VN K X (.ListComp elt [⟨target, iter, ifs, 0⟩] scope pos) (dU wi tg.length ix g tc te) (jy vi tg.length ix vg vt ve) := by
 have sg : SndG K g vg := (hg 0 [] X.s₀ (fun _ => none)).snd
 have sc : SndT K tc vt := (hc 0 [] X.s₀ (fun _ => none)).snd
 have se : SndE K true te ve := (he 0 [] X.s₀ (fun _ => none)).snd
 refine ⟨sV Sc hcalm kg hi.pi (fun C fp s H => (hg C fp s H).pg) (fun C fp s H => (hc C fp s H).pe) (fun C fp s H => (he C fp s H).pe) hs, fun H0 Z σ H S Q C k t hq => ?_⟩
 refine hi.snd H0 Z σ H S _ _ k t fun J ds H1 S1 k1 st1 gd zr1 => ?_
 obtain ⟨hl, Iv, i0, hs, hd⟩ := zr1
 refine ⟨fun i m ys H => m = ds.length - i /\ i <= ds.length /\ ys.length <= i /\ ∃ S2 zs, OK K H0 Z σ H S2 /\ Step Z σ S1 H1 σ S2 H /\ Reps K (NM Z σ S2) (Fr H0) H ys zs /\ Iv i zs S2, ⟨ds.length, by simp, Nat.zero_le _, Nat.le_refl _, S1, [], k1, .refl, .nil, i0⟩, ?_⟩
 rintro i m ys H2 ⟨rfl, hi, hy, S2, zs, k2, st2, rz, p⟩
 obtain ⟨g1, g2, g3⟩ := gd σ S2 H2 (fun _ => k2.nm) st2 i
 have hsz : (1000000 : Nat) < sizeLine := by rw [sizeLine_eq]; lia
 by_cases hlt : i < ds.length
 ·refine .inr ⟨g1 hlt, by lia, fun ys' H' => ys'.length <= i + 1 /\ ∃ S' zs', OK K H0 Z σ H' S' /\ Step Z σ S1 H1 σ S' H' /\ Reps K (NM Z σ S') (Fr H0) H' ys' zs' /\ Iv (i + 1) zs' S', fun ys' H' zt1 => by obtain ⟨p1, p2⟩ := zt1; exact ⟨ds.length - (i + 1), by lia, rfl, hlt, p1, p2⟩, fun x H3 y => ?_⟩
  obtain ⟨hgr, d, hd', rd⟩ := g2 x H3 y hlt
  replace k2 := k2.grow hgr
  replace st2 := st2.trans (.grow hgr)
  replace rz := rz.step (.grow hgr)
  have kc := k2.capt (n := tg.length) hnd
  have rd' : Rep K (NM (Zin Z ix σ S2) (L2.capt tg.length ix σ) (aZ tg.length ix S2)) AnyF H3 x d := rd.mono (fun a n _ => ⟨fun z => n (ei.mp z), rfl⟩) fun _ x => x
  -- the target leaves what the block took over
  have h1 := sg H0 _ _ H3 _ x d _ (fun σ4 H4 => ∃ S4, OK K H0 (Zin Z ix σ S2) σ4 H4 S4 /\ Step (Zin Z ix σ S2) (L2.capt tg.length ix σ) (aZ tg.length ix S2) H3 σ4 S4 H4 /\ vt S4 fun b S5 => if b = true then ve S5 fun r S6 => ∃ x, r = .d x /\ Iv (i + 1) (zs ++ [x]) (backS tg.length ix S2 S6) else Iv (i + 1) zs (backS tg.length ix S2 S5)) kc rd' (hs i d zs S2 hd' p) (fun σ4 H4 S4 k4 st4 q4 => ⟨S4, k4, st4, q4⟩)
  have h2 := kg x σ H3 _ h1
  refine (hg 0 [] X.s₀ (fun _ => none)).mono _ _ _ _ _ ?_ h2
  rintro σ4 H4 ⟨⟨hl4, hσ4⟩, S4, k4, st4, q4⟩
  refine sc H0 _ σ4 H4 S4 _ _ k4 q4 fun bb H5 S5 k5 st5 q5 => ?_
  cases bb with
  | false =>
   rw [if_neg Bool.false_ne_true] at q5 ⊢
   obtain ⟨kb, sb, nb⟩ := k2.back k5 (st4.trans st5) hσ4
   exact ⟨by lia, _, zs, kb, st2.trans sb, rz.step sb, q5⟩
  | true =>
   rw [if_pos rfl] at q5 ⊢
   refine se H0 _ σ4 H5 S5 _ _ k5 q5 fun vv H6 r S6 k6 st6 rr zr1 => ?_
   obtain ⟨xx, er, q6⟩ := zr1
   subst er
   obtain ⟨kb, sb, nb⟩ := k2.back k6 ((st4.trans st5).trans st6) hσ4
   refine ⟨by simp; lia, _, zs ++ [xx], kb, st2.trans sb, Reps.append (rz.step sb) (.cons (Rep.mono (fun a n _ => ⟨nb a n, rfl⟩) (fun _ x => x rfl) rr) .nil), q6⟩
 ·have e : i = ds.length := by lia
  refine .inl ⟨g3 e, by lia, fun l hp => ?_⟩
  exact hq l ys zs H2 _ S2 k2 (st1.trans st2) hp (ba hp) aD (cC hp (rz.mono (fun _ n _ => ⟨n, rfl⟩) fun _ x _ => x)) (hd zs S2 (by rw [<- e]; exact p))
theorem jH {yc : Str} {elt iter : Expr} {pos spos py : Pos} {yy : Str} {ii : Nat} {ifs : List Expr} {scope : Scope} {tg cs : List Str} {target : Expr} {wi : TI} {vi : VTN} {g : TG} {vg : VG} {tc : TT} {vt : VTT} {te : TE} {ve : VT} (hN0 : X.N.Nodup) (hi0 : X.N[ii]? = some yy) (hx0 : Loc X.env.scope yy) (hf0 : X.fn yy = true \/ X.env.scope.names.lookup yy = some .local)
  (Sc : bV X scope yc tg cs ix) (hcalm : X.calm = true) (kg : bO tg.length ix g) (hnd : ix.Nodup)
  (hi : VI K X target iter wi vi) (hg : ∀ C fp s H, VGe K (aO X scope (tg ++ cs) yc C fp s H) target g vg) (hc : ∀ C fp s H, VTs K (aO X scope (tg ++ cs) yc C fp s H) ifs tc vt) (he : ∀ C fp s H, VE K (aO X scope (tg ++ cs) yc C fp s H) true elt te ve)
  (hsw : swapsWith (.ListComp elt [⟨target, iter, ifs, 0⟩] scope pos) (some (.Name yy py)) spos.line X.env = pure true := by rfl) (hs : ∀ x, foldedSetIterable iter X.env x = pure x := by intro _; rfl) : VS K X (.Assign [.Name yy py] (.ListComp elt [⟨target, iter, ifs, 0⟩] scope pos) spos) (dk (dU wi tg.length ix g tc te) (bq ii)) (mH (uo (jy vi tg.length ix vg vt ve)) (vgN ii)) := by
 have h := sW (pos := pos) Sc hcalm kg hnd hi hg hc he hs
 refine ⟨pR hN0 hi0 hx0 Sc hcalm kg hi.pi (fun C fp s H => (hg C fp s H).pg) (fun C fp s H => (hc C fp s H).pe) (fun C fp s H => (he C fp s H).pe) hf0 hsw hs, j5 (aT (m := false) h).snd fun H0 Z σ H S v d Q C k r zt1 hc => by obtain ⟨hi, q⟩ := zt1; exact hc _ _ _ (k.setVal hi r).1 (k.setVal hi r).2 q⟩
end
end VL
end
section
namespace VL
open PySem L2 PySem.W
def sO (σ : St) (j : Nat) : Option L2.V -> St
 | none => σ
 | some x => σ.set j (some x)
section
variable {K : PySem.W.Frag} {X : Cx} {tg e tg2 e2 c c2 : Expr} {a a2 : List Stmt} {wi wi2 : TI} {vi vi2 : VTN} {tc tc2 : TT} {vt vt2 : VTT} {ta ta2 : TS} {pos ipos pos2 ipos2 : Pos} {j k : Nat} {S : List Sl}
theorem OK.noO {H0 H : Hp} (kk : OK K H0 Z σ H S) (hj : j < S.length) : ∀ ox, OK K H0 Z (sO σ j ox) H (S.set j .no) /\ Step Z σ S H (sO σ j ox) (S.set j .no) H
 | none => kk.wk (nY hj)
 | some _ => kk.setNo hj
theorem pS {H0 H : Hp} (il : Idle S) (hj : j < S.length) (kl : OK K H0 Z σ H S) (hi : VI K X tg e wi vi) (ht : VTe K X c tc vt) {E : Ends}
  (zq : vi S fun ds S1 => S1 = S /\ ∀ d ∈ ds, vt (S.set j (.val d)) fun b _ => b = false)
  (f : ∀ ox H', (∀ b, H b ≠ none -> H' b = H b) -> E.nx (sO σ j ox) H') : oT wi (bq j) (gW (kM tc ta d8) d8) E σ H := by
 refine hi.snd H0 Z σ H S _ _ kl zq fun J ds H1 S1 k1 st1 gd zq1 => ?_
 obtain ⟨e1, hv⟩ := zq1
 subst e1
 have g1 := il.grow st1
 have jn : Idle (S1.set j .no) := il.set rfl
 refine ⟨fun n m σ' H' => m = ds.length - n /\ n <= ds.length /\ (∀ b, H1 b ≠ none -> H' b = H1 b) /\ ∃ ox, σ' = sO σ j ox, ⟨_, rfl, Nat.zero_le _, fun _ _ => rfl, none, rfl⟩, ?_⟩
 rintro n m σ' H' ⟨rfl, hle, gr, ox, rfl⟩
 have gH : ∀ b, H b ≠ none -> H' b = H b := fun b z => (gr b (by rw [g1 b z]; exact z)).trans (g1 b z)
 obtain ⟨y1, y2, y3⟩ := gd (sO σ j ox) (S1.set j .no) H' (fun p hp => fun z => by
  have z := jn.mo.mp z
  have e := k1.zl p z
  rw [gr p e.ne] at hp
  exact e.ne hp) (jn.step gr) n
 by_cases hlt : n < ds.length
 ·refine .inr ⟨y1 hlt, fun σ2 H2 => n + 1 <= ds.length /\ (∀ b, H1 b ≠ none -> H2 b = H1 b) /\ ∃ ox, σ2 = sO σ j ox, fun σ2 H2 w => ⟨ds.length - (n + 1), by lia, rfl, w.1, w.2.1, w.2.2⟩, ?_⟩
  intro x H3 hy
  obtain ⟨g3, d, hd, rd⟩ := y2 x H3 hy hlt
  have e2 : (sO σ j ox).set j (some x) = σ.set j (some x) := by cases ox <;> simp only [sO]; rw [List.set_set]
  have g13 : ∀ b, H1 b ≠ none -> H3 b = H1 b := fun b z => (g3 b (by rw [gr b z]; exact z)).trans (gr b z)
  have rd' : Rep K (NM Z σ S1) AnyF H3 x d := rd.mono (fun b m _ => ⟨fun z => m (.inr (il.mo.mp z)), rfl⟩) fun _ y => y
  obtain ⟨k3, _⟩ := (k1.grow g13).setVal (i := j) hj rd'
  show kM tc ta d8 _ ((sO σ j ox).set j (some x)) H3
  rw [e2]
  refine ht.snd H0 _ _ H3 _ _ _ k3 (hv d (List.mem_of_getElem? hd)) fun b H4 S4 k4 st4 hb => ?_
  have hb : b = false := hb
  subst hb
  exact ⟨hlt, fun b z => ((il.set (s := .val d) rfl).grow st4 b (by rw [g13 b z]; exact z)).trans (g13 b z), some x, rfl⟩
 ·have en : n = ds.length := by lia
  exact .inl ⟨y3 en, f ox H' gH⟩
def Am (j k : Nat) (vi : VTN) (vt : VTT) (vi2 : VTN) (vt2 : VTT) : VTS := fun V S => j < S.length /\ k < S.length /\ j ≠ k /\ vi (lend S) fun ds S1 => S1 = lend S /\
 (∀ d ∈ ds, (vt (((lend S).set k .no).set j (.val d)) fun b _ => b = false) /\ vi2 (((lend S).set k .no).set j (.val d)) fun ds2 S2 => S2 = ((lend S).set k .no).set j (.val d) /\ ∀ d2 ∈ ds2, vt2 ((((lend S).set k .no).set j (.val d)).set k (.val d2)) fun b _ => b = false) /\ V.nx ((S.set j .no).set k .no)
theorem sX (hp : PassesOwn (model X.prog X.w) X.A X.env X.xe) (hc : X.calm = true) (hi : VI K X tg e wi vi) (hg : PG X tg (bq j)) (ht : VTe K X c tc vt) (ha : PSs X a ta)
  (hi2 : VI K X tg2 e2 wi2 vi2) (hg2 : PG X tg2 (bq k)) (ht2 : VTe K X c2 tc2 vt2) (ha2 : PSs X a2 ta2) (hs : ∀ x, foldedSetIterable e X.env x = pure x := by intro _; rfl) (hs2 : ∀ x, foldedSetIterable e2 X.env x = pure x := by intro _; rfl) :
  VS K X (.For tg e [.If c a [] ipos, .For tg2 e2 [.If c2 a2 [] ipos2] [] pos2] [] pos) (oT wi (bq j) (gW (kM tc ta d8) (gW (oT wi2 (bq k) (gW (kM tc2 ta2 d8) d8)) d8))) (Am j k vi vt vi2 vt2) :=
 ⟨jN hp hc hi.pi hg (cA (m4 ht.pe ha eJ) (cA (jN hp hc hi2.pi hg2 (cA (m4 ht2.pe ha2 eJ) eJ) hs2) eJ)) hs, fun H0 Z σ H S V E kk zq l => by
  obtain ⟨hj, hk, hjk, zq⟩ := zq
  have il := jF S
  have kl := (kk.wk (cM S)).1
  have hjl : j < (lend S).length := by unfold lend; rw [List.length_map]; exact hj
  have hkl : k < (lend S).length := by unfold lend; rw [List.length_map]; exact hk
  refine hi.snd H0 Z σ H (lend S) _ _ kl zq fun J ds H1 S1 k1 st1 gd zq1 => ?_
  obtain ⟨e1, hv, hn⟩ := zq1
  subst e1
  have g1 := il.grow st1
  have kn : Idle ((lend S).set k .no) := il.set rfl
  have jn : Idle (((lend S).set k .no).set j .no) := kn.set rfl
  have fin : ∀ ox oy H', (∀ b, H b ≠ none -> H' b = H b) -> E.nx (sO (sO σ j ox) k oy) H' := fun ox oy H' g => by
   obtain ⟨k2, st2⟩ := (kk.grow g).noO hj ox
   obtain ⟨k3, st3⟩ := k2.noO (j := k) (by rw [List.length_set]; exact hk) oy
   exact l.nx _ _ _ k3 (((Step.grow g).trans st2).trans st3) hn
  refine ⟨fun n m σ' H' => m = ds.length - n /\ n <= ds.length /\ (∀ b, H1 b ≠ none -> H' b = H1 b) /\ ∃ ox oy, σ' = sO (sO σ j ox) k oy, ⟨_, rfl, Nat.zero_le _, fun _ _ => rfl, none, none, rfl⟩, ?_⟩
  rintro n m σ' H' ⟨rfl, hle, gr, ox, oy, rfl⟩
  have gH : ∀ b, H b ≠ none -> H' b = H b := fun b z => (gr b (by rw [g1 b z]; exact z)).trans (g1 b z)
  obtain ⟨y1, y2, y3⟩ := gd (sO (sO σ j ox) k oy) (((lend S).set k .no).set j .no) H' (fun p hp => fun z => by
   have z := jn.mo.mp z
   have e := k1.zl p z
   rw [gr p e.ne] at hp
   exact e.ne hp) (jn.step gr) n
  by_cases hlt : n < ds.length
  ·refine .inr ⟨y1 hlt, fun σ2 H2 => n + 1 <= ds.length /\ (∀ b, H1 b ≠ none -> H2 b = H1 b) /\ ∃ ox oy, σ2 = sO (sO σ j ox) k oy, fun σ2 H2 w => ⟨ds.length - (n + 1), by lia, rfl, w.1, w.2.1, w.2.2⟩, ?_⟩
   intro x H3 hy
   obtain ⟨g3, d, hd, rd⟩ := y2 x H3 hy hlt
   have g13 : ∀ b, H1 b ≠ none -> H3 b = H1 b := fun b z => (g3 b (by rw [gr b z]; exact z)).trans (gr b z)
   obtain ⟨q1, q2⟩ := hv d (List.mem_of_getElem? hd)
   obtain ⟨kA, _⟩ := (k1.grow g13).noO hkl oy
   have rd' : Rep K (NM Z (sO σ k oy) ((lend S).set k .no)) AnyF H3 x d := rd.mono (fun b m _ => ⟨fun z => m (.inr (kn.mo.mp z)), rfl⟩) fun _ y => y
   obtain ⟨k3, _⟩ := kA.setVal (i := j) (by rw [List.length_set]; exact hjl) rd'
   have e3 : (sO (sO σ j ox) k oy).set j (some x) = (sO σ k oy).set j (some x) := by
    cases ox <;> cases oy <;> simp only [sO]
    ·rw [List.set_set]
    ·rw [List.set_comm _ _ hjk, List.set_set]
   show kM tc ta d8 _ ((sO (sO σ j ox) k oy).set j (some x)) H3
   rw [e3]
   have i3 : Idle (((lend S).set k .no).set j (.val d)) := kn.set rfl
   refine ht.snd H0 _ _ H3 _ _ _ k3 q1 fun b H4 S4 k4 st4 hb => ?_
   have hb : b = false := hb
   subst hb
   have g34 := i3.grow st4
   refine pS (S := ((lend S).set k .no).set j (.val d)) i3 (by rw [List.length_set, List.length_set]; exact hkl) (k3.grow g34) hi2 ht2 q2 fun oz H5 g5 => ?_
   refine ⟨hlt, fun b z => (g5 b (by rw [g34 b (by rw [g13 b z]; exact z), g13 b z]; exact z)).trans ((g34 b (by rw [g13 b z]; exact z)).trans (g13 b z)), ?_⟩
   cases oz with
   | none =>
    refine ⟨some x, oy, ?_⟩
    cases oy <;> simp only [sO]
    rw [List.set_comm _ _ hjk.symm]
   | some z =>
    refine ⟨some x, some z, ?_⟩
    cases oy <;> simp only [sO]
    rw [List.set_comm _ _ hjk.symm, List.set_set]
  ·have en : n = ds.length := by lia
   exact .inl ⟨y3 en, fin ox oy H' gH⟩⟩
end
end VL
end
section
namespace L2
open PySem PySem.Spec PyProof.Rows
section
variable {X : Cx}
theorem lV (c : Nat) : ∀ (n : Nat) (a : Array Nat), (List.replicate n #[c]).foldl (· ++ ·) a = (a.toList ++ List.replicate n c).toArray
 | 0, a => by simp
 | n + 1, a => by
  rw [List.replicate_succ, List.foldl_cons, lV c n, List.replicate_succ]
  simp
def xy : R2 := fun x y H Q => ∃ (c k : Nat), x = .str ⟨#[c]⟩ /\ y = .int k /\ k <= 1000000 /\ Q (.str ⟨(List.replicate k c).toArray⟩) H
theorem vO : OpR X (binaryOp .Mult) xy := by
 rintro pins s σ H x y v u Q I rx ry ⟨c, k, e1, e2, hl, q⟩
 by_cases hk : 1 < k
 ·refine vN pins s σ H x y v u Q I rx ry ⟨⟨#[c]⟩, k, e1, e2, hk, rfl, hl, ?_⟩
  have e : repS ⟨#[c]⟩ k = ⟨(List.replicate k c).toArray⟩ := by
   unfold repS
   rw [lV]
   rfl
  rw [e]
  exact q
 subst e1; subst e2
 obtain ⟨t, rfl⟩ := rx
 obtain ⟨t', rfl⟩ := ry
 have hk : k = 0 \/ k = 1 := by omega
 rcases hk with rfl | rfl
 ·refine PySem.P.mul_str (by decide) (fun h _ => absurd (by decide) h) (fun h _ => absurd (by decide) h) ?_
  rw [if_pos (by decide)]
  exact ⟨Nat.zero_le _, ⟨.str Str.empty, H, I.tok _, ⟨_, rfl⟩, q⟩⟩
 ·refine PySem.P.mul_str (by decide) (fun _ h => absurd h (by simp)) (fun _ h => absurd h (by simp)) ?_
  rw [if_neg (by decide), if_pos (by simp)]
  exact ⟨.str ⟨#[c]⟩, H, I, ⟨_, rfl⟩, q⟩
end
end L2
namespace VL
open PySem L2 PySem.W
section
variable {K : PySem.W.Frag}
def sY : D -> D -> (D -> Prop) -> Prop := fun d1 d2 q => ∃ (c k : Nat), d1 = .str ⟨#[c]⟩ /\ d2 = .int k /\ k <= 1000000 /\ q (.str ⟨(List.replicate k c).toArray⟩)
theorem An : bX K xy sY := by
 rintro x y H d1 d2 q Cc r1 r2 ⟨c, k, rfl, rfl, h3, h⟩ hc
 cases r1; cases r2
 exact ⟨c, k, rfl, rfl, h3, hc _ _ h fun _ _ => .str _⟩
theorem Ao {c k : Nat} (h3 : k <= 1000000) (h : q (.str ⟨(List.replicate k c).toArray⟩)) : sY (.str ⟨#[c]⟩) (.int k) q := ⟨c, k, rfl, rfl, h3, h⟩
end
end VL
end
local macro_rules | `(tactic| walk_at "s") => `(tactic| exact ⟨rfl, rfl, rfl, by decide +kernel, rfl, by decide +kernel, by decide +kernel⟩)
theorem My.len1 {α:Type} {l:List α} (h:l.length=1):∃ a0,l=[a0]:=match l,h with|[a0],_=>⟨a0,rfl⟩
local macro_rules | `(tactic| walk_at "1") => `(tactic| exact (fun _ _ _ _ _ _ us hl => by obtain ⟨_,e⟩ := My.len1 hl; subst e; exact rfl))
theorem My.len2 {α:Type} {l:List α} (h:l.length=2):∃ a0 a1,l=[a0,a1]:=match l,h with|[a0,a1],_=>⟨a0,a1,rfl⟩
local macro_rules | `(tactic| walk_at "2") => `(tactic| exact (fun _ _ _ _ _ _ us hl => by obtain ⟨_,_,e⟩ := My.len2 hl; subst e; exact rfl))
local macro_rules | `(tactic| walk_at "rd1") => `(tactic| first
 | with_reducible refine VL.CM ?_
 | with_reducible refine VL.vI ?_
 | with_reducible refine VL.CI ?_
 | with_reducible refine VL.vo ?_
 | with_reducible refine VL.vz ?_
 | with_reducible refine VL.Aj ?_
 | with_reducible refine VL.Ak ?_
 | with_reducible refine VL.CO ?_
 | with_reducible refine VL.vJ ?_
 | with_reducible refine VL.Ae ?_
 | with_reducible refine VL.vD ?_
 | with_reducible refine VL.Af ?_
 | with_reducible refine VL.sM ?_
 | with_reducible refine VL.CJ ?_
 | with_reducible refine VL.DE ?_
 | with_reducible refine VL.CK ?_
 | with_reducible refine VL.CL ?_
 | with_reducible refine VL.Ag ?_
 | ((with_reducible refine' VL.Bp ?h ?_); (case h => exact rfl))
 | with_reducible refine VL.u5 ?_
 | with_reducible refine VL.zM ?_
 | with_reducible refine VL.zN ?_
 | ((with_reducible refine' VL.zO ?h ?_); (case h => exact rfl))
 | with_reducible refine VL.u7 ?_
 | with_reducible refine VL.zQ ?_
 | with_reducible refine VL.Cy ?_
 | with_reducible refine VL.zU ?_
 | with_reducible refine VL.j_c ?_
 | with_reducible refine VL.j_2 ?_
 | with_reducible refine VL.Dp ?_
 | ((with_reducible refine' VL.Dq ?h1 ?h2 ?_); (case h1 => exact rfl); (case h2 => exact rfl))
 | with_reducible refine VL.Bq ?_
 | with_reducible refine VL.BW ?_
 | with_reducible refine VL.BX ?_
 | ((with_reducible refine' VL.yR ?h ?_); (case h => first | exact (by decide) | exact .inl ⟨by decide, by decide⟩ | exact .inr ⟨by decide, by decide⟩ | (show (0 : Int) < _; lia) | (show (0 : Int) <= _; lia) | exact ⟨by decide, by decide, by decide⟩ | exact ⟨by lia, by lia, by lia⟩ | exact ⟨by lia, by lia⟩ | exact .inl ⟨by lia, by lia⟩ | exact .inr ⟨by lia, by lia⟩))
 | with_reducible refine VL.yT ?_
 | with_reducible refine VL.uC ?_
 | with_reducible refine VL.Bi ?_
 | with_reducible refine VL.Bk ?_
 | with_reducible refine VL.yL ?_
 | ((with_reducible refine' VL.Dm ?h ?_); (case h => exact rfl); (try dsimp only [List.set_cons_zero, List.set_cons_succ]))
 | with_reducible refine VL.yK ?_
 | with_reducible refine VL.Bn ?_
 | with_reducible refine VL.qV ?_
 | with_reducible refine VL.qW ?_
 | with_reducible refine VL.Bm ?_
 | ((with_reducible refine' VL.qU ?h ?_); (case h => exact rfl))
 | with_reducible refine VL.yO ?_
 | with_reducible refine VL.uA ?_
 | with_reducible refine VL.yP ?_
 | with_reducible refine VL.yQ ?_
 | ((with_reducible refine' VL.uB ?h ?_); (case h => first | exact rfl | simp only [VL.flat, VL.flats, VL.dG, VL.eT, VL.iq, Bool.and_self]))
 | with_reducible refine VL.qY ?_
 | with_reducible refine VL.Dr ?_
 | with_reducible refine VL.Bt ?_
 | ((with_reducible refine' VL.dW ?h1 ?h2 ?h3 ?_); (case h1 => exact rfl); (case h2 => exact rfl); (case h3 => exact rfl))
 | ((with_reducible refine' VL.Bu ?h1 ?h2 ?h3 ?_); (case h1 => exact rfl); (case h2 => exact rfl); (case h3 => first | exact rfl | exact VL.at_0))
 | with_reducible refine VL.By ?_
 | with_reducible refine VL.yY ?_
 | with_reducible refine VL.uF ?_
 | with_reducible refine VL.BB ?_
 | ((with_reducible refine' VL.yZ ?h1 ?h2 ?_); (case h1 => exact rfl); (case h2 => exact rfl))
 | with_reducible refine VL.BD ?_
 | ((with_reducible refine' VL.y8 ?h1 ?h2 ?_); (case h1 => exact rfl); (case h2 => exact rfl))
 | with_reducible refine VL.BF ?_
 | with_reducible refine VL.y9 ?_
 | with_reducible refine VL.Dt ?_
 | ((with_reducible refine' VL.BG ?h ?_); (case h => exact rfl))
 | with_reducible refine VL.za ?_
 | with_reducible refine VL.zd ?_
 | with_reducible refine VL.BH ?_
 | with_reducible refine VL.Du ?_
 | with_reducible refine VL.Dv ?_
 | with_reducible refine VL.BJ ?_
 | ((with_reducible refine' VL.ze ?h ?_); (case h => exact rfl))
 | with_reducible refine VL.BL ?_
 | ((with_reducible refine' VL.zf ?h1 ?h2 ?h3 ?_); (case h1 => exact rfl); (case h2 => exact rfl); (case h3 => exact rfl))
 | with_reducible refine VL.yN ?_
 | ((with_reducible refine' VL.uz ?h ?_); (case h => exact rfl); (try dsimp only [List.set_cons_zero, List.set_cons_succ]))
 | with_reducible refine VL.uH ?_
 | ((with_reducible refine' VL.rq ?h1 ?h2 ?_); (case h1 => exact rfl); (case h2 => exact rfl))
 | ((with_reducible refine' VL.pD ?h1 ?h2 ?h3 ?_); (case h1 => exact rfl); (case h2 => exact rfl); (case h3 => exact rfl); (try dsimp only [List.set_cons_zero, List.set_cons_succ]))
 | ((with_reducible refine' VL.BN ?h ?_); (case h => exact rfl))
 | ((with_reducible refine' VL.Dw ?h ?_); (case h => exact rfl); (try dsimp only [List.set_cons_zero, List.set_cons_succ]))
 | with_reducible refine VL.BO ?_
 | ((with_reducible refine' VL.rp ?h1 ?h2 ?_); (case h1 => exact rfl); (case h2 => first | lia | (simp only [List.length_append, List.length_cons, List.length_nil, List.length_map]; lia) | exact Nat.le_of_ble_eq_true rfl); (try dsimp only [List.set_cons_zero, List.set_cons_succ]))
 | with_reducible refine VL.BR ?_
 | with_reducible refine VL.BS ?_
 | with_reducible refine VL.zg ?_
 | with_reducible refine VL.zh ?_
 | with_reducible refine VL.BV ?_
 | ((with_reducible refine' VL.zi ?h ?_); (case h => exact ⟨by lia, by lia⟩))
 | with_reducible refine VL.zj ?_
 | with_reducible refine VL.zk ?_
 | with_reducible refine VL.pE ?_
 | with_reducible refine VL.rA ?_
 | with_reducible refine VL.Ds ?_
 | with_reducible refine VL.Bw ?_
 | with_reducible refine VL.yU ?_
 | with_reducible refine VL.qZ ?_
 | with_reducible refine VL.yV ?_
 | with_reducible refine VL.yW ?_
 | with_reducible refine VL.yX ?_
 | with_reducible refine VL.uD ?_
 | with_reducible refine VL.Bx ?_
 | with_reducible refine VL.Br ?_
 | ((with_reducible refine' VL.BY ?h1 ?h2 ?_); (case h1 => (intro n z; cases z)); (case h2 => first | exact L2.jV | exact L2.ja | exact L2.isiB_list_list | exact L2.isiB_tuple_tuple | exact L2.isiB_bool_bool | exact L2.isiB_f1 | exact L2.isiB_f2 | exact L2.isiB_f3 | exact L2.isiB_f4 | exact L2.isiB_f5 | exact L2.isiB_f6 | exact L2.isiB_g1 | exact L2.isiB_g2 | exact L2.isiB_g3 | exact L2.isiB_g4 | exact L2.isiB_g5 | exact L2.isiB_g6 | exact L2.isiB_h1 | exact L2.isiB_h2 | exact L2.isiB_h3 | exact L2.isiB_h4 | exact L2.isiB_h5 | exact L2.isiB_h6 | exact L2.isiB_h7))
 | with_reducible refine VL.B2 ?_
 | with_reducible refine VL.yM ?_
 | with_reducible refine VL.uy ?_
 | ((with_reducible refine' VL.Do ?h ?_); (case h => exact rfl); (try simp only [List.map_cons, List.map_nil]))
 | with_reducible refine VL.rj ?_
 | with_reducible refine VL.Cf ?_
 | with_reducible refine VL.Cg ?_
 | with_reducible refine VL.Ci ?_
 | ((with_reducible refine' VL.zr ?h1 ?h2 ?_); (case h1 => exact Nat.le_of_ble_eq_true rfl); (case h2 => exact Nat.le_of_ble_eq_true rfl); (try dsimp only [List.set_cons_zero, List.set_cons_succ]))
 | with_reducible refine VL.DB ?_
 | with_reducible refine VL.zt ?_
 | with_reducible refine VL.zu ?_
 | with_reducible refine VL.zw ?_
 | with_reducible refine VL.rO ?_
 | with_reducible refine VL.Cj ?_
 | with_reducible refine VL.Cm ?_
 | with_reducible refine VL.Co ?_
 | with_reducible refine VL.zA ?_
 | ((with_reducible refine' VL.uU ?h ?_); (case h => exact rfl); (try dsimp only [List.set_cons_zero, List.set_cons_succ]))
 | with_reducible refine VL.uG ?_)
local macro_rules | `(tactic| walk_at "rc1") => `(tactic| first
 | walk_at "rd1"
 | ((with_reducible refine' VL.B3 ?h1 ?h2 ?h3 ?h4 ?h5 ?h6 ?_); (case h1 => exact rfl); (case h2 => exact rfl); (case h3 => exact rfl); (case h4 => exact rfl); (case h5 => exact rfl); (case h6 => exact rfl))
 | ((with_reducible refine' VL.B5 ?h ?_); (case h => exact rfl))
 | ((with_reducible refine' VL.B6 ?h ?_); (case h => exact rfl))
 | ((with_reducible refine' VL.B4 ?h ?_); (case h => exact rfl))
 | ((with_reducible refine' VL.Dy ?h ?_); (case h => exact rfl))
 | ((with_reducible refine' VL.Dz ?h ?_); (case h => exact rfl))
 | ((with_reducible refine' VL.w9 ?h ?_); (case h => exact rfl))
 | ((with_reducible refine' VL.xf ?h ?_); (case h => exact rfl)))
local macro_rules | `(tactic| walk_at "rc") => `(tactic| repeat walk_at "rc1")
local macro_rules | `(tactic| walk_at "rd") => `(tactic| repeat walk_at "rd1")
local macro_rules | `(tactic| walk_at "sl") => `(tactic| simp only [VL.slots, VL.dI, List.map_cons, List.map_nil, List.length_cons, List.length_nil, List.cons_append, List.nil_append, Nat.reduceAdd, Nat.reduceSub, Nat.zero_add, List.replicate_succ, List.replicate_zero])
namespace My
open PySem L2 VL
def top (i : Nat) : Stmt := PySem.Challenge.pw_cellships_k65_picture_texts.main.body.getD i (.Pass ⟨0, 0, 0, 0⟩)
abbrev iV : Stmt := top 1
theorem pT : aK ["thing"] ["thing"] (aj iV) := by walk_at "s"
abbrev kE : Stmt := top 2
theorem sZ : aK ["thing"] ["thing"] (aj kE) := by walk_at "s"
abbrev kF : Stmt := top 3
theorem tf : aK ["thing"] ["thing"] (aj kF) := by walk_at "s"
abbrev cV : Stmt := top 4
theorem lW : aK ["thing"] ["thing"] (aj cV) := by walk_at "s"
abbrev kG : Stmt := top 5
theorem kH : aK ["picture", "move", "dx", "dy"] ["picture", "move"] (aj kG) := by walk_at "s"
abbrev iW : Stmt := top 6
theorem gS : aK ["picture", "columns", "rows", "left", "top"] ["picture"] (aj iW) := by walk_at "s"
abbrev df : Stmt := top 16
theorem dM : aK ["text", "figures", "number"] ["text"] (aj df) := by walk_at "s"
abbrev f9 : Stmt := top 17
theorem iX : aK ["text", "words"] ["text"] (aj f9) := by walk_at "s"
abbrev aU : Stmt := top 18
theorem aE : aK ["picture", "box", "left", "top", "wide", "high", "living", "rows"] ["picture"] (aj aU) := by walk_at "s"
abbrev kI : Stmt := top 19
theorem vP : aK ["wide", "text"] ["wide", "text"] (aj kI) := by walk_at "s"
abbrev cg : Stmt := top 20
theorem bh : aK ["text", "words", "left", "top", "rows", "wide", "high", "cells"] ["text"] (aj cg) := by walk_at "s"
abbrev tm : Stmt := top 22
theorem kJ : aK ["_law_script", "_law_k", "_law_cell"] ["_law_script", "_law_k"] (aj tm) := by walk_at "s"
abbrev mX : Stmt := top 23
theorem fP : aK ["_law_pen_here", "_law_many", "_law_drawn", "_law_number_here"] ["_law_pen_here", "_law_many"] (aj mX) := by walk_at "s"
abbrev iY : Stmt := top 24
theorem jI : aK ["_law_pen_here", "_law_way"] ["_law_pen_here"] (aj iY) := by walk_at "s"
abbrev gc : Stmt := top 25
theorem bz : aK ["_law_pen_here", "_law_wide", "_law_high", "_law_left", "_law_top", "_law_cells", "_law_k", "_law_one"] ["_law_pen_here"] (aj gc) := by walk_at "s"
abbrev gj : Stmt := top 26
theorem cW : aK ["_law_number_here", "_law_left", "_law_text_here"] ["_law_number_here"] (aj gj) := by walk_at "s"
abbrev dN : Stmt := top 27
theorem dO : aK ["_law_live", "_law_left", "_law_top", "_law_wide", "_law_high", "_law_rows", "_law_one"] ["_law_live"] (aj dN) := by walk_at "s"
abbrev gk : Stmt := top 28
theorem dQ : aK ["_law_live", "_law_caught", "e"] ["_law_live"] (aj gk) := by walk_at "s"
abbrev iZ : Stmt := top 29
theorem eR : aK ["_law_text_here", "_law_live", "_law_found", "_law_one", "_law_number_here"] ["_law_text_here", "_law_live"] (aj iZ) := by walk_at "s"
abbrev dh : Stmt := top 30
theorem bG : aK ["_law_pen_here", "_law_wide", "_law_high", "_law_left", "_law_text_here", "_law_found", "_law_due"] ["_law_pen_here"] (aj dh) := by walk_at "s"
abbrev Ap : Stmt := top 31
theorem i5 : aK ["_law_script", "_law_k", "_law_live", "_law_due", "_law_handed", "_law_found", "_law_far"] ["_law_script"] (aj Ap) := by walk_at "s"
def ow : Stmt -> Scope
 | .Assign _ (.ListComp _ _ sc _) _ => sc
 | s => aj s
structure Txt (mg : Str -> Option Value) : Prop where
 len_ : mg "len" = none
 range : mg "range" = none
 abs_ : mg "abs" = none
 isinstance_ : mg "isinstance" = none
 int_ : mg "int" = none
 bool_ : mg "bool" = none
 list_ : mg "list" = none
 tuple_ : mg "tuple" = none
 sorted_ : mg "sorted" = none
 max_ : mg "max" = none
 min_ : mg "min" = none
 all_ : mg "all" = none
 any_ : mg "any" = none
 set_ : mg "set" = none
 sum_ : mg "sum" = none
 str_ : mg "str" = none
 dict_ : mg "dict" = none
 zip_ : mg "zip" = none
 enumerate_ : mg "enumerate" = none
def Pn (b : Nat) (pn : List Int) : Prop := ∃ x y c : Int, pn = [x, y, c] /\ 0 <= c /\ c <= b
theorem Pn.le {b b' : Nat} {pn : List Int} (h : Pn b pn) (e : b <= b') : Pn b' pn := let ⟨x, y, c, h1, h2, h3⟩ := h; ⟨x, y, c, h1, h2, by lia⟩
def CS : List D -> (D -> Prop) -> Prop := fun ds R => ∃ (ns : List Int) (k : Nat), ds = [.lst (ns.map .int), .int k] /\ k <= 1000 /\ ∀ x y : Int, R (.lst ([x, y, 0].map .int))
def vQ : List D -> (D -> Prop) -> Prop := fun ds R => ∃ ns : List Int, ds = [.lst (ns.map .int)] /\ ns.length <= 63 /\ R (.bl true)
def oA : List Int -> List D -> (D -> List Int -> Prop) -> Prop := fun pn ds R => ∃ (b : Nat) (m : Int), ds = [.int m] /\ Pn b pn /\ b <= 1000000 /\ 0 < m /\ m < 10000000000000000000000000000000 /\ ∀ (pn' : List Int) (r : Int), Pn (b + 1) pn' -> 0 <= r -> r < m -> R (.int r) pn'
theorem lX {j : Nat} (h : j < ns.length) : atI (ns.map D.int) (j : Int) = some (.int (ns[j])) := by
 exact jQ (by simp [h])
section
variable {P : Program} {w : World} {K : PySem.W.Frag} {mg : Str -> Option Value} {base : Heap}
theorem Aq (S : Src K mg "_law_pen" tm) (T : Txt mg) : Has P w K mg base 1 "_law_pen" ["_law_script", "_law_k"] (spP K CS) := by
 refine cF S kJ (by walk_at "2") (fun ds R zq1 => by obtain ⟨_, _, e, _⟩ := zq1; rw [e]; rfl) fun f cdv A outer s H E hr => ⟨_, _, (ai (aA (i := 2) kJ.nd rfl (Or.inl rfl) (aq aW aC (aq dm bI ah (aa 1 (pv 1))) ah))
  (ai (bw (aJ kN aC (aa 1 (pv 1)) (ay (gx (K := K) rfl) gv (by rfl) T.len_ cR (ae (aa 0 (pv 0)) af)) (aF _)) (ao (aA (i := 2) kJ.nd rfl (Or.inl rfl) (bj rfl (aa 0 (pv 0)) (aa 1 (pv 1)) (fun _ _ => rfl)))) (ao (bw (aJ d9 aC (ay (gx (K := K) rfl) gv (by rfl) T.len_ cR (ae (aa 0 (pv 0)) af)) ah (aF _)) (ao (aA (i := 2) kJ.nd rfl (Or.inl rfl) (aq aW aC (aq cP bI (bj rfl (aa 0 (pv 0)) (aq cP bI (aa 1 (pv 1)) (ay (gx (K := K) rfl) gv (by rfl) T.len_ cR (ae (aa 0 (pv 0)) af))) (fun _ _ => rfl)) ah) (aq dm bI ah (aa 1 (pv 1)))))) aN)))
  (ai (bw (aJ AS aC (aa 2 (pv 2)) (aq cG bI ah ah) (aF _)) (ao (aH (aT (cf (ae (aq bK aC (aa 2 (pv 2)) (aq cG bI ah ah)) (ae (aq cP bI (aa 2 (pv 2)) ah) (ae ah af))))))) aN)
  (ao (aH (aT (cf (ae ah (ae (aq cP bI (aa 2 (pv 2)) ah) (ae ah af)))))))))), ?_⟩
 rintro ds R ⟨ns, k, rfl, hk, q⟩
 have fin : ∀ (x y : Int), R (.lst [.int x, .int y, .int 0]) := fun x y => q x y
 walk_at "sl"
 walk_at "rd"
 rw [List.length_map]
 refine eu (fun h1 => ?_) (fun h1 => ?_)
 ·have h1' : k < ns.length := by lia
  walk_at "rd"
  refine dW rfl rfl (lX h1') ?_
  walk_at "rd"
  refine eu (fun h1 => ?_) (fun h1 => ?_)
  all_goals (walk_at "rd"; exact fin _ _)
 ·walk_at "rd"
  rw [List.length_map]
  refine eu (fun h2 => ?_) (fun h2 => ?_)
  ·walk_at "rd"
   rw [List.length_map]
   have h2' : 0 < ns.length := by lia
   have e : ((k : Int) % (ns.length : Int)) = ((k % ns.length : Nat) : Int) := by lia
   refine yR (by show (0 : Int) < _; lia) ?_
   dsimp only [ofV]
   rw [e]
   refine dW rfl rfl (lX (Nat.mod_lt _ h2')) ?_
   walk_at "rd"
   refine eu (fun h1 => ?_) (fun h1 => ?_)
   all_goals (walk_at "rd"; exact fin _ _)
  ·walk_at "rd"
   refine eu (fun h1 => ?_) (fun h1 => ?_)
   all_goals (walk_at "rd"; exact fin _ _)
theorem vR (S : Src K mg "_law_draw" mX) (T : Txt mg) : Has P w K mg base 1 "_law_draw" ["_law_pen_here", "_law_many"] (spI K 0 oA) := by
 refine nH 0 S fP (by walk_at "2") (fun ns ds R zq1 => by obtain ⟨_, _, e, _⟩ := zq1; rw [e]; rfl) fun f cdv A outer s H E hr => ⟨_, _, (ai (ly 0 (pv 0) (aq aW aC (bj rfl (aa 0 (pv 0)) ah (fun _ _ => rfl)) ah) ah)
  (ai (bw (aJ d9 aC (bj rfl (aa 0 (pv 0)) ah (fun _ _ => rfl)) ah (aF _)) (ai (aA (i := 2) fP.nd rfl (Or.inl rfl) (aq cP bI (bj rfl (aa 0 (pv 0)) ah (fun _ _ => rfl)) (aa 1 (pv 1))))
  (ai (ly 0 (pv 0) (aq sC bI (bj rfl (aa 0 (pv 0)) ah (fun _ _ => rfl)) (aa 1 (pv 1))) ah)
  (ao (aH (bT (aa 2 (pv 2))))))) aN)
  (ai (aA (i := 3) fP.nd rfl (Or.inl rfl) (aq cP bI (aq aW aC (aq aW aC (bj rfl (aa 0 (pv 0)) ah (fun _ _ => rfl)) (aq dm bI ah (bj rfl (aa 0 (pv 0)) ah (fun _ _ => rfl)))) ah) ah))
  (ai (aA (i := 3) fP.nd rfl (Or.inl rfl) (aq aW aC (aq cP bI (aq dm bI (aa 3 (pv 3)) (aa 3 (pv 3))) ah) (aq dm bI ah (bj rfl (aa 0 (pv 0)) ah (fun _ _ => rfl)))))
  (ai (aA (i := 3) fP.nd rfl (Or.inl rfl) (aq cP bI (aq dm bI (aa 3 (pv 3)) (aa 3 (pv 3))) ah))
  (ao (aH (aq cP bI (aq gK bI (aa 3 (pv 3)) ah) (aa 1 (pv 1)))))))))), ?_⟩
 rintro a pn ds es R hl ⟨b, m, e, ⟨x, y, c, rfl, hc0, hc1⟩, hb, hm0, hm1, q⟩
 obtain rfl : ds = [] := List.eq_nil_of_length_eq_zero hl
 obtain rfl : es = [.int m] := e
 walk_at "sl"
 walk_at "rd"
 refine eu (fun h1 => ?_) (fun h1 => ?_)
 ·walk_at "rd"
  try (refine yR ⟨hm0, Int.lt_trans hm1 (by decide)⟩ ?_)
  walk_at "rd"
  exact ⟨_, rfl, q _ _ ⟨_, _, _, rfl, by lia, by lia⟩ (Int.emod_nonneg _ (by lia)) (Int.emod_lt_of_pos _ hm0)⟩
 ·walk_at "rd"
  exact ⟨_, rfl, q _ _ ⟨_, _, _, rfl, by lia, by lia⟩ (Int.emod_nonneg _ (by lia)) (Int.emod_lt_of_pos _ hm0)⟩
end
end My
namespace My
open PySem PySem.NumText VL
theorem bf (x y : Str) : (x ++ y).cps.toList = x.cps.toList ++ y.cps.toList := by
 show (x.cps ++ y.cps).toList = _
 simp
theorem vS (s : Str) : mk s.cps.toList = s := cN (by rw [aB])
theorem i6 (a b : List Nat) : mk a ++ mk b = mk (a ++ b) := cN (by rw [bf, aB, aB, aB])
theorem mk_inj {a b : List Nat} : mk a = mk b ↔ a = b := ⟨fun h => by have := congrArg (fun s : Str => s.cps.toList) h; simpa [aB] using this, fun h => by rw [h]⟩
def dig (c : Nat) : Bool := decide (48 <= c /\ c <= 57)
def fgs : List Nat -> List Nat
 | 45 :: r => r
 | l => l
def shp (l : List Nat) : Bool := decide (1 <= (fgs l).length) && decide ((fgs l).length <= 60) && (fgs l).all dig
def canon (l : List Nat) : Bool := decide ((fgs l).head? ≠ some 48) || decide (l = [48])
def isNum (l : List Nat) : Bool := shp l && canon l
def numOf : List Nat -> Int
 | 45 :: r => -((digitsVal r : Nat) : Int)
 | l => ((digitsVal l : Nat) : Int)
theorem vT {l : List Nat} (h : l.all dig = true) : ∀ c ∈ l, 48 <= c /\ c <= 57 := fun c hc => of_decide_eq_true (List.all_eq_true.mp h c hc)
theorem fq (l : List Nat) : (∃ r, l = 45 :: r /\ fgs l = r /\ numOf l = -((digitsVal r : Nat) : Int)) \/ (fgs l = l /\ numOf l = ((digitsVal l : Nat) : Int) /\ l.head? ≠ some 45) := by
 match l with
 | [] => exact .inr ⟨rfl, rfl, by simp⟩
 | c :: r =>
  by_cases h : c = 45
  ·subst h; exact .inl ⟨r, rfl, rfl, rfl⟩
  ·refine .inr ⟨?_, ?_, by simpa using h⟩
   ·unfold fgs; split
    ·rename_i e; cases e; exact absurd rfl h
    ·rfl
   ·unfold numOf; split
    ·rename_i e; cases e; exact absurd rfl h
    ·rfl
theorem fQ {l : List Nat} (h : shp l = true) : fgs l ≠ [] /\ (fgs l).length <= 60 /\ (∀ c ∈ fgs l, 48 <= c /\ c <= 57) /\ l.length <= 61 := by
 unfold shp at h
 simp only [Bool.and_eq_true, decide_eq_true_eq] at h
 refine ⟨fun e => by rw [e] at h; simp at h, h.1.2, vT h.2, ?_⟩
 rcases fq l with ⟨r, rfl, e, _⟩ | ⟨e, _⟩
 ·rw [e] at h; simp; lia
 ·rw [e] at h; lia
theorem oB {l : List Nat} (h : shp l = true) : PySem.intText? (mk l) = some (numOf l) := by
 obtain ⟨h1, h2, h3, h4⟩ := fQ h
 rcases fq l with ⟨r, rfl, e, e2⟩ | ⟨e, e2, _⟩
 ·rw [e2]
  rw [e] at h1 h3
  exact PySem.intText_neg (by rw [aB]) h3 h1 (by rw [aS]; lia)
 ·rw [e2]
  rw [e] at h1 h3
  have := PySem.intText_digits (x := mk l) (by rw [aB]; exact h3) (by rw [aB]; exact h1) (by rw [aS]; lia)
  rw [aB] at this
  exact this
theorem tq {l : List Nat} (h : ∀ c ∈ l, 48 <= c /\ c <= 57) : (l.map Char.ofNat).map Char.toNat = l := by
 rw [List.map_map]
 conv => rhs; rw [<- List.map_id l]
 refine List.map_congr_left fun c hc => ?_
 have e : ∀ c, c < 58 -> (Char.ofNat c).toNat = c := by decide
 exact e c (by have := h c hc; lia)
theorem oC {l : List Nat} : l.dropWhile (· == 48) = l ↔ l.head? ≠ some 48 := by
 match l with
 | [] => simp
 | c :: r =>
  by_cases h : c = 48
  ·subst h
   simp only [List.head?_cons, ne_eq, not_true_eq_false, iff_false]
   intro z
   have := congrArg List.length z
   have h2 := (List.dropWhile_sublist (p := (· == 48)) (l := r)).length_le
   simp at this
   lia
  ·simp [h]
theorem kK {f : List Nat} (h : ∀ c ∈ f, 48 <= c /\ c <= 57) (h1 : f ≠ []) : ((Nat.toDigits 10 (digitsVal f)).map Char.toNat = f ↔ (f.head? ≠ some 48 \/ f = [48])) := by
 have sub : ∀ c ∈ f.dropWhile (· == 48), 48 <= c /\ c <= 57 := fun c hc => h c (List.dropWhile_sublist _ |>.subset hc)
 have td := NumText.toDigits_all f h
 cases e : f.dropWhile (· == 48) with
 | nil =>
  rw [e] at td
  rw [td]
  have hne : ¬ f.head? ≠ some 48 := fun z => by rw [oC.mpr z] at e; exact h1 e
  constructor
  ·intro z; exact .inr z.symm
  ·intro z
   rcases z with z | z
   ·exact absurd z hne
   ·rw [z]; decide
 | cons c r =>
  rw [e] at td sub
  rw [td, tq sub, <- e]
  rw [oC]
  constructor
  ·exact .inl
  ·intro z
   rcases z with z | z
   ·exact z
   ·rw [z] at e; simp at e
theorem pU {f : List Nat} (h : ∀ c ∈ f, 48 <= c /\ c <= 57) (h0 : digitsVal f = 0) (h1 : f ≠ []) : f.head? = some 48 := by
 match f, h1 with
 | c :: r, _ =>
  have := h c (by simp)
  by_cases e : c = 48
  ·rw [e]; rfl
  ·have := digitsVal_pos (c := c) (cs := r) (by lia)
   lia
theorem oD {l : List Nat} (h : shp l = true) : decide (wr (numOf l) = mk l) = canon l := by
 obtain ⟨h1, h2, h3, h4⟩ := fQ h
 rcases fq l with ⟨r, rfl, e, e2⟩ | ⟨e, e2, e3⟩
 ·rw [e2]
  rw [e] at h1 h3
  have hc : canon (45 :: r) = decide (r.head? ≠ some 48) := by unfold canon; rw [e]; simp
  rw [hc]
  refine decide_eq_decide.mpr ?_
  by_cases h0 : digitsVal r = 0
  ·have hh := pU h3 h0 h1
   rw [h0]
   have z2 : wr (-((0 : Nat) : Int)) = mk [48] := by decide
   rw [z2, mk_inj]
   exact ⟨fun z => (nomatch z), fun z => absurd hh z⟩
  ·rw [kz (by lia), mk_inj]
   have ef : figs (-((digitsVal r : Nat) : Int)) = (Nat.toDigits 10 (digitsVal r)).map Char.toNat := by
    unfold figs
    rw [show (-((digitsVal r : Nat) : Int)).natAbs = digitsVal r by lia]
   rw [ef]
   constructor
   ·intro z
    have z' := (kK h3 h1).mp (List.cons.inj z).2
    rcases z' with z' | z'
    ·exact z'
    ·rw [z'] at h0; exact absurd rfl h0
   ·intro z; rw [(kK h3 h1).mpr (.inl z)]
 ·rw [e2]
  rw [e] at h1 h3
  have hc : canon l = decide (l.head? ≠ some 48 \/ l = [48]) := by unfold canon; rw [e]; exact (Bool.decide_or _ _).symm
  rw [hc]
  refine decide_eq_decide.mpr ?_
  rw [ku (by lia), mk_inj]
  have ef : figs ((digitsVal l : Nat) : Int) = (Nat.toDigits 10 (digitsVal l)).map Char.toNat := by
   unfold figs
   rw [show (((digitsVal l : Nat) : Int)).natAbs = digitsVal l by lia]
  rw [ef]
  exact kK h3 h1
theorem xA : ∀ (f : List Nat) (a : Nat), (∀ c ∈ f, 48 <= c /\ c <= 57) -> f.foldl (fun acc c => acc * 10 + (c - 48)) a < (a + 1) * 10 ^ f.length
 | [], a, _ => by simp
 | c :: r, a, h => by
  have hc := h c (by simp)
  have ih := xA r (a * 10 + (c - 48)) fun d hd => h d (by simp [hd])
  rw [List.foldl_cons, List.length_cons, Nat.pow_succ]
  refine Nat.lt_of_lt_of_le ih ?_
  have : a * 10 + (c - 48) + 1 <= (a + 1) * 10 := by lia
  calc (a * 10 + (c - 48) + 1) * 10 ^ r.length <= ((a + 1) * 10) * 10 ^ r.length := Nat.mul_le_mul_right _ this
   _ = (a + 1) * (10 ^ r.length * 10) := by rw [Nat.mul_assoc, Nat.mul_comm 10]
theorem Ar {l : List Nat} (h : shp l = true) : (numOf l).natAbs < 10 ^ 60 := by
 obtain ⟨h1, h2, h3, h4⟩ := fQ h
 have key : ∀ f : List Nat, (∀ c ∈ f, 48 <= c /\ c <= 57) -> f.length <= 60 -> digitsVal f < 10 ^ 60 := fun f hf hl => by
  have := xA f 0 hf
  rw [Nat.zero_add, Nat.one_mul] at this
  exact Nat.lt_of_lt_of_le this (Nat.pow_le_pow_right (by decide) hl)
 rcases fq l with ⟨r, rfl, e, e2⟩ | ⟨e, e2, e3⟩
 ·rw [e] at h2 h3
  have := key r h3 h2
  rw [e2, show (-((digitsVal r : Nat) : Int)).natAbs = digitsVal r by lia]
  exact this
 ·rw [e] at h2 h3
  have := key l h3 h2
  rw [e2, show (((digitsVal l : Nat) : Int)).natAbs = digitsVal l by lia]
  exact this
def prt (c : Nat) (z : Str) : List (List Nat) := (Txt.split z (mk [c])).map fun w => w.cps.toList
theorem fR (c : Nat) (z : Str) : Txt.split z (mk [c]) = (prt c z).map mk := by
 unfold prt
 rw [List.map_map]
 conv => lhs; rw [<- List.map_id (Txt.split z (mk [c]))]
 exact List.map_congr_left fun w _ => (vS w).symm
theorem lY (c : Nat) (z : Str) : jl c (prt c z) = z.cps.toList := by
 unfold prt
 rw [<- fN]
 exact congrArg (fun s : Str => s.cps.toList) (StrLaws.join_split z (mk [c]))
theorem tu (c : Nat) (z : Str) : ∀ w ∈ prt c z, c ∉ w := by
 intro w hw
 obtain ⟨v, hv, rfl⟩ := List.mem_map.mp hw
 exact StrLaws.split_free z c v hv
theorem tw (c : Nat) (z : Str) : prt c z ≠ [] := fun h => by
 have hp := PyProof.Rows.split_pos z (mk [c])
 rw [fR, h] at hp
 exact absurd hp (by decide)
theorem tD (c : Nat) : ∀ ws : List (List Nat), ws.length <= (jl c ws).length + 1 /\ ∀ w ∈ ws, w.length <= (jl c ws).length
 | [] => ⟨by simp, fun _ h => nomatch h⟩
 | [w] => ⟨by simp, fun v hv => by rw [List.mem_singleton.mp hv]; exact Nat.le_refl _⟩
 | w :: v :: r => by
  obtain ⟨h1, h2⟩ := tD c (v :: r)
  have e : (jl c (w :: v :: r)).length = w.length + 1 + (jl c (v :: r)).length := by
   show (w ++ c :: jl c (v :: r)).length = _
   rw [List.length_append, List.length_cons]; lia
  refine ⟨by rw [e]; simp only [List.length_cons] at h1 ⊢; lia, fun x hx => ?_⟩
  rw [e]
  rcases List.mem_cons.mp hx with rfl | hx
  ·lia
  ·have := h2 x hx; lia
theorem kL (c : Nat) {z : Str} {n : Nat} (hz : z.length <= n) : (prt c z).length <= n + 1 /\ ∀ w ∈ prt c z, w.length <= n := by
 obtain ⟨h1, h2⟩ := tD c (prt c z)
 have e : (jl c (prt c z)).length = z.length := by rw [lY, Array.length_toList]; rfl
 rw [e] at h1 h2
 exact ⟨by lia, fun w hw => Nat.le_trans (h2 w hw) hz⟩
def isCel (l : List Nat) : Bool := match prt 44 (mk l) with
 | [a, b] => isNum a && isNum b
 | _ => false
def celOf (l : List Nat) : Int × Int := match prt 44 (mk l) with
 | [a, b] => (numOf a, numOf b)
 | _ => (0, 0)
end My
namespace My
open PySem PySem.NumText VL
theorem tE (n : Int) : ∀ c ∈ (wr n).cps.toList, c = 45 \/ (48 <= c /\ c <= 57) := by
 intro c hc
 by_cases h : 0 <= n
 ·rw [ku h, aB] at hc
  exact .inr (gR n c hc)
 ·rw [kz (by lia), aB] at hc
  rcases List.mem_cons.mp hc with e | e
  ·exact .inl e
  ·exact .inr (gR n c e)
def fs (ms : List Int) : Int := ms.getD 0 0
def sn (ms : List Int) : Int := ms.getD 1 0
def mxI (ns : List Int) : Int := -(mnI (ns.map fun x => -x))
theorem ft {M : Int} (h : M ∈ ns) (h2 : ∀ a ∈ ns, a <= M) : M = mxI ns := by
 have : -M = mnI (ns.map fun x => -x) := eG (List.mem_map.mpr ⟨M, h, rfl⟩) fun a ha => by
  obtain ⟨b, hb, rfl⟩ := List.mem_map.mp ha
  have := h2 b hb
  lia
 unfold mxI
 lia
theorem vU (h : ns ≠ []) : mxI ns ∈ ns := by
 have := bJ (ns := ns.map fun x => -x) (by simpa using h)
 obtain ⟨b, hb, e⟩ := List.mem_map.mp this
 have : b = mxI ns := by unfold mxI; lia
 rw [<- this]; exact hb
theorem cX {a : Int} (h : a ∈ ns) : a <= mxI ns := by
 have := eF (ns := ns.map fun x => -x) (List.mem_map.mpr ⟨a, h, rfl⟩)
 unfold mxI
 lia
def Pr (ms : List Int) : Prop := ∃ x y, ms = [x, y]
def bx (mss : List (List Int)) : List Int := [mnI (mss.map fs), mnI (mss.map sn), mxI (mss.map fs) - mnI (mss.map fs) + 1, mxI (mss.map sn) - mnI (mss.map sn) + 1]
def lit (rows : List (List Nat)) (x y : Nat) : Bool := decide ((rows.getD y [])[x]? = some 35)
def cm (W H : Nat) (rows : List (List Nat)) (a b : Int) : List (List Int) := (List.range W).flatMap fun (x : Nat) => ((List.range H).filter fun y => lit rows x y).map fun (y : Nat) => [a + (x : Int), b + (y : Int)]
theorem tF {W H : Nat} {rows : List (List Nat)} {a b : Int} {c : List Int} : c ∈ cm W H rows a b ↔ ∃ x y : Nat, x < W /\ y < H /\ lit rows x y = true /\ c = [a + (x : Int), b + (y : Int)] := by
 unfold cm
 simp only [List.mem_flatMap, List.mem_map, List.mem_filter, List.mem_range]
 constructor
 ·rintro ⟨x, hx, y, ⟨hy, hl⟩, rfl⟩; exact ⟨x, y, hx, hy, hl, rfl⟩
 ·rintro ⟨x, y, hx, hy, hl, rfl⟩; exact ⟨x, hx, y, ⟨hy, hl⟩, rfl⟩
def grd (mss : List (List Int)) (a b : Int) (W H : Nat) : List (List Nat) := (List.range H).map fun (y : Nat) => (List.range W).map fun (x : Nat) => if [a + (x : Int), b + (y : Int)] ∈ mss then 35 else 46
def txt (mss : List (List Int)) : List Nat := (wr (mnI (mss.map fs))).cps.toList ++ 44 :: ((wr (mnI (mss.map sn))).cps.toList ++ 32 :: jl 47 (grd mss (mnI (mss.map fs)) (mnI (mss.map sn)) (mxI (mss.map fs) - mnI (mss.map fs) + 1).toNat (mxI (mss.map sn) - mnI (mss.map sn) + 1).toNat))
def inB (c : List Int) : Bool := decide ((fs c).natAbs < 10 ^ 60) && decide ((sn c).natAbs < 10 ^ 60)
def rect (rows : List (List Nat)) : Bool := rows.all fun r => decide (r.length = (rows.headD []).length) && r.all fun c => decide (c = 35 \/ c = 46)
def okR (rows : List (List Nat)) (a b : Int) : Bool := decide ((rows.headD []).length <= 40) && decide (rows.length <= 40) && rect rows && !(cm (rows.headD []).length rows.length rows a b).isEmpty && (cm (rows.headD []).length rows.length rows a b).all inB
 && decide (bx (cm (rows.headD []).length rows.length rows a b) = [a, b, ((rows.headD []).length : Int), (rows.length : Int)])
def rdP (l : List Nat) : Option (List (List Int)) := if l = [45] then some [] else match prt 32 (mk l) with
 | [w0, w1] => if isCel w0 = true then (if okR (prt 47 (mk w1)) (celOf w0).1 (celOf w0).2 = true then some (cm ((prt 47 (mk w1)).headD []).length (prt 47 (mk w1)).length (prt 47 (mk w1)) (celOf w0).1 (celOf w0).2) else none) else none
 | _ => none
theorem lZ {rows : List (List Nat)} : rect rows = true ↔ ∀ r ∈ rows, r.length = (rows.headD []).length /\ ∀ c ∈ r, c = 35 \/ c = 46 := by
 unfold rect
 simp only [List.all_eq_true, Bool.and_eq_true, decide_eq_true_eq]
theorem oE {c d : Nat} (hcd : c ≠ d) : ∀ {ws : List (List Nat)}, (∀ w ∈ ws, c ∉ w) -> c ∉ jl d ws
 | [], _ => by simp [jl]
 | [w], h => h w List.mem_cons_self
 | w :: v :: r, h => by
  show c ∉ w ++ d :: jl d (v :: r)
  intro z
  rcases List.mem_append.mp z with z | z
  ·exact h w List.mem_cons_self z
  ·rcases List.mem_cons.mp z with z | z
   ·exact hcd z
   ·exact oE hcd (fun u hu => h u (List.mem_cons_of_mem _ hu)) z
theorem mY {c : Nat} {ws : List (List Nat)} (h0 : ws ≠ []) (h : ∀ w ∈ ws, c ∉ w) : prt c (mk (jl c ws)) = ws :=
 sP (tw c _) h0 (tu c _) h (by rw [lY, aB])
theorem fS {c W : Nat} : ∀ {ws : List (List Nat)}, (∀ w ∈ ws, w.length <= W) -> (jl c ws).length <= ws.length * (W + 1)
 | [], _ => by simp [jl]
 | [w], h => by
  have := h w List.mem_cons_self
  show w.length <= 1 * (W + 1)
  lia
 | w :: v :: r, h => by
  have h1 := h w List.mem_cons_self
  have h2 := fS (c := c) (ws := v :: r) fun u hu => h u (List.mem_cons_of_mem _ hu)
  show (w ++ c :: jl c (v :: r)).length <= (r.length + 1 + 1) * (W + 1)
  rw [List.length_append, List.length_cons, Nat.succ_mul (r.length + 1)]
  have h2 : (jl c (v :: r)).length <= (r.length + 1) * (W + 1) := h2
  lia
theorem md {c : Nat} {n : Int} (h : c ≠ 45) (h2 : ¬(48 <= c /\ c <= 57)) : c ∉ (wr n).cps.toList := fun z => (tE n c z).elim h h2
end My
namespace My
open PySem L2 VL
theorem As {n : Int} (h : n.natAbs < 10 ^ 60) : n.natAbs.log2 < 1920 := by
 by_cases h0 : n.natAbs = 0
 ·rw [h0]; decide
 ·exact (Nat.log2_lt h0).mpr (Nat.lt_of_lt_of_le h (by decide))
theorem bC {n : Nat} (h : n <= 1000000) : n <= sizeLine := Nat.le_trans h (by rw [sizeLine_eq]; decide)
theorem tG (l : List Nat) : sgs (mk l) = l.map fun c => .str ⟨#[c]⟩ := by unfold sgs; rw [aB]
theorem all_map {α : Type} (l : List α) (p : α -> Bool) (h : q (.bl (l.all p))) : B9 (fun x => x.all id) [.lst (l.map fun x => D.bl (p x))] q :=
 ⟨l.map p, by rw [List.map_map]; rfl, by show q (.bl ((l.map p).all id)); rw [List.all_map]; exact h⟩
theorem tI (z : Str) (c : Nat) : inS ⟨#[c]⟩ z = decide (c ∈ z.cps.toList) := StrLaws.found_one z c
theorem vV (c : Nat) : inS ⟨#[c]⟩ "0123456789" = dig c := by
 rw [tI]
 have e : (Str.ofString "0123456789").cps.toList = [48, 49, 50, 51, 52, 53, 54, 55, 56, 57] := by decide
 show decide (c ∈ (Str.ofString "0123456789").cps.toList) = _
 rw [e]
 simp only [List.mem_cons, List.not_mem_nil, or_false]
 unfold dig
 refine decide_eq_decide.mpr ⟨fun h => ?_, fun h => ?_⟩
 ·rcases h with h | h | h | h | h | h | h | h | h | h <;> (subst h; decide)
 ·have : c - 48 < 10 := Nat.lt_of_le_of_lt (Nat.sub_le_sub_right h.2 48) (by decide)
  have e2 : ∀ d, d < 10 -> (48 + d = 48 \/ 48 + d = 49 \/ 48 + d = 50 \/ 48 + d = 51 \/ 48 + d = 52 \/ 48 + d = 53 \/ 48 + d = 54 \/ 48 + d = 55 \/ 48 + d = 56 \/ 48 + d = 57) := by decide
  have := e2 (c - 48) this
  rw [Nat.add_sub_of_le h.1] at this
  exact this
theorem vW (l : List Nat) : Txt.removeprefix (mk l) (mk [45]) = mk (fgs l) := by
 rcases fq l with ⟨r, rfl, e, _⟩ | ⟨e, _, h⟩
 ·rw [e]; exact vH
 ·rw [e]
  match l, h with
  | [], _ => decide
  | c :: r, h => exact Ah (by simpa using h)
theorem Au {f g : Int -> Int -> Bool} {va vb vc : VT} {a b c : Int} {Q : VR -> List Sl -> Prop} (ha : ∀ Q', Q' (.d (.int a)) S -> va S Q') (hb : ∀ Q', Q' (.d (.int b)) S -> vb S Q') (hc : ∀ Q', Q' (.d (.int c)) S -> vc S Q') (h : Q (.d (.bl (f a b && g b c))) S) :
  ke (wI0 fun i j => V.bl (f i j)) (wI0 fun i j => V.bl (g i j)) va vb vc S Q := by
 unfold ke
 refine ha _ (hb _ ⟨.int a, .int b, rfl, rfl, a, b, rfl, rfl, _, rfl, ?_⟩)
 cases h1 : f a b with
 | true =>
  rw [if_pos rfl]
  refine hc _ ⟨.int b, .int c, rfl, rfl, b, c, rfl, rfl, ?_⟩
  rw [h1, Bool.true_and] at h
  exact h
 | false =>
  rw [if_neg Bool.false_ne_true]
  rw [h1, Bool.false_and] at h
  exact h
theorem pV (l : List Nat) : shp l = ((decide ((1 : Int) <= ((fgs l).length : Int)) && decide (((fgs l).length : Int) <= 60)) && (fgs l).all dig) := by
 unfold shp
 congr 1
 congr 1
 ·exact decide_eq_decide.mpr (by lia)
 ·exact decide_eq_decide.mpr (by lia)
def pNum (ds : List D) (R : D -> Prop) : Prop := ∃ l : List Nat, ds = [.str (mk l)] /\ l.length <= 100000 /\ isNum l = true /\ R (.int (numOf l))
theorem vX (l : List Nat) : (fgs l).length <= l.length := by
 rcases fq l with ⟨r, rfl, e, _⟩ | ⟨e, _, _⟩
 ·rw [e]; simp
 ·rw [e]; exact Nat.le_refl _
section
variable {P : Program} {w : World} {K : PySem.W.Frag} {mg : Str -> Option Value} {base : Heap}
theorem CT {t1 t2 : Tok} (S : Src K mg "read_number" df) (T : Txt mg) (g_MOST_FIGURES : mg "MOST_FIGURES" = some (.int 60 t1)) (g_FIGURES : mg "FIGURES" = some (.str "0123456789" t2)) : Has P w K mg base 1 "read_number" ["text"] (spP K pNum) := by
 refine cF S dM (by walk_at "1") (fun ds R zq1 => by obtain ⟨_, e, _⟩ := zq1; rw [e]; rfl) fun f cdv A outer s H E hr => ⟨_, _, (ai (aA (i := 1) dM.nd rfl (Or.inl rfl) (zX rfl (aa 0 (pv 0)) aM))
  (ai (bw (du (cJ (bU (rC wG aC wG aC ah (ay dB mS (by rfl) T.len_ cR (ae (aa 1 (pv 1)) af)) (ck (cy (v := .int 60) (by rfl) g_MOST_FIGURES ⟨_, rfl⟩) (fun _ _ => .int _)))) (cu (bU (b8 (ay (lI (K := K) rfl rfl) lK (by rfl) T.all_ iG (ae (aT (bF (tg := ["sign"]) (cs := []) (ix := []) (aI (aj df) ["text", "figures", "number"] (by decide +kernel)) rfl (aG (by decide)) (by decide) (sL (aa 1 (pv 1))) (fun _ _ _ _ => (az (aw (i := 0) (show (["sign"] : List Str).Nodup by decide +kernel) rfl (Or.inl rfl) (by first | exact Or.inl rfl | exact Or.inr rfl)))) (fun _ _ _ _ => aX) (fun _ _ _ _ => (b7 jf xp (aa 0 (pv 0)) (ck (cy (v := .str "0123456789") (by rfl) g_FIGURES ⟨_, rfl⟩) (fun _ _ => .str _)) (by with_unfolding_all rfl))))) af))))))) (ao cD) aN)
  (ai (aA (i := 2) dM.nd rfl (Or.inl rfl) (eQ pO Ac (by rfl) T.int_ hU (ae (aa 0 (pv 0)) af)))
  (ai (bw (aJ je pq (eQ jO zC (by rfl) T.str_ mK (ae (aa 2 (pv 2)) af)) (aa 0 (pv 0)) (aF _)) (ao cD) aN)
  (ao (aH (bT (aa 2 (pv 2))))))))), ?_⟩
 rintro ds R ⟨l, rfl, hl, hn, q⟩
 unfold isNum at hn
 rw [Bool.and_eq_true] at hn
 obtain ⟨hs, hc⟩ := hn
 have hs' := hs
 rw [pV, Bool.and_eq_true] at hs'
 obtain ⟨i1, i2, i3, i4⟩ := fQ hs
 have hfl := vX l
 walk_at "sl"
 walk_at "rd"
 rw [show Str.ofString "-" = mk [45] from rfl]
 refine vp (by rw [aS]; exact bC (by lia)) ?_
 rw [vW]
 walk_at "rd"
 refine Au (a := 1) (b := ((fgs l).length : Int)) (c := 60) (fun Q' h => by walk_at "rd"; exact h) (fun Q' h => ?_) (fun Q' h => by walk_at "rd"; exact h) ?_
 ·walk_at "rd"
  refine mT (by rw [aS]; exact bC (by lia)) ?_
  rw [aS]
  exact h
 rw [hs'.1]
 walk_at "rc"
 rw [tG]
 refine comp_map (xs := fgs l) (f := fun c => D.bl (dig c)) (by lia) (fun c hc A B hA => ?_) ?_
 ·dsimp only [aZ, List.replicate, List.map_cons, List.map_nil, List.cons_append, List.nil_append]
  walk_at "rd"
  refine xw (vV c) ?_
  walk_at "rd"
  exact hA _ rfl
 walk_at "rd"
 refine all_map _ dig ?_
 rw [hs'.2]
 walk_at "rc"
 refine Ad (oB hs) (by rw [aS]; lia) ?_
 walk_at "rd"
 refine zD (As (Ar hs)) ?_
 walk_at "rd"
 have e := oD hs
 rw [hc] at e
 rw [show decide (Str.ofString (toString (numOf l)) = mk l) = true from e]
 walk_at "rc"
 exact q
end
end My
namespace My
open PySem L2 VL
def CU (ds : List D) (R : D -> Prop) : Prop := ∃ l : List Nat, ds = [.str (mk l)] /\ l.length <= 100000 /\ isCel l = true /\ R (.tup [.int (celOf l).1, .int (celOf l).2])
theorem vY {l : List Nat} (h : isCel l = true) : ∃ a b, prt 44 (mk l) = [a, b] /\ isNum a = true /\ isNum b = true /\ celOf l = (numOf a, numOf b) := by
 unfold isCel at h
 split at h
 ·rename_i a b e
  rw [Bool.and_eq_true] at h
  refine ⟨a, b, e, h.1, h.2, ?_⟩
  unfold celOf
  rw [e]
 ·cases h
section
variable {P : Program} {w : World} {K : PySem.W.Frag} {mg : Str -> Option Value} {base : Heap}
theorem CV (S : Src K mg "read_cell" f9) (T : Txt mg) (e8_ : Has P w K mg base 1 "read_number" ["text"] (spP K pNum)) : Has P w K mg base 2 "read_cell" ["text"] (spP K CU) := by
 refine cF S iX (by walk_at "1") (fun ds R zq1 => by obtain ⟨_, e, _⟩ := zq1; rw [e]; rfl) fun f cdv A outer s H E hr => ⟨_, _, (ai (aA (i := 1) iX.nd rfl (Or.inl rfl) (aT (iR rfl rfl (aa 0 (pv 0)) aM)))
  (ai (bw (aJ je pq (ay (gx (K := K) rfl) gv (by rfl) T.len_ cR (ae (aa 1 (pv 1)) af)) ah (aF _)) (ao cD) aN)
  (ao (aH (b9 (ae (bA e8_ hr (ae (bj rfl (aa 1 (pv 1)) ah (fun _ _ => rfl)) af)) (ae (bA e8_ hr (ae (bj rfl (aa 1 (pv 1)) ah (fun _ _ => rfl)) af)) af))))))), ?_⟩
 rintro ds R ⟨l, rfl, hl, hc, q⟩
 obtain ⟨a, b, e, ha, hb, ec⟩ := vY hc
 have hz := (kL 44 (z := mk l) (n := 100000) (by rw [aS]; exact hl)).2
 rw [e] at hz
 have la := hz a (by simp)
 have lb := hz b (by simp)
 walk_at "sl"
 walk_at "rd"
 refine mV (ws := [mk a, mk b]) (by rw [aS]; exact bC (by lia)) rfl (by rw [show Str.ofString "," = mk [44] from rfl, fR, e]; rfl) (bC (show 2 <= 1000000 by decide)) ?_
 walk_at "rc"
 refine ⟨a, rfl, la, ha, ?_⟩
 walk_at "rc"
 refine ⟨b, rfl, lb, hb, ?_⟩
 walk_at "rc"
 rw [ec] at q
 exact q
end
end My
namespace My
open PySem L2 VL
theorem DG (n : Nat) : cutD ds (some (n : Int)) none = ds.drop n := by
 unfold cutD
 rw [HT.t9, HT.qp]
 by_cases h : n <= ds.length
 ·rw [Nat.min_eq_left h, List.take_of_length_le (by rw [List.length_drop]; lia)]
 ·rw [Nat.min_eq_right (by lia), List.drop_eq_nil_of_le (Nat.le_refl _), List.drop_eq_nil_of_le (by lia), List.take_nil]
theorem DH (a b : List (List Int)) : zpD (a.map eT) (b.map eT) = (a.zip b).map fun p => .tup [eT p.1, eT p.2] := by
 unfold zpD
 rw [List.zip_map, List.map_map]
 rfl
def Pc (mss : List (List Int)) : Prop := (∀ ms ∈ mss, Pr ms) /\ mss.length <= 2000
def Asc (mss : List (List Int)) : Prop := mss.Pairwise fun p q => HT.lexLt p q = true
theorem oF : ∀ {mss : List (List Int)}, Asc mss -> (mss.zip (mss.drop 1)).all (fun p => HT.lexLt p.1 p.2) = true
 | [], _ => rfl
 | [_], _ => rfl
 | a :: b :: r, h => by
  have h1 := (List.pairwise_cons.mp h).1 b List.mem_cons_self
  have h2 := oF (List.pairwise_cons.mp h).2
  simp only [List.drop_succ_cons, List.drop_zero, List.zip_cons_cons, List.all_cons, h1, Bool.true_and] at h2 ⊢
  exact h2
def pWh : List D -> (D -> Prop) -> Prop := fun ds R => ∃ x : Int, ds = [.int x] /\ R (.bl true)
def pPair : List D -> (D -> Prop) -> Prop := fun ds R => ∃ x y : Int, ds = [eT [x, y]] /\ R (.bl true)
def xB : List D -> (D -> Prop) -> Prop := fun ds R => ∃ x y : Int, ds = [eT [x, y]] /\ R (.bl (inB [x, y]))
def tJ : List D -> (D -> Prop) -> Prop := fun ds R => ∃ mss, ds = [eL mss] /\ Pc mss /\ Asc mss /\ R (.bl (mss.all inB))
def vZ : List D -> (D -> Prop) -> Prop := fun ds R => ∃ mss, ds = [eL mss] /\ Pc mss /\ (mss = [] -> R .non) /\ (mss ≠ [] -> R (eT (bx mss)))
def sgn (c : Nat) : Bool := decide (c = 35 \/ c = 46)
def CW : List D -> (D -> Prop) -> Prop := fun ds R => ∃ (W : Int) (l : List Nat), ds = [.int W, .str (mk l)] /\ l.length <= 100000 /\ R (.bl (decide ((l.length : Int) = W) && l.all sgn))
theorem CY (x y : Int) : inB [x, y] = (decide (x.natAbs < 10 ^ 60) && decide (y.natAbs < 10 ^ 60)) := rfl
theorem xC (k : Int) : decide ((if k < 0 then -k else k) < (10 : Int) ^ Int.toNat 60) = decide (k.natAbs < 10 ^ 60) := by
 have h : (if k < 0 then -k else k) = (k.natAbs : Int) := by split <;> lia
 rw [h, show (10 : Int) ^ Int.toNat 60 = ((10 ^ 60 : Nat) : Int) from by rw [show Int.toNat 60 = 60 from rfl]; exact (Int.natCast_pow 10 60).symm]
 exact decide_eq_decide.mpr Int.ofNat_lt
theorem Av (c : Nat) : inS ⟨#[c]⟩ "#." = sgn c := by
 rw [tI]
 unfold sgn
 rw [show (Str.ofString "#.").cps.toList = [35, 46] by decide +kernel]
 exact decide_eq_decide.mpr (by simp)
section
variable {P : Program} {w : World} {K : PySem.W.Frag} {mg : Str -> Option Value} {base : Heap}
theorem CZ (S : Src K mg "is_whole" iV) (T : Txt mg) : Has P w K mg base 1 "is_whole" ["thing"] (spP K pWh) := by
 refine cF S pT (by walk_at "1") (fun ds R zq1 => by obtain ⟨_, e, _⟩ := zq1; rw [e]; rfl) fun f cdv A outer s H E hr => ⟨_, _, (ao (aH (cU (ay (eY (K := K) rfl) eX (by rfl) T.isinstance_ aL (ae (aa 0 (pv 0)) (ae (ck (bZ (v := .ty "int") (by rfl) T.int_ hU rfl) (fun _ _ => .ty _)) af))) (fc (qH (ay (eY (K := K) rfl) eX (by rfl) T.isinstance_ aL (ae (aa 0 (pv 0)) (ae (ck (bZ (v := .ty "bool") (by rfl) T.bool_ nk rfl) (fun _ _ => .ty _)) af)))))))), ?_⟩
 rintro ds R ⟨x, rfl, q⟩
 walk_at "sl"
 walk_at "rc"
 exact q
theorem v8 (S : Src K mg "is_pair" kE) (T : Txt mg) (e9_ : Has P w K mg base 1 "is_whole" ["thing"] (spP K pWh)) : Has P w K mg base 2 "is_pair" ["thing"] (spP K pPair) := by
 refine cF S sZ (by walk_at "1") (fun ds R zq1 => by obtain ⟨_, _, e, _⟩ := zq1; rw [e]; rfl) fun f cdv A outer s H E hr => ⟨_, _, (ao (aH (cU (ay (eY (K := K) rfl) eX (by rfl) T.isinstance_ aL (ae (aa 0 (pv 0)) (ae (ck (bZ (v := .ty "tuple") (by rfl) T.tuple_ kY rfl) (fun _ _ => .ty _)) af))) (cU (b7 eU jb (ay (gx (K := K) rfl) gv (by rfl) T.len_ cR (ae (aa 0 (pv 0)) af)) ah (aF _)) (cU (bA e9_ hr (ae (bj rfl (aa 0 (pv 0)) ah (fun _ _ => rfl)) af)) (fc (bA e9_ hr (ae (bj rfl (aa 0 (pv 0)) ah (fun _ _ => rfl)) af)))))))), ?_⟩
 rintro ds R ⟨x, y, rfl, q⟩
 walk_at "sl"
 walk_at "rc"
 refine ⟨x, rfl, ?_⟩
 walk_at "rc"
 refine ⟨y, rfl, ?_⟩
 walk_at "rc"
 exact q
theorem v9 (S : Src K mg "is_cell" kF) (T : Txt mg) (e19_ : Has P w K mg base 2 "is_pair" ["thing"] (spP K pPair)) : Has P w K mg base 3 "is_cell" ["thing"] (spP K xB) := by
 refine cF S tf (by walk_at "1") (fun ds R zq1 => by obtain ⟨_, _, e, _⟩ := zq1; rw [e]; rfl) fun f cdv A outer s H E hr => ⟨_, _, (ao (aH (cU (bA e19_ hr (ae (aa 0 (pv 0)) af)) (cU (b7 kN aC (ay gZ qI (by rfl) T.abs_ mz (ae (bj rfl (aa 0 (pv 0)) ah (fun _ _ => rfl)) af)) (aq cG bI ah ah) (aF _)) (fc (b7 kN aC (ay gZ qI (by rfl) T.abs_ mz (ae (bj rfl (aa 0 (pv 0)) ah (fun _ _ => rfl)) af)) (aq cG bI ah ah) (aF _))))))), ?_⟩
 rintro ds R ⟨m, n, rfl, q⟩
 walk_at "sl"
 walk_at "rd"
 refine ⟨m, n, rfl, ?_⟩
 walk_at "rc"
 rw [CY] at q
 show lE _ _ (VR.d (D.bl (decide ((if m < 0 then -m else m) < 10 ^ Int.toNat 60)))) _
 rw [xC m]
 cases hm : decide (m.natAbs < 10 ^ 60) with
 | false =>
  rw [hm, Bool.false_and] at q
  refine xf rfl ?_
  refine qU rfl ?_
  exact q
 | true =>
  rw [hm, Bool.true_and] at q
  refine w9 rfl ?_
  walk_at "rd"
  show R (.bl (decide ((if n < 0 then -n else n) < 10 ^ Int.toNat 60)))
  rw [xC n]
  exact q
theorem tK (S : Src K mg "is_picture" cV) (T : Txt mg) (e18_ : Has P w K mg base 3 "is_cell" ["thing"] (spP K xB)) : Has P w K mg base 4 "is_picture" ["thing"] (spP K tJ) := by
 refine cF S lW (by walk_at "1") (fun ds R zq1 => by obtain ⟨_, e, _⟩ := zq1; rw [e]; rfl) fun f cdv A outer s H E hr => ⟨_, _, (ai (bw (du (cJ (bU (b8 (ay (eY (K := K) rfl) eX (by rfl) T.isinstance_ aL (ae (aa 0 (pv 0)) (ae (ck (bZ (v := .ty "list") (by rfl) T.list_ jU rfl) (fun _ _ => .ty _)) af))))) (cu (bU (b8 (ay (lI (K := K) rfl rfl) lK (by rfl) T.all_ iG (ae (aT (bF (tg := ["cell"]) (cs := []) (ix := []) (aI (aj cV) ["thing"] (by decide +kernel)) rfl (aG (by decide)) (by decide) (bL rfl (aa 0 (pv 0))) (fun _ _ _ _ => (az (aw (i := 0) (show (["cell"] : List Str).Nodup by decide +kernel) rfl (Or.inl rfl) (by first | exact Or.inl rfl | exact Or.inr rfl)))) (fun _ _ _ _ => aX) (fun _ _ _ _ => (bA e18_ hr (ae (aa 0 (pv 0)) af))))) af))))))) (ao (aH fG)) aN)
  (ao (aH (ay (lI (K := K) rfl rfl) lK (by rfl) T.all_ iG (ae (aT (bF (tg := ["one", "other"]) (cs := []) (ix := []) (aI (aj cV) ["thing"] (by decide +kernel)) rfl (eN (by decide) (by decide)) (by decide) (zT rfl (by rfl) T.zip_ (ae (aa 0 (pv 0)) (ae (aT (Cd rfl (aa 0 (pv 0)) (uK ah) uJ)) af))) (fun _ _ _ _ => (dH (n := 2) rfl rfl (aP (az (aw (i := 0) (show (["one", "other"] : List Str).Nodup by decide +kernel) rfl (Or.inl rfl) (by first | exact Or.inl rfl | exact Or.inr rfl))) (aP (az (aw (i := 1) (show (["one", "other"] : List Str).Nodup by decide +kernel) rfl (Or.inl rfl) (by first | exact Or.inl rfl | exact Or.inr rfl))) cL)))) (fun _ _ _ _ => aX) (fun _ _ _ _ => (b7 (B0 (K := K) rfl hr.units) B1 (aa 0 (pv 0)) (aa 1 (pv 1)) (aF _))))) af))))), ?_⟩
 rintro ds R ⟨mss, rfl, hp, ha, q⟩
 walk_at "sl"
 walk_at "rc"
 refine comp_map (xs := mss) (en := eT) (f := fun m => .bl (inB m)) (by have := hp.2; lia) (fun m hm A B hA => ?_) ?_
 ·obtain ⟨x, y, rfl⟩ := hp.1 m hm
  dsimp only [aZ, List.replicate, List.map_cons, List.map_nil, List.cons_append, List.nil_append]
  walk_at "rd"
  refine ⟨x, y, rfl, ?_⟩
  walk_at "rd"
  exact hA _ rfl
 walk_at "rd"
 refine all_map mss inB ?_
 cases hc : mss.all inB with
 | false =>
  rw [hc] at q
  walk_at "rc"
  exact q
 | true =>
  rw [hc] at q
  walk_at "rc"
  refine uR rfl (iq _) (DG 1) ?_
  rw [<- List.map_drop]
  walk_at "rd"
  rw [DH]
  refine comp_map (xs := mss.zip (mss.drop 1)) (en := fun p => .tup [eT p.1, eT p.2]) (f := fun p => .bl (HT.lexLt p.1 p.2)) (by rw [List.length_zip]; have := hp.2; lia) (fun p hm A B hA => ?_) ?_
  ·dsimp only [aZ, List.replicate, List.map_cons, List.map_nil, List.cons_append, List.nil_append]
   walk_at "rd"
   exact hA _ rfl
  walk_at "rd"
  refine all_map (mss.zip (mss.drop 1)) (fun p => HT.lexLt p.1 p.2) ?_
  rw [oF ha]
  walk_at "rd"
  exact q
theorem Aw (S : Src K mg "box_of" iW) (T : Txt mg) : Has P w K mg base 1 "box_of" ["picture"] (spP K vZ) := by
 refine cF S gS (by walk_at "1") (fun ds R zq1 => by obtain ⟨_, e, _⟩ := zq1; rw [e]; rfl) fun f cdv A outer s H E hr => ⟨_, _, (ai (bw (bU (zm rfl (aa 0 (pv 0)))) (ao (aH fW)) aN)
  (ai (iy (ii := 1) (tg := ["x", "y"]) (cs := []) (ix := []) gS.nd rfl (Or.inl rfl) (Or.inl rfl) (aI (aj iW) ["picture", "columns", "rows", "left", "top"] (by decide +kernel)) rfl (eN (by decide) (by decide)) (by decide) (bL rfl (aa 0 (pv 0))) (fun _ _ _ _ => (dH (n := 2) rfl rfl (aP (az (aw (i := 0) (show (["x", "y"] : List Str).Nodup by decide +kernel) rfl (Or.inl rfl) (by first | exact Or.inl rfl | exact Or.inr rfl))) (aP (az (aw (i := 1) (show (["x", "y"] : List Str).Nodup by decide +kernel) rfl (Or.inl rfl) (by first | exact Or.inl rfl | exact Or.inr rfl))) cL)))) (fun _ _ _ _ => aX) (fun _ _ _ _ => (bT (aa 0 (pv 0)))))
  (ai (iy (ii := 2) (tg := ["x", "y"]) (cs := []) (ix := []) gS.nd rfl (Or.inl rfl) (Or.inl rfl) (aI (aj iW) ["picture", "columns", "rows", "left", "top"] (by decide +kernel)) rfl (eN (by decide) (by decide)) (by decide) (bL rfl (aa 0 (pv 0))) (fun _ _ _ _ => (dH (n := 2) rfl rfl (aP (az (aw (i := 0) (show (["x", "y"] : List Str).Nodup by decide +kernel) rfl (Or.inl rfl) (by first | exact Or.inl rfl | exact Or.inr rfl))) (aP (az (aw (i := 1) (show (["x", "y"] : List Str).Nodup by decide +kernel) rfl (Or.inl rfl) (by first | exact Or.inl rfl | exact Or.inr rfl))) cL)))) (fun _ _ _ _ => aX) (fun _ _ _ _ => (bT (aa 1 (pv 1)))))
  (ai (uL (fun _ h => x4 (i := 3) (j := 4) rfl gS.nd rfl rfl (by decide) rfl rfl h rfl) (ae (ay (kh (K := K) rfl rfl) eD (by rfl) T.min_ iF (ae (aa 1 (pv 1)) af)) (ae (ay (kh (K := K) rfl rfl) eD (by rfl) T.min_ iF (ae (aa 2 (pv 2)) af)) af)))
  (ao (aH (b9 (ae (bT (aa 3 (pv 3))) (ae (bT (aa 4 (pv 4))) (ae (aq aW aC (aq bK aC (ay (ki (K := K) rfl rfl) eD (by rfl) T.max_ j9 (ae (aa 1 (pv 1)) af)) (aa 3 (pv 3))) ah) (ae (aq aW aC (aq bK aC (ay (ki (K := K) rfl rfl) eD (by rfl) T.max_ j9 (ae (aa 2 (pv 2)) af)) (aa 4 (pv 4))) ah) af))))))))))), ?_⟩
 rintro ds R ⟨mss, rfl, hp, q1, q2⟩
 walk_at "sl"
 walk_at "rd"
 by_cases h0 : mss = []
 ·subst h0
  refine rM (d := eL []) (b := false) rfl rfl ?_
  walk_at "rc"
  exact q1 rfl
 ·have e0 : tru (eL mss) = some true := by cases mss with | nil => exact absurd rfl h0 | cons a r => rfl
  have n1 : mss.map fs ≠ [] := by simpa using h0
  have n2 : mss.map sn ≠ [] := by simpa using h0
  refine rM (d := eL mss) (b := true) rfl e0 ?_
  walk_at "rc"
  refine comp_map (f := fun m => .int (fs m)) (by have := hp.2; lia) (fun m hm A B hA => ?_) ?_
  ·obtain ⟨x, y, rfl⟩ := hp.1 m hm
   dsimp only [aZ, List.replicate, List.map_cons, List.map_nil, List.cons_append, List.nil_append]
   walk_at "rd"
   exact hA _ rfl
  walk_at "rd"
  refine comp_map (f := fun m => .int (sn m)) (by have := hp.2; lia) (fun m hm A B hA => ?_) ?_
  ·obtain ⟨x, y, rfl⟩ := hp.1 m hm
   dsimp only [aZ, List.replicate, List.map_cons, List.map_nil, List.cons_append, List.nil_append]
   walk_at "rd"
   exact hA _ rfl
  walk_at "rd"
  rw [show mss.map (fun m => D.int (fs m)) = (mss.map fs).map D.int by rw [List.map_map]; rfl, show mss.map (fun m => D.int (sn m)) = (mss.map sn).map D.int by rw [List.map_map]; rfl]
  refine eE n1 fun M1 h1 h2 => ?_
  obtain rfl := eG h1 h2
  walk_at "rd"
  refine eE n2 fun M2 h3 h4 => ?_
  obtain rfl := eG h3 h4
  walk_at "rd"
  refine eE n1 fun M3 h5 h6 => ?_
  obtain rfl := ft h5 h6
  walk_at "rd"
  refine eE n2 fun M4 h7 h8 => ?_
  obtain rfl := ft h7 h8
  walk_at "rd"
  exact q2 h0
theorem Ax (S : Src K mg "is_row" kI) (T : Txt mg) : Has P w K mg base 1 "is_row" ["wide", "text"] (spP K CW) := by
 refine cF S vP (by walk_at "2") (fun ds R zq1 => by obtain ⟨_, _, e, _⟩ := zq1; rw [e]; rfl) fun f cdv A outer s H E hr => ⟨_, _, (ao (aH (cU (b7 eU jb (ay dB mS (by rfl) T.len_ cR (ae (aa 1 (pv 1)) af)) (aa 0 (pv 0)) (aF _)) (fc (ay (lI (K := K) rfl rfl) lK (by rfl) T.all_ iG (ae (aT (bF (tg := ["sign"]) (cs := []) (ix := []) (aI (aj kI) ["wide", "text"] (by decide +kernel)) rfl (aG (by decide)) (by decide) (sL (aa 1 (pv 1))) (fun _ _ _ _ => (az (aw (i := 0) (show (["sign"] : List Str).Nodup by decide +kernel) rfl (Or.inl rfl) (by first | exact Or.inl rfl | exact Or.inr rfl)))) (fun _ _ _ _ => aX) (fun _ _ _ _ => (b7 jf xp (aa 0 (pv 0)) aM (by with_unfolding_all rfl))))) af)))))), ?_⟩
 rintro ds R ⟨W, l, rfl, hl, q⟩
 walk_at "sl"
 walk_at "rd"
 refine mT (by rw [aS]; exact bC (by lia)) ?_
 rw [aS]
 walk_at "rd"
 cases hw : decide ((l.length : Int) = W) with
 | false =>
  rw [hw, Bool.false_and] at q
  walk_at "rc"
  exact q
 | true =>
  rw [hw, Bool.true_and] at q
  walk_at "rc"
  rw [tG]
  refine comp_map (xs := l) (f := fun c => D.bl (sgn c)) (by lia) (fun c hc A B hA => ?_) ?_
  ·dsimp only [aZ, List.replicate, List.map_cons, List.map_nil, List.cons_append, List.nil_append]
   walk_at "rd"
   refine xw (Av c) ?_
   walk_at "rd"
   exact hA _ rfl
  walk_at "rd"
  refine all_map _ sgn ?_
  walk_at "rd"
  exact q
end
end My
namespace My
open PySem L2 VL
def wS (ws : List (List Nat)) : List D := ws.map fun w => .str (mk w)
theorem Ay (ws : List (List Nat)) : (wS ws).length = ws.length := by unfold wS; rw [List.length_map]
theorem xD {ws : List (List Nat)} {i : Nat} {w : List Nat} (e : ws[i]? = some w) : atI (wS ws) (i : Int) = some (.str (mk w)) := jQ (by unfold wS; rw [List.getElem?_map, e]; rfl)
theorem Az (ws : List (List Nat)) : (ws.map mk).map D.str = wS ws := by unfold wS; rw [List.map_map]; rfl
theorem gA {l : List Nat} (h : isNum l = true) : 44 ∉ l := by
 intro hc
 unfold isNum at h
 rw [Bool.and_eq_true] at h
 obtain ⟨_, _, h3, _⟩ := fQ h.1
 rcases fq l with ⟨r, rfl, e, _⟩ | ⟨e, _, _⟩
 ·rw [e] at h3
  rcases List.mem_cons.mp hc with z | z
  ·cases z
  ·have := h3 44 z; lia
 ·rw [e] at h3
  have := h3 44 hc; lia
theorem tL {l : List Nat} {cs : List (List Int)} (h : rdP l = some cs) : (l = [45] /\ cs = []) \/ (l ≠ [45] /\ ∃ w0 w1, prt 32 (mk l) = [w0, w1] /\ isCel w0 = true /\ okR (prt 47 (mk w1)) (celOf w0).1 (celOf w0).2 = true /\ cs = cm ((prt 47 (mk w1)).headD []).length (prt 47 (mk w1)).length (prt 47 (mk w1)) (celOf w0).1 (celOf w0).2) := by
 unfold rdP at h
 by_cases h0 : l = [45]
 ·rw [if_pos h0] at h
  exact .inl ⟨h0, (Option.some.inj h).symm⟩
 ·rw [if_neg h0] at h
  refine .inr ⟨h0, ?_⟩
  split at h
  ·rename_i w0 w1 e
   by_cases h1 : isCel w0 = true
   ·rw [if_pos h1] at h
    by_cases h2 : okR (prt 47 (mk w1)) (celOf w0).1 (celOf w0).2 = true
    ·rw [if_pos h2] at h
     exact ⟨w0, w1, e, h1, h2, (Option.some.inj h).symm⟩
    ·rw [if_neg h2] at h; cases h
   ·rw [if_neg h1] at h; cases h
  ·cases h
theorem C1 {W H : Nat} {rows : List (List Nat)} {a b : Int} : ∀ c ∈ cm W H rows a b, Pr c := fun c hc => by
 obtain ⟨x, y, _, _, _, rfl⟩ := tF.mp hc
 exact ⟨_, _, rfl⟩
theorem C2 {x y x' y' : Int} (h : x < x' \/ (x = x' /\ y < y')) : HT.lexLt [x, y] [x', y'] = true := by
 simp only [HT.cq]
 rcases h with h | ⟨rfl, h⟩
 ·rw [if_neg (by lia)]; exact decide_eq_true h
 ·rw [if_pos rfl, if_neg (by lia)]; exact decide_eq_true h
theorem tM (W H : Nat) (rows : List (List Nat)) (a b : Int) : Asc (cm W H rows a b) := by
 unfold Asc cm
 rw [List.pairwise_flatMap]
 refine ⟨fun x _ => ?_, ?_⟩
 ·rw [List.pairwise_map]
  refine List.Pairwise.imp (fun {y y'} h => C2 (.inr ⟨rfl, by have h : y < y' := h; lia⟩)) (List.Pairwise.filter _ List.pairwise_lt_range)
 ·refine List.Pairwise.imp (fun {x x'} h c hc d hd => ?_) List.pairwise_lt_range
  obtain ⟨y, _, rfl⟩ := List.mem_map.mp hc
  obtain ⟨y', _, rfl⟩ := List.mem_map.mp hd
  have h : x < x' := h
  exact C2 (.inl (by lia))
theorem AA (W H : Nat) (rows : List (List Nat)) (a b : Int) : (cm W H rows a b).length <= W * H := by
 unfold cm
 rw [List.length_flatMap]
 have h : ∀ l : List Nat, (l.map fun x => (((List.range H).filter fun y => lit rows x y).map fun (y : Nat) => [a + (x : Int), b + (y : Int)]).length).sum <= l.length * H := fun l => by
  induction l with
  | nil => simp
  | cons x l ih =>
   have := List.length_filter_le (fun y => lit rows x y) (List.range H)
   rw [List.length_range] at this
   simp only [List.map_cons, List.sum_cons, List.length_map, List.length_cons, Nat.succ_mul] at ih ⊢
   lia
 have := h (List.range W)
 rwa [List.length_range] at this
theorem tN (rows : List (List Nat)) : (rows.all fun r => (decide ((r.length : Int) = ((rows.headD []).length : Int)) && r.all sgn)) = rect rows := by
 unfold rect
 congr 1
 funext r
 congr 1
 exact decide_eq_decide.mpr (by lia)
def pRp (ds : List D) (R : D -> Prop) : Prop := ∃ (l : List Nat) (cs : List (List Int)), ds = [.str (mk l)] /\ l.length <= 10000 /\ rdP l = some cs /\ R (eL cs)
section
variable {P : Program} {w : World} {K : PySem.W.Frag} {mg : Str -> Option Value} {base : Heap}
theorem mZ {rows : List (List Nat)} {a b : Int} {s0 s1 s7 : Sl} {QN : List D -> List Sl -> Prop} (g3 : rect rows = true) (g1 : (rows.headD []).length <= 40) (g2 : rows.length <= 40)
  (h : QN ((cm (rows.headD []).length rows.length rows a b).map eT) [s0, s1, .val (.int a), .val (.int b), .val (.lst (wS rows)), .val (.int ((rows.headD []).length : Int)), .val (.int (rows.length : Int)), s7]) :
  mR 2 [2, 3, 6, 4] (vgN 0) qT (yI (lq (gJ 4) um)) (vgN 1) (ip (v2 wEq (zV (vIx (gJ 5) (gJ 1)) (gJ 0)) (vC (D.str "#")))) (yt (lq (v2 (wI0 fun i j => L2.V.int (i + j)) (gJ 2) (gJ 0)) (lq (v2 (wI0 fun i j => L2.V.int (i + j)) (gJ 3) (gJ 1)) um))) QN (rg 0 ((rows.headD []).length : Int).toNat)
   [s0, s1, .val (.int a), .val (.int b), .val (.lst (wS rows)), .val (.int ((rows.headD []).length : Int)), .val (.int (rows.length : Int)), s7] := by
 refine pK (xs := List.range ((rows.headD []).length : Int).toNat) (en := fun (i : Nat) => .int (0 + (i : Int))) (r := fun (x : Nat) => ((List.range (rows.length : Int).toNat).filter fun y => lit rows x y).map fun (y : Nat) => eT [a + (0 + (x : Int)), b + (0 + (y : Int))]) (by rw [List.length_range, Int.toNat_natCast]; lia) (fun x hx ys A B hA => ?_) ?_
 ·dsimp only [aZ, List.replicate, List.map_cons, List.map_nil, List.cons_append, List.nil_append]
  have hx' : x < (rows.headD []).length := by have := List.mem_range.mp hx; lia
  walk_at "rd"
  refine pL (xs := List.range (rows.length : Int).toNat) (en := fun (i : Nat) => .int (0 + (i : Int))) (f := fun (y : Nat) => eT [a + (0 + (x : Int)), b + (0 + (y : Int))]) (p := fun y => lit rows x y) (by rw [List.length_range, Int.toNat_natCast]; lia) (fun y hy A B hA hB => ?_) ?_
  ·have hy' : y < rows.length := by have := List.mem_range.mp hy; lia
   obtain ⟨rl, _⟩ := lZ.mp g3 rows[y] (List.getElem_mem hy')
   walk_at "rd"
   refine dW rfl rfl (by rw [Int.zero_add]; exact xD (i := y) (List.getElem?_eq_getElem hy')) ?_
   walk_at "rd"
   have hxl : x < rows[y].length := by lia
   refine om (c := rows[y][x]) (by rw [aS]; exact bC (by lia)) (by rw [aB, Int.zero_add]; exact jQ (List.getElem?_eq_getElem hxl)) ?_
   walk_at "rd"
   have el : decide ((⟨#[rows[y][x]]⟩ : Str) = Str.ofString "#") = lit rows x y := by
    unfold lit
    rw [List.getD_eq_getElem?_getD, List.getElem?_eq_getElem hy']
    show _ = decide (rows[y][x]? = some 35)
    rw [List.getElem?_eq_getElem hxl]
    exact decide_eq_decide.mpr ⟨fun z => by have := congrArg (fun s : Str => s.cps.toList) (z.trans (show Str.ofString "#" = ⟨#[35]⟩ from rfl)); simpa using this, fun z => by rw [Option.some.inj z]; rfl⟩
   rw [el]
   cases hl : lit rows x y with
   | true =>
    refine iH (fun _ => ?_) (fun e => nomatch e)
    walk_at "rd"
    exact hA _ rfl hl
   | false =>
    refine iH (fun e => nomatch e) (fun _ => ?_)
    exact hB _ rfl hl
  ·walk_at "rd"
   exact hA _ rfl
 ·rw [Int.toNat_natCast, Int.toNat_natCast]
  have e : (cm (rows.headD []).length rows.length rows a b).map eT = (List.range (rows.headD []).length).flatMap fun (x : Nat) => ((List.range rows.length).filter fun y => lit rows x y).map fun (y : Nat) => eT [a + (0 + (x : Int)), b + (0 + (y : Int))] := by
   unfold cm
   rw [List.map_flatMap]
   congr 1
   funext x
   rw [List.map_map]
   refine List.map_congr_left fun y _ => ?_
   rw [Int.zero_add, Int.zero_add]
   rfl
  rw [<- e]
  exact h
theorem C3 {t1 : Tok} (S : Src K mg "read_picture" cg) (T : Txt mg) (e13_ : Has P w K mg base 2 "read_cell" ["text"] (spP K CU)) (e17_ : Has P w K mg base 1 "is_row" ["wide", "text"] (spP K CW)) (e16_ : Has P w K mg base 4 "is_picture" ["thing"] (spP K tJ)) (e2_ : Has P w K mg base 1 "box_of" ["picture"] (spP K vZ)) (g_MOST_SIDE : mg "MOST_SIDE" = some (.int 40 t1)) : Has P w K mg base 5 "read_picture" ["text"] (spP K pRp) := by
 refine cF S bh (by walk_at "1") (fun ds R zq1 => by obtain ⟨_, _, e, _⟩ := zq1; rw [e]; rfl) fun f cdv A outer s H E hr => ⟨_, _, (ai (bw (bU (b8 (ay (eY (K := K) rfl) eX (by rfl) T.isinstance_ aL (ae (aa 0 (pv 0)) (ae (ck (bZ (v := .ty "str") (by rfl) T.str_ mK rfl) (fun _ _ => .ty _)) af))))) (ao cD) aN)
  (ai (bw (aJ eU jb (aa 0 (pv 0)) aM (aF _)) (ao (aH (aT (cf af)))) aN)
  (ai (aA (i := 1) bh.nd rfl (Or.inl rfl) (aT (iR rfl rfl (aa 0 (pv 0)) aM)))
  (ai (bw (aJ je pq (ay (gx (K := K) rfl) gv (by rfl) T.len_ cR (ae (aa 1 (pv 1)) af)) ah (aF _)) (ao cD) aN)
  (ai (iu (bA e13_ hr (ae (bj rfl (aa 1 (pv 1)) ah (fun _ _ => rfl)) af)) (dH (n := 2) rfl rfl (aP (az (aw (i := 2) bh.nd rfl (Or.inr rfl) (Or.inl rfl))) (aP (az (aw (i := 3) bh.nd rfl (Or.inr rfl) (Or.inl rfl))) cL))))
  (ai (aA (i := 4) bh.nd rfl (Or.inr rfl) (aT (iR rfl rfl (bj rfl (aa 1 (pv 1)) ah (fun _ _ => rfl)) aM)))
  (ai (iu (b9 (ae (ay dB mS (by rfl) T.len_ cR (ae (bj rfl (aa 4 (pv 4)) ah (fun _ _ => rfl)) af)) (ae (ay (gx (K := K) rfl) gv (by rfl) T.len_ cR (ae (aa 4 (pv 4)) af)) af))) (dH (n := 2) rfl rfl (aP (az (aw (i := 5) bh.nd rfl (Or.inr rfl) (Or.inl rfl))) (aP (az (aw (i := 6) bh.nd rfl (Or.inr rfl) (Or.inl rfl))) cL))))
  (ai (bw (du (cJ (aJ d9 aC (aa 5 (pv 5)) (ck (cy (v := .int 40) (by rfl) g_MOST_SIDE ⟨_, rfl⟩) (fun _ _ => .int _)) (aF _)) (cJ (aJ d9 aC (aa 6 (pv 6)) (ck (cy (v := .int 40) (by rfl) g_MOST_SIDE ⟨_, rfl⟩) (fun _ _ => .int _)) (aF _)) (cu (bU (b8 (ay (lI (K := K) rfl rfl) lK (by rfl) T.all_ iG (ae (aT (bF (tg := ["row"]) (cs := ["wide"]) (ix := [5]) (aI (aj cg) ["text", "words", "left", "top", "rows", "wide", "high", "cells"] (by decide +kernel)) rfl (aG (by decide)) (by decide) (bL rfl (aa 4 (pv 4))) (fun _ _ _ _ => (az (aw (i := 0) (show (["row", "wide"] : List Str).Nodup by decide +kernel) rfl (Or.inl rfl) (by first | exact Or.inl rfl | exact Or.inr rfl)))) (fun _ _ _ _ => aX) (fun _ _ _ _ => (bA e17_ hr (ae (aa 1 (pv 1)) (ae (aa 0 (pv 0)) af)))))) af)))))))) (ao cD) aN)
  (ai (pI (ii := 7) (tg := ["x", "y"]) (cs := ["left", "top", "high", "rows"]) (ix := [2, 3, 6, 4]) bh.nd rfl (Or.inl rfl) (Or.inl rfl) (aI (aj cg) ["text", "words", "left", "top", "rows", "wide", "high", "cells"] (by decide +kernel)) rfl (ko (by decide) (by decide) (by decide)) (by decide) (bB rfl T.range (ae (aa 5 (pv 5)) af)) (fun _ _ _ _ => (az (aw (i := 0) (show (["x", "y", "left", "top", "high", "rows"] : List Str).Nodup by decide +kernel) rfl (Or.inl rfl) (by first | exact Or.inl rfl | exact Or.inr rfl)))) (fun _ _ _ _ => aX) (fun _ _ _ _ => (bB rfl T.range (ae (aa 4 (pv 4)) af))) (fun _ _ _ _ => (az (aw (i := 1) (show (["x", "y", "left", "top", "high", "rows"] : List Str).Nodup by decide +kernel) rfl (Or.inl rfl) (by first | exact Or.inl rfl | exact Or.inr rfl)))) (fun _ _ _ _ => (uw (aJ eU jb (sE rfl (bj rfl (aa 5 (pv 5)) (aa 1 (pv 1)) (fun _ _ => rfl)) (aa 0 (pv 0)) (fun _ _ => rfl)) aM (aF _)))) (fun _ _ _ _ => (b9 (ae (aq aW aC (aa 2 (pv 2)) (aa 0 (pv 0))) (ae (aq aW aC (aa 3 (pv 3)) (aa 1 (pv 1))) af)))))
  (ai (bw (du (cJ (bU (b8 (bA e16_ hr (ae (aa 7 (pv 7)) af)))) (cu (aJ (j8 (K := K) rfl hr.units) gw (bA e2_ hr (ae (aa 7 (pv 7)) af)) (b9 (ae (aa 2 (pv 2)) (ae (aa 3 (pv 3)) (ae (aa 5 (pv 5)) (ae (aa 6 (pv 6)) af))))) (aF _))))) (ao cD) aN)
  (ao (aH (bT (aa 7 (pv 7))))))))))))))), ?_⟩
 rintro ds R ⟨l, cs, rfl, hl, hr', q⟩
 walk_at "sl"
 walk_at "rc"
 rcases tL hr' with ⟨rfl, rfl⟩ | ⟨h0, w0, w1, e, h1, h2, rfl⟩
 ·rw [show decide (mk [45] = Str.ofString "-") = true from decide_eq_true rfl]
  walk_at "rc"
  exact q
 ·rw [show decide (mk l = Str.ofString "-") = false from decide_eq_false fun z => h0 (mk_inj.mp (z.trans (show Str.ofString "-" = mk [45] from rfl)))]
  have hz := kL 32 (z := mk l) (n := 10000) (by rw [aS]; exact hl)
  rw [e] at hz
  have l0 := hz.2 w0 (by simp)
  have l1 := hz.2 w1 (by simp)
  have hy := kL 47 (z := mk w1) (n := 10000) (by rw [aS]; exact l1)
  have ne := tw 47 (mk w1)
  have es := fR 47 (mk w1)
  walk_at "rc"
  refine mV (ws := [mk w0, mk w1]) (by rw [aS]; exact bC (by lia)) rfl (by rw [show Str.ofString " " = mk [32] from rfl, fR, e]; rfl) (bC (show 2 <= 1000000 by decide)) ?_
  walk_at "rc"
  refine ⟨w0, rfl, by lia, h1, ?_⟩
  walk_at "rc"
  generalize prt 47 (mk w1) = rows at *
  refine mV (ws := rows.map mk) (by rw [aS]; exact bC (by lia)) rfl es (by rw [List.length_map]; exact bC (by lia)) ?_
  rw [Az]
  obtain ⟨r0, rr, er⟩ : ∃ r0 rr, rows = r0 :: rr := by
   match rows, ne with
   | a :: b, _ => exact ⟨a, b, rfl⟩
  have hd : (rows.headD []).length = r0.length := by rw [er]; rfl
  have lr0 := hy.2 r0 (by rw [er]; exact List.mem_cons_self)
  walk_at "rc"
  refine dW rfl rfl (xD (i := 0) (by rw [er]; rfl)) ?_
  walk_at "rc"
  refine mT (by rw [aS]; exact bC (by lia)) ?_
  rw [aS]
  walk_at "rc"
  rw [Ay, <- hd]
  generalize (celOf w0).1 = a at *
  generalize (celOf w0).2 = b at *
  unfold okR at h2
  simp only [Bool.and_eq_true, decide_eq_true_eq, Bool.not_eq_true', List.all_eq_true] at h2
  obtain ⟨⟨⟨⟨⟨g1, g2⟩, g3⟩, g4⟩, g5⟩, g6⟩ := h2
  rw [show decide ((40 : Int) < ((rows.headD []).length : Int)) = false from decide_eq_false (by lia)]
  walk_at "rc"
  rw [show decide ((40 : Int) < (rows.length : Int)) = false from decide_eq_false (by lia)]
  walk_at "rc"
  refine comp_map (xs := rows) (en := fun w => .str (mk w)) (f := fun r => D.bl (decide ((r.length : Int) = ((rows.headD []).length : Int)) && r.all sgn)) (by lia) (fun r hr A B hA => ?_) ?_
  ·dsimp only [aZ, List.replicate, List.map_cons, List.map_nil, List.cons_append, List.nil_append]
   walk_at "rd"
   refine ⟨_, r, rfl, by have := hy.2 r hr; lia, ?_⟩
   walk_at "rd"
   exact hA _ rfl
  walk_at "rd"
  refine all_map rows _ ?_
  rw [tN, g3]
  walk_at "rc"
  refine mZ g3 g1 g2 ?_
  have hpc : Pc (cm (rows.headD []).length rows.length rows a b) := ⟨C1, Nat.le_trans (AA _ _ _ _ _) (Nat.le_trans (Nat.mul_le_mul g1 g2) (by decide))⟩
  walk_at "rc"
  refine ⟨_, rfl, hpc, tM _ _ _ _ _, ?_⟩
  rw [List.all_eq_true.mpr g5]
  walk_at "rc"
  refine ⟨_, rfl, hpc, fun z => ?_, fun _ => ?_⟩
  ·rw [z] at g4; cases g4
  walk_at "rd"
  change fY true (eT (bx _)) (eT [a, b, ((rows.headD []).length : Int), (rows.length : Int)]) _
  refine nQ et g6 ?_
  walk_at "rc"
  exact q
end
end My
namespace My
open PySem L2 VL
theorem fu : ∀ l : List Nat, Str.join (Str.ofString "") (l.map fun c => mk [c]) = mk l
 | [] => rfl
 | [c] => rfl
 | c :: d :: r => by
  have ih := fu (d :: r)
  show mk [c] ++ Str.ofString "" ++ Str.join (Str.ofString "") ((d :: r).map fun c => mk [c]) = _
  rw [ih, show Str.ofString "" = mk [] from rfl, i6, i6]
  rfl
def Shw (mss : List (List Int)) : Prop := mxI (mss.map fs) - mnI (mss.map fs) <= 39 /\ mxI (mss.map sn) - mnI (mss.map sn) <= 39
def oG (ds : List D) (R : D -> Prop) : Prop := ∃ mss, ds = [eL mss] /\ Pc mss /\ (mss = [] -> R (.str "-")) /\ (mss ≠ [] -> Shw mss /\ (mnI (mss.map fs)).natAbs < 10 ^ 61 /\ (mnI (mss.map sn)).natAbs < 10 ^ 61 /\ R (.str (mk (txt mss))))
theorem me {n : Int} (h : n.natAbs < 10 ^ 61) : n.natAbs.log2 < 1920 := by
 by_cases h0 : n.natAbs = 0
 ·rw [h0]; decide
 ·exact (Nat.log2_lt h0).mpr (Nat.lt_of_lt_of_le h (by decide))
section
variable {P : Program} {w : World} {K : PySem.W.Frag} {mg : Str -> Option Value} {base : Heap}
theorem wa {t1 : Tok} (S : Src K mg "show_picture" aU) (T : Txt mg) (e2_ : Has P w K mg base 1 "box_of" ["picture"] (spP K vZ)) (g_MOST_SIDE : mg "MOST_SIDE" = some (.int 40 t1)) : Has P w K mg base 2 "show_picture" ["picture"] (spP K oG) := by
 refine cF S aE (by walk_at "1") (fun ds R zq1 => by obtain ⟨_, e, _⟩ := zq1; rw [e]; rfl) fun f cdv A outer s H E hr => ⟨_, _, (ai (aA (i := 1) aE.nd rfl (Or.inl rfl) (bA e2_ hr (ae (aa 0 (pv 0)) af)))
  (ai (bw (aJ ml qG (aa 1 (pv 1)) fW (aF _)) (ao (aH aM)) aN)
  (ai (iu (aa 1 (pv 1)) (dH (n := 4) rfl rfl (aP (az (aw (i := 2) aE.nd rfl (Or.inr rfl) (Or.inl rfl))) (aP (az (aw (i := 3) aE.nd rfl (Or.inr rfl) (Or.inl rfl))) (aP (az (aw (i := 4) aE.nd rfl (Or.inr rfl) (Or.inl rfl))) (aP (az (aw (i := 5) aE.nd rfl (Or.inl rfl) (Or.inl rfl))) cL))))))
  (ai (bw (du (cJ (aJ d9 aC (aa 4 (pv 4)) (ck (cy (v := .int 40) (by rfl) g_MOST_SIDE ⟨_, rfl⟩) (fun _ _ => .int _)) (aF _)) (cu (aJ d9 aC (aa 5 (pv 5)) (ck (cy (v := .int 40) (by rfl) g_MOST_SIDE ⟨_, rfl⟩) (fun _ _ => .int _)) (aF _))))) (ao cD) aN)
  (ai (nR (fun _ h => gX (i := 6) aE.nd rfl (Or.inr rfl) h) (nV (tg := ["cell"]) (cs := []) (ix := []) rfl hr.units (aI (aj aU) ["picture", "box", "left", "top", "wide", "high", "living", "rows"] (by decide +kernel)) rfl (aG (by decide)) (by decide) (bL rfl (aa 0 (pv 0))) (fun _ _ _ _ => (az (aw (i := 0) (show (["cell"] : List Str).Nodup by decide +kernel) rfl (Or.inl rfl) (by first | exact Or.inl rfl | exact Or.inr rfl)))) (fun _ _ _ _ => aX) (fun _ _ _ _ => (aa 0 (pv 0))) (fun _ _ _ _ => fG)))
  (ai (jH (ii := 7) (yc := "y") (tg := ["y"]) (cs := ["living", "wide", "left", "top"]) (ix := [6, 4, 2, 3]) aE.nd rfl (Or.inl rfl) (Or.inl rfl) (gz (y := "y") (aj aU) ["picture", "box", "left", "top", "wide", "high", "living", "rows"] 1 (by decide +kernel)) rfl (aG (by decide)) (by decide) (bB rfl T.range (ae (aa 5 (pv 5)) af)) (fun _ _ _ _ => (az (aw (i := 0) (show (["y", "living", "wide", "left", "top"] : List Str).Nodup by decide +kernel) rfl (Or.inr rfl) (by first | exact Or.inl rfl | exact Or.inr rfl)))) (fun _ _ _ _ => aX) (fun _ _ _ _ => (fM rfl aM (bF (tg := ["x"]) (cs := ["living", "left", "top", "y"]) (ix := [1, 3, 4, 0]) (fO (ow ((bu aU).getD 5 (.Pass ⟨0, 0, 0, 0⟩))) ["y", "living", "wide", "left", "top"] (by decide +kernel)) rfl (aG (by decide)) (by decide) (bB rfl T.range (ae (aa 2 (pv 2)) af)) (fun _ _ _ _ => (az (aw (i := 0) (show (["x", "living", "left", "top", "y"] : List Str).Nodup by decide +kernel) rfl (Or.inl rfl) (by first | exact Or.inl rfl | exact Or.inr rfl)))) (fun _ _ _ _ => aX) (fun _ _ _ _ => (lp (aJ (xi (K := K) rfl hr.units) xh (b9 (ae (aq aW aC (aa 2 (pv 2)) (aa 0 (pv 0))) (ae (aq aW aC (aa 3 (pv 3)) (aa 4 (pv 4))) af))) (aa 1 (pv 1)) (by with_unfolding_all rfl)) aM aM))))))
  (ao (aH (aq bD dJ (pN (gQ (sJ (aa 2 (pv 2))) (gQ aM (gQ (sJ (aa 3 (pv 3))) (gQ aM Aa))))) (n5 rfl aM (aa 7 (pv 7)))))))))))), ?_⟩
 rintro ds R ⟨mss, rfl, hp, q0, q1⟩
 walk_at "sl"
 walk_at "rd"
 refine ⟨mss, rfl, hp, fun e0 => ?_, fun h0 => ?_⟩
 ·walk_at "rc"
  exact q0 e0
 obtain ⟨⟨hW, hH⟩, na, nb, q⟩ := q1 h0
 unfold bx txt at *
 have p1 := cX (bJ (show mss.map fs ≠ [] by simpa using h0))
 have p2 := cX (bJ (show mss.map sn ≠ [] by simpa using h0))
 generalize hWi : mxI (mss.map fs) - mnI (mss.map fs) + 1 = Wi at *
 generalize hHi : mxI (mss.map sn) - mnI (mss.map sn) + 1 = Hi at *
 generalize mxI (mss.map fs) = Mx at *
 generalize mxI (mss.map sn) = My at *
 generalize mnI (mss.map fs) = a at *
 generalize mnI (mss.map sn) = b at *
 walk_at "rc"
 rw [show decide ((40 : Int) < Wi) = false from decide_eq_false (by lia)]
 walk_at "rc"
 rw [show decide ((40 : Int) < Hi) = false from decide_eq_false (by lia)]
 walk_at "rc"
 refine pJ (xs := mss) (en := eT) (ky := fun p => p) (f := fun _ => .bl true) (by have := hp.2; lia) (fun p hp A B hA => ?_) ?_
 ·dsimp only [aZ, List.replicate, List.map_cons, List.map_nil, List.cons_append, List.nil_append]
  walk_at "rc"
  exact hA _ rfl
 have hal : ∀ c : List Int, decide (c ∈ (mss.foldl (fun kvs x => fj kvs x (D.bl true)) []).map (·.1)) = decide (c ∈ mss) := fun c => by
  congr 1
  exact propext ((jE (ky := fun p => p) (f := fun _ => D.bl true) mss []).trans (by simp))
 generalize mss.foldl (fun kvs x => fj kvs x (D.bl true)) [] = kvs at hal ⊢
 walk_at "rc"
 obtain ⟨W, eW⟩ : ∃ n : Nat, Wi = (n : Int) := ⟨Wi.toNat, by lia⟩
 obtain ⟨Hh, eH⟩ : ∃ n : Nat, Hi = (n : Int) := ⟨Hi.toNat, by lia⟩
 have eW' : Wi.toNat = W := by lia
 have eH' : Hi.toNat = Hh := by lia
 rw [eW', eH'] at q
 rw [eH']
 have tj : ∀ (s : Str) (ws : List Str), Txt.join s ws = Str.join s ws := fun s ws => StrLaws.glued_eq_join _ _
 have lapp : ∀ x y : Str, (x ++ y).length = x.length + y.length := fun x y => by
  show (x.cps ++ y.cps).size = _
  rw [Array.size_append]; rfl
 refine comp_map (xs := List.range Hh) (en := fun (i : Nat) => .int (0 + (i : Int))) (f := fun (y : Nat) => .str (mk ((List.range W).map fun (x : Nat) => if [a + (x : Int), b + (y : Int)] ∈ mss then 35 else 46))) (by rw [List.length_range]; lia) (fun y hy A B hA => ?_) ?_
 ·dsimp only [aZ, List.replicate, List.map_cons, List.map_nil, List.cons_append, List.nil_append]
  walk_at "rd"
  rw [eW']
  refine comp_map (xs := List.range W) (en := fun (i : Nat) => .int (0 + (i : Int))) (f := fun (x : Nat) => .str (mk [if [a + (x : Int), b + (y : Int)] ∈ mss then 35 else 46])) (by rw [List.length_range]; lia) (fun x hx A B hA => ?_) ?_
  ·dsimp only [aZ, List.replicate, List.map_cons, List.map_nil, List.cons_append, List.nil_append]
   walk_at "rd"
   refine zB (ms := [a + (0 + (x : Int)), b + (0 + (y : Int))]) rfl rfl ?_
   rw [if_neg Bool.false_ne_true, hal, Int.zero_add, Int.zero_add]
   by_cases hc : [a + (x : Int), b + (y : Int)] ∈ mss
   ·rw [decide_eq_true hc]
    rw [if_pos hc] at hA
    walk_at "rc"
    exact hA _ rfl
   ·rw [decide_eq_false hc]
    rw [if_neg hc] at hA
    walk_at "rc"
    exact hA _ rfl
  have ez : ((List.range W).map fun (x : Nat) => D.str (mk [if [a + (x : Int), b + (y : Int)] ∈ mss then 35 else 46])) = (((List.range W).map fun (x : Nat) => if [a + (x : Int), b + (y : Int)] ∈ mss then 35 else 46).map fun c => mk [c]).map D.str := by rw [List.map_map, List.map_map]; rfl
  have ll : ((List.range W).map fun (x : Nat) => if [a + (x : Int), b + (y : Int)] ∈ mss then 35 else 46).length = W := by simp
  generalize ((List.range W).map fun (x : Nat) => if [a + (x : Int), b + (y : Int)] ∈ mss then 35 else 46) = row at ez ll hA
  have hsum : ∀ l : List Nat, ((l.map fun c => mk [c]).map fun z : Str => z.length).sum = l.length := fun l => by
   induction l with
   | nil => rfl
   | cons c l ih => rw [List.map_cons, List.map_cons, List.sum_cons, ih, aS, List.length_cons, List.length_cons, List.length_nil]; lia
  refine mU (zs := row.map fun c => mk [c]) ez (PyProof.Rows.joinOk_of (by rw [hsum, ll, show (Str.ofString "").length = 0 from rfl, Nat.mul_zero]; lia)) ?_
  rw [tj, fu]
  walk_at "rd"
  exact hA _ rfl
 walk_at "rd"
 have la : (wr a).length <= 62 := de (by decide) na
 have lb : (wr b).length <= 62 := de (by decide) nb
 refine og (me na) ?_
 have e0 : Str.empty ++ Str.ofString (toString a) = wr a := cN (by rw [bf]; rfl)
 refine oe (by rw [e0]; exact bC (by lia)) ?_
 rw [e0]
 have l1 : (Str.ofString ",").length = 1 := rfl
 have l2 : (Str.ofString " ").length = 1 := rfl
 walk_at "rd"
 refine oe (by rw [lapp]; exact bC (by lia)) ?_
 walk_at "rd"
 refine og (me nb) ?_
 rw [show Str.ofString (toString b) = wr b from rfl]
 refine oe (by rw [lapp, lapp]; exact bC (by lia)) ?_
 walk_at "rd"
 refine oe (by rw [lapp, lapp, lapp]; exact bC (by lia)) ?_
 refine DF (by rw [lapp, lapp, lapp]; exact bC (by lia)) ?_
 walk_at "rd"
 have hz : ((List.range Hh).map fun (y : Nat) => D.str (mk ((List.range W).map fun (x : Nat) => if [a + (x : Int), b + (y : Int)] ∈ mss then 35 else 46))) = ((grd mss a b W Hh).map mk).map D.str := by
  unfold grd
  rw [List.map_map, List.map_map]
  rfl
 have gl : ∀ w ∈ (grd mss a b W Hh).map mk, w.length = W := fun w hw => by
  obtain ⟨v, hv, rfl⟩ := List.mem_map.mp hw
  unfold grd at hv
  obtain ⟨y, _, rfl⟩ := List.mem_map.mp hv
  rw [aS]
  simp
 have sl : ∀ ws : List Str, (∀ w ∈ ws, w.length = W) -> (ws.map (·.length)).sum = ws.length * W := fun ws => by
  induction ws with
  | nil => simp
  | cons w ws ih =>
   intro h
   rw [List.map_cons, List.sum_cons, ih fun v hv => h v (List.mem_cons_of_mem _ hv), h w List.mem_cons_self, List.length_cons, Nat.succ_mul]
   lia
 have gh : ((grd mss a b W Hh).map mk).length = Hh := by unfold grd; simp
 have hHW : Hh * W <= 40 * 40 := Nat.mul_le_mul (by lia) (by lia)
 refine sR (zs := (grd mss a b W Hh).map mk) (by rw [<- hz]; rfl) (PyProof.Rows.joinOk_of (by rw [sl _ gl, gh, show (Str.ofString "/").length = 1 from rfl]; lia)) ?_
 have ej : (Txt.join (Str.ofString "/") ((grd mss a b W Hh).map mk)).cps.toList = jl 47 (grd mss a b W Hh) := by
  rw [tj, show Str.ofString "/" = ⟨#[47]⟩ from rfl, fN, List.map_map]
  congr 1
  conv => rhs; rw [<- List.map_id (grd mss a b W Hh)]
  exact List.map_congr_left fun w _ => aB w
 have lj : (Txt.join (Str.ofString "/") ((grd mss a b W Hh).map mk)).length <= 20000 := by
  show Array.size _ <= _
  rw [<- Array.length_toList, ej]
  have := fS (c := 47) (W := W) (ws := grd mss a b W Hh) fun w hw => by
   have := gl (mk w) (List.mem_map.mpr ⟨w, hw, rfl⟩)
   rw [aS] at this
   lia
  rw [List.length_map] at gh
  rw [gh, Nat.mul_add] at this
  lia
 walk_at "rd"
 refine dr (bC (by rw [lapp, lapp, lapp]; lia)) ?_
 walk_at "rd"
 have fin : wr a ++ Str.ofString "," ++ wr b ++ Str.ofString " " ++ Txt.join (Str.ofString "/") ((grd mss a b W Hh).map mk) = mk ((wr a).cps.toList ++ 44 :: ((wr b).cps.toList ++ 32 :: jl 47 (grd mss a b W Hh))) := cN (by
  rw [bf, bf, bf, bf, ej, aB, show (Str.ofString ",").cps.toList = [44] from rfl, show (Str.ofString " ").cps.toList = [32] from rfl]
  simp)
 rw [fin]
 exact q
end
end My
namespace My
open PySem L2 VL
def dg (m : Nat) : List Nat := if m = 0 then [] else (Nat.toDigits 10 m).map Char.toNat
theorem tO : ∀ d : Nat, d < 10 -> (Nat.digitChar d).toNat = 48 + d := by decide
theorem wb {m : Nat} (h : 0 < m) : dg m = dg (m / 10) ++ [48 + m % 10] := by
 unfold dg
 rw [if_neg (by lia)]
 by_cases h10 : m < 10
 ·rw [if_pos (by lia), Nat.toDigits_of_lt_base h10, List.map_cons, List.map_nil, tO m h10, Nat.mod_eq_of_lt h10]
  rfl
 ·rw [if_neg (by lia), Nat.toDigits_of_base_le (by decide) (by lia), List.map_append, List.map_cons, List.map_nil, tO _ (Nat.mod_lt _ (by decide))]
theorem we (n : Int) : figs n = dg n.natAbs ++ if n.natAbs = 0 then [48] else [] := by
 unfold figs dg
 by_cases h : n.natAbs = 0
 ·rw [if_pos h, if_pos h, h]; rfl
 ·rw [if_neg h, if_neg h, List.append_nil]
theorem wg : ∀ d : Nat, d < 10 -> atI (Str.ofString "0123456789").cps.toList (d : Int) = some (48 + d) := by decide
def pWr (ds : List D) (R : D -> Prop) : Prop := ∃ n : Int, ds = [.int n] /\ n.natAbs < 10 ^ 61 /\ R (.str (wr n))
def bdW (c : Addr) : List D -> Addr -> Prop := fun ds C => ∃ mss, ds = [eL mss] /\ Pc mss /\ mss ≠ [] /\ ¬Shw mss /\ C = c
def C4 (ds : List D) (R : D -> Prop) : Prop := ∃ mss, ds = [eL mss] /\ Pc mss /\ mss ≠ [] /\ ¬Shw mss /\ R (.bl true)
section
variable {P : Program} {w : World} {K : PySem.W.Frag} {mg : Str -> Option Value} {base : Heap}
theorem tP {c_TooWide : Addr} {t1 : Tok} (S : Src K mg "show_picture" aU) (T : Txt mg) (e2_ : Has P w K mg base 1 "box_of" ["picture"] (spP K vZ)) (g_MOST_SIDE : mg "MOST_SIDE" = some (.int 40 t1)) (g_TooWide : mg "TooWide" = some (.ref c_TooWide)) (x_TooWide : PySem.W.excIn K c_TooWide [.type "ValueError", .type "Exception", .type "BaseException", .type "object"] "ValueError.__new__" = true) : uY P w K mg base 2 "show_picture" ["picture"] (bdW c_TooWide) := by
 refine Cs S aE (by walk_at "1") (fun ds C zq1 => by obtain ⟨_, e, _⟩ := zq1; rw [e]; rfl) fun f cdv A outer s H E hr TH => ⟨_, _, (iN (aA (i := 1) aE.nd rfl (Or.inl rfl) (bA e2_ hr (ae (aa 0 (pv 0)) af))) (iN (bw (aJ ml qG (aa 1 (pv 1)) fW (aF _)) (ao (aH aM)) aN) (iN (iu (aa 1 (pv 1)) (dH (n := 4) rfl rfl (aP (az (aw (i := 2) aE.nd rfl (Or.inr rfl) (Or.inl rfl))) (aP (az (aw (i := 3) aE.nd rfl (Or.inr rfl) (Or.inl rfl))) (aP (az (aw (i := 4) aE.nd rfl (Or.inr rfl) (Or.inl rfl))) (aP (az (aw (i := 5) aE.nd rfl (Or.inl rfl) (Or.inl rfl))) cL)))))) (Cr (du (cJ (aJ d9 aC (aa 4 (pv 4)) (ck (cy (v := .int 40) (by rfl) g_MOST_SIDE ⟨_, rfl⟩) (fun _ _ => .int _)) (aF _)) (cu (aJ d9 aC (aa 5 (pv 5)) (ck (cy (v := .int 40) (by rfl) g_MOST_SIDE ⟨_, rfl⟩) (fun _ _ => .int _)) (aF _))))) (rW TH PySem.F.excBase_ValueError x_TooWide g_TooWide rfl)
  (iN (nR (fun _ h => gX (i := 6) aE.nd rfl (Or.inr rfl) h) (nV (tg := ["cell"]) (cs := []) (ix := []) rfl hr.units (aI (aj aU) ["picture", "box", "left", "top", "wide", "high", "living", "rows"] (by decide +kernel)) rfl (aG (by decide)) (by decide) (bL rfl (aa 0 (pv 0))) (fun _ _ _ _ => (az (aw (i := 0) (show (["cell"] : List Str).Nodup by decide +kernel) rfl (Or.inl rfl) (by first | exact Or.inl rfl | exact Or.inr rfl)))) (fun _ _ _ _ => aX) (fun _ _ _ _ => (aa 0 (pv 0))) (fun _ _ _ _ => fG))) (iN (jH (ii := 7) (yc := "y") (tg := ["y"]) (cs := ["living", "wide", "left", "top"]) (ix := [6, 4, 2, 3]) aE.nd rfl (Or.inl rfl) (Or.inl rfl) (gz (y := "y") (aj aU) ["picture", "box", "left", "top", "wide", "high", "living", "rows"] 1 (by decide +kernel)) rfl (aG (by decide)) (by decide) (bB rfl T.range (ae (aa 5 (pv 5)) af)) (fun _ _ _ _ => (az (aw (i := 0) (show (["y", "living", "wide", "left", "top"] : List Str).Nodup by decide +kernel) rfl (Or.inr rfl) (by first | exact Or.inl rfl | exact Or.inr rfl)))) (fun _ _ _ _ => aX) (fun _ _ _ _ => (fM rfl aM (bF (tg := ["x"]) (cs := ["living", "left", "top", "y"]) (ix := [1, 3, 4, 0]) (fO (ow ((bu aU).getD 5 (.Pass ⟨0, 0, 0, 0⟩))) ["y", "living", "wide", "left", "top"] (by decide +kernel)) rfl (aG (by decide)) (by decide) (bB rfl T.range (ae (aa 2 (pv 2)) af)) (fun _ _ _ _ => (az (aw (i := 0) (show (["x", "living", "left", "top", "y"] : List Str).Nodup by decide +kernel) rfl (Or.inl rfl) (by first | exact Or.inl rfl | exact Or.inr rfl)))) (fun _ _ _ _ => aX) (fun _ _ _ _ => (lp (aJ (xi (K := K) rfl hr.units) xh (b9 (ae (aq aW aC (aa 2 (pv 2)) (aa 0 (pv 0))) (ae (aq aW aC (aa 3 (pv 3)) (aa 4 (pv 4))) af))) (aa 1 (pv 1)) (by with_unfolding_all rfl)) aM aM)))))) rV)))))), ?_⟩
 rintro ds C ⟨mss, rfl, hp, h0, hs, rfl⟩
 walk_at "sl"
 walk_at "rd"
 refine ⟨mss, rfl, hp, fun e0 => absurd e0 h0, fun _ => ?_⟩
 unfold bx Shw at *
 generalize hWi : mxI (mss.map fs) - mnI (mss.map fs) + 1 = Wi at *
 generalize hHi : mxI (mss.map sn) - mnI (mss.map sn) + 1 = Hi at *
 generalize mxI (mss.map fs) = Mx at *
 generalize mxI (mss.map sn) = My at *
 generalize mnI (mss.map fs) = a at *
 generalize mnI (mss.map sn) = b at *
 walk_at "rc"
 by_cases hW : (40 : Int) < Wi
 ·rw [show decide ((40 : Int) < Wi) = true from decide_eq_true hW]
  walk_at "rc"
  rw [if_pos rfl]
  trivial
 ·rw [show decide ((40 : Int) < Wi) = false from decide_eq_false hW]
  walk_at "rc"
  rw [show decide ((40 : Int) < Hi) = true from decide_eq_true (by lia)]
  walk_at "rc"
  rw [if_pos rfl]
  trivial
theorem C5 (S : Src K mg "_law_written" gj) (T : Txt mg) : Has P w K mg base 1 "_law_written" ["_law_number_here"] (spP K pWr) := by
 refine cF S cW (by walk_at "1") (fun ds R zq1 => by obtain ⟨_, e, _⟩ := zq1; rw [e]; rfl) fun f cdv A outer s H E hr => ⟨_, _, (ai (aA (i := 1) cW.nd rfl (Or.inl rfl) (ay gZ qI (by rfl) T.abs_ mz (ae (aa 0 (pv 0)) af)))
  (ai (aA (i := 2) cW.nd rfl (Or.inl rfl) (bj rfl (aT (cf (ae aM (ae aM af)))) (eQ jg wN (by rfl) T.int_ hU (ae (b7 eU jb (aa 1 (pv 1)) ah (aF _)) af)) (fun _ _ => rfl)))
  (ai (rX PassesOwn.never (aJ d9 aC (aa 1 (pv 1)) ah (aF _)) (ai (aA (i := 2) cW.nd rfl (Or.inl rfl) (aq bD dJ (sE rfl aM (aq cP bI (aa 1 (pv 1)) ah) (fun _ _ => rfl)) (aa 2 (pv 2))))
  (ao (aA (i := 1) cW.nd rfl (Or.inl rfl) (aq gK bI (aa 1 (pv 1)) ah)))))
  (ao (aH (aq bD dJ (bj rfl (aT (cf (ae aM (ae aM af)))) (eQ jg wN (by rfl) T.int_ hU (ae (b7 kN aC (aa 0 (pv 0)) ah (aF _)) af)) (fun _ _ => rfl)) (aa 2 (pv 2)))))))), ?_⟩
 rintro ds R ⟨n, rfl, hn, q⟩
 walk_at "sl"
 walk_at "rd"
 refine .inr ⟨_, rfl, ?_⟩
 have eab : (if n < 0 then -n else n) = (n.natAbs : Int) := by split <;> lia
 rw [eab]
 have hlen : (figs n).length <= 61 := lR (by decide) hn
 have hx : atI [D.str (Str.ofString ""), D.str (Str.ofString "0")] (if decide ((n.natAbs : Int) = 0) = true then 1 else 0) = some (.str (mk (if n.natAbs = 0 then [48] else []))) := by
  by_cases h : n.natAbs = 0
  ·rw [if_pos h, h]; rfl
  ·rw [if_neg h, decide_eq_false (by lia)]; rfl
 refine dW rfl rfl hx ?_
 walk_at "rd"
 refine ⟨fun k S => ∃ t, S = [.val (.int n), .val (.int (k : Int)), .val (.str (mk t))] /\ figs n = dg k ++ t, ⟨n.natAbs, _, rfl, we n⟩, ?_⟩
 rintro k S ⟨t, rfl, hf⟩
 have ht : t.length <= 61 := by rw [hf, List.length_append] at hlen; lia
 walk_at "rd"
 by_cases hk : 0 < k
 ·rw [show decide ((0 : Int) < (k : Int)) = true from decide_eq_true (by lia), if_pos rfl]
  walk_at "rd"
  have e1 : (k : Int) % 10 = ((k % 10 : Nat) : Int) := by lia
  simp only [ofV, e1]
  refine om (bC (show (10 : Nat) <= 1000000 by decide)) (wg _ (Nat.mod_lt _ (by decide))) ?_
  walk_at "rd"
  refine dr (bC (by rw [aS]; show 1 + _ <= _; lia)) ?_
  rw [show (⟨#[48 + k % 10]⟩ : Str) = mk [48 + k % 10] from rfl, i6]
  walk_at "rd"
  exact ⟨k / 10, by lia, _, by rw [show (k : Int) / 10 = ((k / 10 : Nat) : Int) by lia], by rw [hf, wb hk, List.append_assoc]⟩
 ·obtain rfl : k = 0 := by lia
  have hf : figs n = t := hf
  rw [show decide ((0 : Int) < ((0 : Nat) : Int)) = false from decide_eq_false (by lia), if_neg Bool.false_ne_true]
  walk_at "rd"
  refine .inr ⟨_, rfl, ?_⟩
  by_cases h : n < 0
  ·rw [decide_eq_true h]
   refine dW rfl rfl (show atI [D.str (Str.ofString ""), D.str (Str.ofString "-")] _ = some (.str (mk [45])) from rfl) ?_
   walk_at "rd"
   refine dr (bC (by rw [aS, aS]; show 1 + _ <= _; lia)) ?_
   walk_at "rd"
   rw [i6, <- hf]
   rw [kz h] at q
   exact q
  ·rw [decide_eq_false h]
   refine dW rfl rfl (show atI [D.str (Str.ofString ""), D.str (Str.ofString "-")] _ = some (.str (mk [])) from rfl) ?_
   walk_at "rd"
   refine dr (bC (by rw [aS, aS]; show 0 + _ <= _; lia)) ?_
   walk_at "rd"
   rw [i6, <- hf]
   rw [ku (by lia)] at q
   exact q
theorem AB {c_NoText c_CellError c_TooWide c_NoSize : Addr} (S : Src K mg "_law_refused" gk) (T : Txt mg) (EX_show_picture : uY P w K mg base 2 "show_picture" ["picture"] (bdW c_TooWide))
  (g_CellError : mg "CellError" = some (.ref c_CellError)) (g_TooWide : mg "TooWide" = some (.ref c_TooWide)) (g_NoSize : mg "NoSize" = some (.ref c_NoSize)) (g_NoText : mg "NoText" = some (.ref c_NoText)) (g_ValueError : mg "ValueError" = none)
  (s1 : PySem.W.exmOne K (.ref c_TooWide) (.ref c_CellError) = some true) (s2 : dX K c_TooWide = true) (s3 : PySem.W.kitOne K (.ref c_TooWide) (.ref c_TooWide) = some true) (s4 : PySem.W.kitOne K (.ref c_TooWide) (.type "ValueError") = some true) (s5 : PySem.W.kitAny K (.ref c_TooWide) [.ref c_NoSize, .ref c_NoText] = some false) : Has P w K mg base 3 "_law_refused" ["_law_live"] (spP K C4) := by
 refine cF S dQ (by walk_at "1") (fun ds R zq1 => by obtain ⟨_, e, _⟩ := zq1; rw [e]; rfl) fun f cdv A outer s H E hr => ⟨_, _, (ai (aA (i := 1) dQ.nd rfl (Or.inl rfl) fW)
  (ai (zG (i := 2) EX_show_picture rfl hr (ae (aa 0 (pv 0)) af) g_CellError (fun y => (ao (aA (i := 1) dQ.nd rfl (Or.inl rfl) (aa 2 (pv 2))))) (fun _ _ h => h) rfl rfl rfl dQ.nd rfl rfl)
  (ao (aH (cU (nU (i := 1) (c := .ref c_TooWide) rfl rfl (cy (by rfl) g_TooWide rfl) rfl (Or.inl rfl) (by rfl) T.isinstance_) (cU (nU (i := 1) (c := .type "ValueError") rfl rfl (bZ (by rfl) g_ValueError PyProof.Rows.Boot.«ValueError» rfl) rfl (Or.inl rfl) (by rfl) T.isinstance_) (fc (qH (uX (i := 1) rfl (nT g_NoSize (nT g_NoText rU)) (by simp) rfl (Or.inl rfl) (by rfl) T.isinstance_))))))))), ?_⟩
 rintro ds R ⟨mss, rfl, hp, h0, hs, q⟩
 walk_at "sl"
 walk_at "rd"
 unfold Ct
 walk_at "rd"
 refine ⟨Nat.le_of_ble_eq_true rfl, [eL mss], c_TooWide, rfl, ⟨mss, rfl, hp, h0, hs, rfl⟩, s1, ?_⟩
 dsimp only [List.set]
 walk_at "rd"
 refine ⟨Nat.le_of_ble_eq_true rfl, ?_⟩
 dsimp only [List.set]
 walk_at "rd"
 refine rY rfl s2 s3 ?_
 walk_at "rc"
 refine rY rfl s2 s4 ?_
 walk_at "rc"
 refine zI rfl s2 s5 ?_
 walk_at "rc"
 exact q
end
end My
namespace My
open PySem L2 VL
def N59 : Nat := 10 ^ 59
def pNu : List Int -> List D -> (D -> List Int -> Prop) -> Prop := fun pn ds R => ∃ b : Nat, ds = [] /\ Pn b pn /\ b <= 10000 /\ ∀ (x : Int) pn', x.natAbs + 60 <= N59 -> Pn (b + 4) pn' -> R (.int x) pn'
def mv (dx dy : Int) (ms : List Int) : List Int := match ms with
 | [x, y] => [x + dx, y + dy]
 | l => l
def tQ : List D -> (D -> Prop) -> Prop := fun ds R => ∃ mss dx dy, ds = [eL mss, eT [dx, dy]] /\ Pc mss /\ R (eL (mss.map (mv dx dy)))
def Lq (mss : List (List Int)) : Prop := mss.length <= 31 /\ Asc mss /\ ∀ c ∈ mss, ∃ x y : Int, c = [x, y] /\ x.natAbs < 2 * N59 /\ y.natAbs < 2 * N59
def pPi : List Int -> List D -> (D -> List Int -> Prop) -> Prop := fun pn ds R => ∃ b : Nat, ds = [] /\ Pn b pn /\ b <= 500 /\ ∀ mss pn', Lq mss -> Pn (b + 100) pn' -> R (eL mss) pn'
theorem AC {p q : List Int} (h : lexLe p q = true) (hn : p ≠ q) : HT.lexLt p q = true := by
 cases e : HT.lexLt p q with
 | true => rfl
 | false => exact absurd (ib _ _ h (by unfold lexLe; rw [e]; rfl)) hn
section
variable {P : Program} {w : World} {K : PySem.W.Frag} {mg : Str -> Option Value} {base : Heap}
theorem tR (S : Src K mg "moved" kG) (T : Txt mg) : Has P w K mg base 1 "moved" ["picture", "move"] (spP K tQ) := by
 refine cF S kH (by walk_at "2") (fun ds R zq1 => by obtain ⟨_, _, _, e, _⟩ := zq1; rw [e]; rfl) fun f cdv A outer s H E hr => ⟨_, _, (ai (iu (aa 1 (pv 1)) (dH (n := 2) rfl rfl (aP (az (aw (i := 2) kH.nd rfl (Or.inr rfl) (Or.inl rfl))) (aP (az (aw (i := 3) kH.nd rfl (Or.inr rfl) (Or.inl rfl))) cL))))
  (ao (aH (aT (bF (tg := ["x", "y"]) (cs := ["dx", "dy"]) (ix := [2, 3]) (aI (aj kG) ["picture", "move", "dx", "dy"] (by decide +kernel)) rfl (eN (by decide) (by decide)) (by decide) (bL rfl (aa 0 (pv 0))) (fun _ _ _ _ => (dH (n := 2) rfl rfl (aP (az (aw (i := 0) (show (["x", "y", "dx", "dy"] : List Str).Nodup by decide +kernel) rfl (Or.inl rfl) (by first | exact Or.inl rfl | exact Or.inr rfl))) (aP (az (aw (i := 1) (show (["x", "y", "dx", "dy"] : List Str).Nodup by decide +kernel) rfl (Or.inl rfl) (by first | exact Or.inl rfl | exact Or.inr rfl))) cL)))) (fun _ _ _ _ => aX) (fun _ _ _ _ => (b9 (ae (aq aW aC (aa 0 (pv 0)) (aa 2 (pv 2))) (ae (aq aW aC (aa 1 (pv 1)) (aa 3 (pv 3))) af))))))))), ?_⟩
 rintro ds R ⟨mss, dx, dy, rfl, hp, q⟩
 walk_at "sl"
 walk_at "rd"
 refine comp_map (f := fun m => eT (mv dx dy m)) (by have := hp.2; lia) (fun m hm A B hA => ?_) ?_
 ·obtain ⟨x, y, rfl⟩ := hp.1 m hm
  dsimp only [aZ, List.replicate, List.map_cons, List.map_nil, List.cons_append, List.nil_append]
  walk_at "rd"
  exact hA _ rfl
 ·walk_at "rd"
  rw [show mss.map (fun m => eT (mv dx dy m)) = (mss.map (mv dx dy)).map eT by rw [List.map_map]; rfl]
  exact q
theorem C6 (S : Src K mg "_law_number" iY) (T : Txt mg) (e0_ : Has P w K mg base 1 "_law_draw" ["_law_pen_here", "_law_many"] (spI K 0 oA)) : Has P w K mg base 2 "_law_number" ["_law_pen_here"] (spI K 0 pNu) := by
 refine nH 0 S jI (by walk_at "1") (fun ns ds R zq1 => by obtain ⟨_, e, _⟩ := zq1; rw [e]; rfl) fun f cdv A outer s H E hr => ⟨_, _, (ai (aA (i := 1) jI.nd rfl (Or.inl rfl) (bE e0_ hr (ae (aa 0 (pv 0)) (ae ah af))))
  (ai (bw (aJ kN aC (aa 1 (pv 1)) ah (aF _)) (ao (aH (aq bK aC (bE e0_ hr (ae (aa 0 (pv 0)) (ae ah af))) ah))) aN)
  (ai (bw (aJ eU jb (aa 1 (pv 1)) ah (aF _)) (ao (aH (aq bK aC (bE e0_ hr (ae (aa 0 (pv 0)) (ae (aq cG bI ah ah) af))) (aq dm bI ah (aq cG bI ah ah))))) aN)
  (ao (aH (aq dm bI (aq bK aC (aq bK aC (bj rfl (aT (cf (ae (aq cG bI ah ah) (ae (aq cG bI ah ah) af)))) (aq bK aC (aa 1 (pv 1)) ah) (fun _ _ => rfl)) ah) (bE e0_ hr (ae (aa 0 (pv 0)) (ae ah af)))) (aq bK aC ah (aq dm bI ah (bE e0_ hr (ae (aa 0 (pv 0)) (ae ah af))))))))))), ?_⟩
 rintro a pn ds es R hl ⟨b, e, hpn, hb, q⟩
 obtain rfl : ds = [] := List.eq_nil_of_length_eq_zero hl
 obtain rfl : es = [] := e
 have e59 : N59 = 100000000000000000000000000000000000000000000000000000000000 := by decide
 have e5 : (10 ^ Int.toNat 59 : Int) = 100000000000000000000000000000000000000000000000000000000000 := by decide
 have e4 : (10 ^ Int.toNat 40 : Int) = 10000000000000000000000000000000000000000 := by decide
 have e9 : (10 ^ Int.toNat 9 : Int) = 1000000000 := by decide
 have e8 : (10 ^ Int.toNat 8 : Int) = 100000000 := by decide
 rw [e59] at q
 walk_at "sl"
 walk_at "rd"
 refine ⟨b, 12, rfl, hpn, by lia, by lia, by lia, fun pn1 r1 h1 r1a r1b => ?_⟩
 walk_at "rd"
 refine eu (fun c1 => ?_) (fun c1 => ?_)
 ·walk_at "rd"
  refine ⟨b + 1, 9, rfl, h1, by lia, by lia, by lia, fun pn2 r2 h2 r2a r2b => ?_⟩
  walk_at "rd"
  exact ⟨_, rfl, q _ _ (by lia) (h2.le (by lia))⟩
 ·walk_at "rd"
  refine eu (fun c2 => ?_) (fun c2 => ?_)
  ·walk_at "rd"
   rw [e9]
   refine ⟨b + 1, 1000000000, rfl, h1, by lia, by lia, by lia, fun pn2 r2 h2 r2a r2b => ?_⟩
   walk_at "rd"
   rw [e8]
   exact ⟨_, rfl, q _ _ (by lia) (h2.le (by lia))⟩
  ·walk_at "rd"
   obtain ⟨M, hM, hM2, eM⟩ : ∃ M : Int, 100 <= M /\ M <= 100000000000000000000000000000000000000000000000000000000000 /\ atI [D.int (10 ^ Int.toNat 40), .int (10 ^ Int.toNat 59)] (r1 - 10) = some (.int M) := by
    rcases (by lia : r1 = 10 \/ r1 = 11) with rfl | rfl
    ·exact ⟨10 ^ Int.toNat 40, by rw [e4]; lia, by rw [e4]; lia, rfl⟩
    ·exact ⟨10 ^ Int.toNat 59, by rw [e5]; lia, by rw [e5]; lia, rfl⟩
   refine dW rfl rfl eM ?_
   walk_at "rd"
   refine ⟨b + 1, 3, rfl, h1, by lia, by lia, by lia, fun pn2 r2 h2 r2a r2b => ?_⟩
   walk_at "rd"
   refine ⟨b + 2, 2, rfl, h2, by lia, by lia, by lia, fun pn3 r3 h3 r3a r3b => ?_⟩
   walk_at "rd"
   refine ⟨_, rfl, q _ _ ?_ (h3.le (by lia))⟩
   rcases (by lia : r3 = 0 \/ r3 = 1) with rfl | rfl
   ·rw [show (1 - 2 * 0 : Int) = 1 from rfl, Int.mul_one]; lia
   ·rw [show (1 - 2 * 1 : Int) = -1 from rfl]; lia
theorem AD (S : Src K mg "_law_picture" gc) (T : Txt mg) (e4_ : Has P w K mg base 2 "_law_number" ["_law_pen_here"] (spI K 0 pNu)) (e0_ : Has P w K mg base 1 "_law_draw" ["_law_pen_here", "_law_many"] (spI K 0 oA)) : Has P w K mg base 3 "_law_picture" ["_law_pen_here"] (spI K 0 pPi) := by
 refine nH 0 S bz (by walk_at "1") (fun ns ds R zq1 => by obtain ⟨_, e, _⟩ := zq1; rw [e]; rfl) fun f cdv A outer s H E hr => ⟨_, _, (ai (aA (i := 1) bz.nd rfl (Or.inl rfl) (bj rfl (aT (cf (ae ah (ae ah (ae ah (ae (aq aW aC ah (bE e0_ hr (ae (aa 0 (pv 0)) (ae ah af)))) (ae (aq cG bI ah ah) af))))))) (bE e0_ hr (ae (aa 0 (pv 0)) (ae ah af))) (fun _ _ => rfl)))
  (ai (aA (i := 2) bz.nd rfl (Or.inl rfl) (bj rfl (aT (cf (ae ah (ae ah (ae ah (ae (aq aW aC ah (bE e0_ hr (ae (aa 0 (pv 0)) (ae ah af)))) (ae (aq cG bI ah ah) af))))))) (bE e0_ hr (ae (aa 0 (pv 0)) (ae ah af))) (fun _ _ => rfl)))
  (ai (aA (i := 3) bz.nd rfl (Or.inl rfl) (bE e4_ hr (ae (aa 0 (pv 0)) af)))
  (ai (aA (i := 4) bz.nd rfl (Or.inl rfl) (bE e4_ hr (ae (aa 0 (pv 0)) af)))
  (ai (nG (fun _ h => gX (i := 5) bz.nd rfl (Or.inl rfl) h) (cf af))
  (ai (qQ PassesOwn.never rfl (bB rfl T.range (ae (bj rfl (aT (cf (ae (bE e0_ hr (ae (aa 0 (pv 0)) (ae ah af))) (ae (bE e0_ hr (ae (aa 0 (pv 0)) (ae ah af))) af)))) (bE e0_ hr (ae (aa 0 (pv 0)) (ae ah af))) (fun _ _ => rfl)) af)) (az (aw (i := 6) bz.nd rfl (Or.inl rfl) (Or.inl rfl))) (ai (aA (i := 7) bz.nd rfl (Or.inl rfl) (b9 (ae (aq aW aC (aa 3 (pv 3)) (bE e0_ hr (ae (aa 0 (pv 0)) (ae (aa 1 (pv 1)) af)))) (ae (aq aW aC (aa 4 (pv 4)) (bE e0_ hr (ae (aa 0 (pv 0)) (ae (aa 2 (pv 2)) af)))) af))))
  (ai (bw (aJ eU jb (aa 6 (pv 6)) ah (aF _)) (ao (aA (i := 7) bz.nd rfl (Or.inl rfl) (b9 (ae (aa 3 (pv 3)) (ae (aa 4 (pv 4)) af))))) aN)
  (ai (bw (aJ eU jb (aa 6 (pv 6)) ah (aF _)) (ao (aA (i := 7) bz.nd rfl (Or.inl rfl) (b9 (ae (aq bK aC (aq aW aC (aa 3 (pv 3)) (aa 1 (pv 1))) ah) (ae (aq bK aC (aq aW aC (aa 4 (pv 4)) (aa 2 (pv 2))) ah) af))))) aN)
  (ao (bw (aJ (pB (K := K) rfl hr.units) Bf (aa 7 (pv 7)) (aa 5 (pv 5)) (by with_unfolding_all rfl)) (ao (j4 (qO 5 rfl (pv 5) (bT (aa 7 (pv 7)))))) aN))))))
  (ao (aH (aT (qK rfl rfl (by rfl) T.sorted_ pC (ae (aa 5 (pv 5)) af))))))))))), ?_⟩
 rintro a pn ds es R hl ⟨b, e, hpn, hb, q⟩
 obtain rfl : ds = [] := List.eq_nil_of_length_eq_zero hl
 obtain rfl : es = [] := e
 walk_at "sl"
 walk_at "rd"
 have e30 : (10 ^ Int.toNat 30 : Int) = 1000000000000000000000000000000 := by decide
 have wd : ∀ r i : Int, 0 <= r -> r < 7 -> 0 <= i -> i < 5 -> ∃ W : Int, 1 <= W /\ W <= 1000000000000000000000000000000 /\ atI [D.int 1, .int 3, .int 6, .int (38 + r), .int (10 ^ Int.toNat 30)] i = some (.int W) := fun r i h1 h2 h3 h4 => by
  rcases (by lia : i = 0 \/ i = 1 \/ i = 2 \/ i = 3 \/ i = 4) with rfl | rfl | rfl | rfl | rfl
  ·exact ⟨1, by lia, by lia, rfl⟩
  ·exact ⟨3, by lia, by lia, rfl⟩
  ·exact ⟨6, by lia, by lia, rfl⟩
  ·exact ⟨38 + r, by lia, by lia, rfl⟩
  ·exact ⟨_, by rw [e30]; lia, by rw [e30]; lia, rfl⟩
 refine ⟨b, 7, rfl, hpn, by lia, by lia, by lia, fun pn1 r1 h1 r1a r1b => ?_⟩
 walk_at "rd"
 refine ⟨b + 1, 5, rfl, h1, by lia, by lia, by lia, fun pn2 r2 h2 r2a r2b => ?_⟩
 obtain ⟨W, W1, W2, eW⟩ := wd r1 r2 r1a r1b r2a r2b
 refine dW rfl rfl eW ?_
 walk_at "rd"
 refine ⟨b + 2, 7, rfl, h2, by lia, by lia, by lia, fun pn3 r3 h3 r3a r3b => ?_⟩
 walk_at "rd"
 refine ⟨b + 3, 5, rfl, h3, by lia, by lia, by lia, fun pn4 r4 h4 r4a r4b => ?_⟩
 obtain ⟨Hh, H1, H2, eH⟩ := wd r3 r4 r3a r3b r4a r4b
 refine dW rfl rfl eH ?_
 walk_at "rd"
 refine ⟨b + 4, rfl, h4, by lia, fun x0 pn5 hx0 h5 => ?_⟩
 walk_at "rd"
 refine ⟨b + 4 + 4, rfl, h5, by lia, fun y0 pn6 hy0 h6 => ?_⟩
 walk_at "rd"
 refine ⟨b + 4 + 4 + 4, 31, rfl, h6, by lia, by lia, by lia, fun pn7 r7 h7 r7a r7b => ?_⟩
 walk_at "rd"
 refine ⟨b + 13, 5, rfl, h7, by lia, by lia, by lia, fun pn8 r8 h8 r8a r8b => ?_⟩
 walk_at "rd"
 refine ⟨b + 14, 2, rfl, h8, by lia, by lia, by lia, fun pn9 r9 h9 r9a r9b => ?_⟩
 obtain ⟨M, M1, M2, eM⟩ : ∃ M : Int, 0 <= M /\ M <= 30 /\ atI [D.int r7, .int r8] r9 = some (.int M) := by
  rcases (by lia : r9 = 0 \/ r9 = 1) with rfl | rfl
  ·exact ⟨r7, r7a, by lia, rfl⟩
  ·exact ⟨r8, r8a, by lia, rfl⟩
 refine dW rfl rfl eM ?_
 walk_at "rd"
 refine nM (fun i S => ∃ pn mss v6 v7, S = [.pen (some a) pn, .val (.int W), .val (.int Hh), .val (.int x0), .val (.int y0), .own (mss.map eT), v6, v7] /\ Pn (b + 15 + 2 * i) pn /\ mss.length <= i /\ mss.Nodup /\ ∀ c ∈ mss, ∃ x y : Int, c = [x, y] /\ x0 <= x /\ x <= x0 + 1000000000000000000000000000000 /\ y0 <= y /\ y <= y0 + 1000000000000000000000000000000) ⟨pn9, [], _, _, rfl, h9.le (by lia), Nat.zero_le _, List.nodup_nil, fun c hc => nomatch hc⟩ ?_ ?_
 ·rintro i S hi ⟨pn, mss, v6, v7, rfl, g1, gl, gn, g3⟩
  have hi' : i < 30 := by lia
  walk_at "rd"
  refine ⟨_, W, rfl, g1, by lia, by lia, by lia, fun pn7 x g7 xa xb => ?_⟩
  walk_at "rd"
  refine ⟨_, Hh, rfl, g7, by lia, by lia, by lia, fun pn8 y g8 ya yb => ?_⟩
  walk_at "rd"
  by_cases i0 : i = 0
  ·subst i0
   rw [show decide ((0 : Int) + ((0 : Nat) : Int) = 0) = true from rfl]
   walk_at "rc"
   have bb : x0 <= x0 /\ x0 <= x0 + 1000000000000000000000000000000 /\ y0 <= y0 /\ y0 <= y0 + 1000000000000000000000000000000 := ⟨by lia, by lia, by lia, by lia⟩
   change mJ true (eT [x0, y0]) (.lst (mss.map eT)) _
   by_cases hin : [x0, y0] ∈ mss
   ·refine rE et hin ?_
    walk_at "rc"
    exact ⟨_, mss, _, _, rfl, g8.le (by lia), by lia, gn, g3⟩
   ·refine rD et hin ?_
    walk_at "rc"
    refine ⟨_, mss ++ [[x0, y0]], _, _, by rw [List.map_append]; rfl, g8.le (by lia), by rw [List.length_append, List.length_singleton]; lia, List.nodup_append.mpr ⟨gn, by simp, fun c hc d hd e => hin (by rw [List.mem_singleton.mp hd] at e; rw [<- e]; exact hc)⟩, fun c hc => ?_⟩
    rcases List.mem_append.mp hc with hc | hc
    ·exact g3 c hc
    ·exact ⟨x0, y0, List.mem_singleton.mp hc, bb⟩
  rw [show decide ((0 : Int) + (i : Int) = 0) = false from decide_eq_false (by lia)]
  walk_at "rc"
  by_cases i1 : i = 1
  ·subst i1
   rw [show decide ((0 : Int) + ((1 : Nat) : Int) = 1) = true from rfl]
   walk_at "rc"
   have bb : x0 <= (x0 + W - 1) /\ (x0 + W - 1) <= x0 + 1000000000000000000000000000000 /\ y0 <= (y0 + Hh - 1) /\ (y0 + Hh - 1) <= y0 + 1000000000000000000000000000000 := ⟨by lia, by lia, by lia, by lia⟩
   change mJ true (eT [(x0 + W - 1), (y0 + Hh - 1)]) (.lst (mss.map eT)) _
   by_cases hin : [(x0 + W - 1), (y0 + Hh - 1)] ∈ mss
   ·refine rE et hin ?_
    walk_at "rc"
    exact ⟨_, mss, _, _, rfl, g8.le (by lia), by lia, gn, g3⟩
   ·refine rD et hin ?_
    walk_at "rc"
    refine ⟨_, mss ++ [[(x0 + W - 1), (y0 + Hh - 1)]], _, _, by rw [List.map_append]; rfl, g8.le (by lia), by rw [List.length_append, List.length_singleton]; lia, List.nodup_append.mpr ⟨gn, by simp, fun c hc d hd e => hin (by rw [List.mem_singleton.mp hd] at e; rw [<- e]; exact hc)⟩, fun c hc => ?_⟩
    rcases List.mem_append.mp hc with hc | hc
    ·exact g3 c hc
    ·exact ⟨(x0 + W - 1), (y0 + Hh - 1), List.mem_singleton.mp hc, bb⟩
  ·rw [show decide ((0 : Int) + (i : Int) = 1) = false from decide_eq_false (by lia)]
   walk_at "rc"
   have bb : x0 <= (x0 + x) /\ (x0 + x) <= x0 + 1000000000000000000000000000000 /\ y0 <= (y0 + y) /\ (y0 + y) <= y0 + 1000000000000000000000000000000 := ⟨by lia, by lia, by lia, by lia⟩
   change mJ true (eT [(x0 + x), (y0 + y)]) (.lst (mss.map eT)) _
   by_cases hin : [(x0 + x), (y0 + y)] ∈ mss
   ·refine rE et hin ?_
    walk_at "rc"
    exact ⟨_, mss, _, _, rfl, g8.le (by lia), by lia, gn, g3⟩
   ·refine rD et hin ?_
    walk_at "rc"
    refine ⟨_, mss ++ [[(x0 + x), (y0 + y)]], _, _, by rw [List.map_append]; rfl, g8.le (by lia), by rw [List.length_append, List.length_singleton]; lia, List.nodup_append.mpr ⟨gn, by simp, fun c hc d hd e => hin (by rw [List.mem_singleton.mp hd] at e; rw [<- e]; exact hc)⟩, fun c hc => ?_⟩
    rcases List.mem_append.mp hc with hc | hc
    ·exact g3 c hc
    ·exact ⟨(x0 + x), (y0 + y), List.mem_singleton.mp hc, bb⟩
 ·rintro S ⟨pn, mss, v6, v7, rfl, g1, gl, gn, g3⟩
  walk_at "rd"
  refine rn (mss := mss) rfl (fun c hc => by obtain ⟨x, y, rfl, _⟩ := g3 c hc; simp) (by lia) ?_
  walk_at "rd"
  have p := lg mss
  have e59 : N59 = 100000000000000000000000000000000000000000000000000000000000 := by decide
  rw [e59] at hx0 hy0
  refine ⟨_, rfl, q _ _ ⟨by rw [p.length_eq]; lia, ?_, fun c hc => ?_⟩ (g1.le (by lia))⟩
  ·have nd : (srt mss).Nodup := p.nodup_iff.mpr gn
   exact List.Pairwise.imp₂ (fun x y h1 h2 => AC h1 h2) (ig mss) nd
  ·obtain ⟨x, y, rfl, b1, b2, b3, b4⟩ := g3 c (p.mem_iff.mp hc)
   exact ⟨x, y, rfl, by rw [e59]; lia, by rw [e59]; lia⟩
end
end My
namespace My
open PySem L2 VL
def grS (cs : List (List Int)) (a b : Int) (W H : Nat) : List (List Str) := (List.range H).map fun (y : Nat) => (List.range W).map fun (x : Nat) => if [a + (x : Int), b + (y : Int)] ∈ cs then mk [35] else mk [46]
theorem gT {cs : List (List Int)} {a b : Int} {W H y : Nat} (h : y < H) : (grS cs a b W H)[y]? = some ((List.range W).map fun (x : Nat) => if [a + (x : Int), b + (y : Int)] ∈ cs then mk [35] else mk [46]) := by
 unfold grS
 rw [List.getElem?_map, List.getElem?_range h]
 rfl
theorem wj {cs : List (List Int)} {a b : Int} {W H x y : Nat} (hx : x < W) (hy : y < H) :
  (grS cs a b W H).set y (((List.range W).map fun (x' : Nat) => if [a + (x' : Int), b + (y : Int)] ∈ cs then mk [35] else mk [46]).set x (mk [35])) = grS (cs ++ [[a + (x : Int), b + (y : Int)]]) a b W H := by
 refine List.ext_getElem? fun y' => ?_
 by_cases hy' : y' < H
 ·rw [gT hy', List.getElem?_set]
  by_cases e : y = y'
  ·subst e
   rw [if_pos rfl, if_pos (by unfold grS; simpa using hy)]
   congr 1
   refine List.ext_getElem? fun x' => ?_
   rw [List.getElem?_set, List.getElem?_map, List.getElem?_map]
   by_cases ex : x = x'
   ·subst ex
    rw [if_pos rfl, if_pos (by simpa using hx), List.getElem?_range hx]
    show some _ = some (if _ then mk [35] else mk [46])
    rw [if_pos (by simp)]
   ·rw [if_neg ex]
    by_cases hx' : x' < W
    ·rw [List.getElem?_range hx']
     show some (if _ then _ else _) = some (if _ then _ else _)
     congr 2
     apply propext
     simp only [List.mem_append, List.mem_singleton]
     constructor
     ·exact .inl
     ·rintro (h | h)
      ·exact h
      ·simp only [List.cons.injEq, and_true] at h; lia
    ·rw [List.getElem?_eq_none (by simpa using hx')]; rfl
  ·rw [if_neg e, gT hy']
   congr 1
   refine List.map_congr_left fun x' _ => ?_
   congr 1
   apply propext
   simp only [List.mem_append, List.mem_singleton]
   constructor
   ·exact .inl
   ·rintro (h | h)
    ·exact h
    ·simp only [List.cons.injEq, and_true] at h; lia
 ·rw [List.getElem?_eq_none (by unfold grS; simp; lia), List.getElem?_eq_none (by unfold grS; simp; lia)]
def pTe (ds : List D) (R : D -> Prop) : Prop := ∃ mss, ds = [eL mss] /\ Pc mss /\ (mss = [] -> R (.str "-")) /\ (mss ≠ [] -> ¬Shw mss -> R .non) /\ (mss ≠ [] -> Shw mss -> (mnI (mss.map fs)).natAbs < 10 ^ 61 /\ (mnI (mss.map sn)).natAbs < 10 ^ 61 /\ R (.str (mk (txt mss))))
section
variable {P : Program} {w : World} {K : PySem.W.Frag} {mg : Str -> Option Value} {base : Heap}
theorem wm (S : Src K mg "_law_text" dN) (T : Txt mg) (e5_ : Has P w K mg base 1 "_law_written" ["_law_number_here"] (spP K pWr)) : Has P w K mg base 2 "_law_text" ["_law_live"] (spP K pTe) := by
 refine cF S dO (by walk_at "1") (fun ds R zq1 => by obtain ⟨_, e, _⟩ := zq1; rw [e]; rfl) fun f cdv A outer s H E hr => ⟨_, _, (ai (bw (aJ (j7 (K := K) rfl hr.units) gw (aa 0 (pv 0)) (aT (cf af)) (aF _)) (ao (aH aM)) aN)
  (ai (aA (i := 1) dO.nd rfl (Or.inl rfl) (ay (kh (K := K) rfl rfl) eD (by rfl) T.min_ iF (ae (aT (bF (tg := ["_law_one"]) (cs := []) (ix := []) (aI (aj dN) ["_law_live", "_law_left", "_law_top", "_law_wide", "_law_high", "_law_rows", "_law_one"] (by decide +kernel)) rfl (aG (by decide)) (by decide) (bL rfl (aa 0 (pv 0))) (fun _ _ _ _ => (az (aw (i := 0) (show (["_law_one"] : List Str).Nodup by decide +kernel) rfl (Or.inl rfl) (by first | exact Or.inl rfl | exact Or.inr rfl)))) (fun _ _ _ _ => aX) (fun _ _ _ _ => (bT (bj rfl (aa 0 (pv 0)) ah (fun _ _ => rfl)))))) af)))
  (ai (aA (i := 2) dO.nd rfl (Or.inl rfl) (ay (kh (K := K) rfl rfl) eD (by rfl) T.min_ iF (ae (aT (bF (tg := ["_law_one"]) (cs := []) (ix := []) (aI (aj dN) ["_law_live", "_law_left", "_law_top", "_law_wide", "_law_high", "_law_rows", "_law_one"] (by decide +kernel)) rfl (aG (by decide)) (by decide) (bL rfl (aa 0 (pv 0))) (fun _ _ _ _ => (az (aw (i := 0) (show (["_law_one"] : List Str).Nodup by decide +kernel) rfl (Or.inl rfl) (by first | exact Or.inl rfl | exact Or.inr rfl)))) (fun _ _ _ _ => aX) (fun _ _ _ _ => (bT (bj rfl (aa 0 (pv 0)) ah (fun _ _ => rfl)))))) af)))
  (ai (aA (i := 3) dO.nd rfl (Or.inr rfl) (aq aW aC (aq bK aC (ay (ki (K := K) rfl rfl) eD (by rfl) T.max_ j9 (ae (aT (bF (tg := ["_law_one"]) (cs := []) (ix := []) (aI (aj dN) ["_law_live", "_law_left", "_law_top", "_law_wide", "_law_high", "_law_rows", "_law_one"] (by decide +kernel)) rfl (aG (by decide)) (by decide) (bL rfl (aa 0 (pv 0))) (fun _ _ _ _ => (az (aw (i := 0) (show (["_law_one"] : List Str).Nodup by decide +kernel) rfl (Or.inl rfl) (by first | exact Or.inl rfl | exact Or.inr rfl)))) (fun _ _ _ _ => aX) (fun _ _ _ _ => (bT (bj rfl (aa 0 (pv 0)) ah (fun _ _ => rfl)))))) af)) (aa 1 (pv 1))) ah))
  (ai (aA (i := 4) dO.nd rfl (Or.inl rfl) (aq aW aC (aq bK aC (ay (ki (K := K) rfl rfl) eD (by rfl) T.max_ j9 (ae (aT (bF (tg := ["_law_one"]) (cs := []) (ix := []) (aI (aj dN) ["_law_live", "_law_left", "_law_top", "_law_wide", "_law_high", "_law_rows", "_law_one"] (by decide +kernel)) rfl (aG (by decide)) (by decide) (bL rfl (aa 0 (pv 0))) (fun _ _ _ _ => (az (aw (i := 0) (show (["_law_one"] : List Str).Nodup by decide +kernel) rfl (Or.inl rfl) (by first | exact Or.inl rfl | exact Or.inr rfl)))) (fun _ _ _ _ => aX) (fun _ _ _ _ => (bT (bj rfl (aa 0 (pv 0)) ah (fun _ _ => rfl)))))) af)) (aa 2 (pv 2))) ah))
  (ai (bw (du (cJ (aJ d9 aC (aa 3 (pv 3)) ah (aF _)) (cu (aJ d9 aC (aa 4 (pv 4)) ah (aF _))))) (ao (aH fW)) aN)
  (sU (i := 5) (j := 6) (vv := 0) (tgs := ["_law_y"]) (cs := ["_law_wide"]) (ix := [3]) dO.nd rfl (Or.inl rfl) (Or.inl rfl) (aI (aj dN) ["_law_live", "_law_left", "_law_top", "_law_wide", "_law_high", "_law_rows", "_law_one"] (by decide +kernel)) rfl rfl (aG (by decide)) (by decide) (bB rfl T.range (ae (aa 4 (pv 4)) af)) (fun _ _ _ _ => (az (aw (i := 0) (show (["_law_y", "_law_wide"] : List Str).Nodup by decide +kernel) rfl (Or.inl rfl) (by first | exact Or.inl rfl | exact Or.inr rfl)))) (fun _ _ _ _ => (bF (tg := ["_law_x"]) (cs := []) (ix := []) (lT (by decide +kernel)) rfl (aG (by decide)) (by decide) (bB rfl T.range (ae (aa 1 (pv 1)) af)) (fun _ _ _ _ => (az (aw (i := 0) (show (["_law_x"] : List Str).Nodup by decide +kernel) rfl (Or.inl rfl) (by first | exact Or.inl rfl | exact Or.inr rfl)))) (fun _ _ _ _ => aX) (fun _ _ _ _ => aM))) PassesOwn.never (pv 0) (aw (i := 6) dO.nd rfl (Or.inl rfl) (Or.inl rfl)) (pv 5) (aq bK aC (bj rfl (aa 6 (pv 6)) ah (fun _ _ => rfl)) (aa 2 (pv 2))) (aq bK aC (bj rfl (aa 6 (pv 6)) ah (fun _ _ => rfl)) (aa 1 (pv 1))) (fun _ _ => rfl)
  (ao (aH (aq bD dJ (aq bD dJ (aq bD dJ (aq bD dJ (bA e5_ hr (ae (aa 1 (pv 1)) af)) aM) (bA e5_ hr (ae (aa 2 (pv 2)) af))) aM) (fM rfl aM (bF (tg := ["_law_row"]) (cs := []) (ix := []) (aI (aj dN) ["_law_live", "_law_left", "_law_top", "_law_wide", "_law_high", "_law_rows", "_law_one"] (by decide +kernel)) rfl (aG (by decide)) (by decide) (bL rfl (aa 5 (pv 5))) (fun _ _ _ _ => (az (aw (i := 0) (show (["_law_row"] : List Str).Nodup by decide +kernel) rfl (Or.inl rfl) (by first | exact Or.inl rfl | exact Or.inr rfl)))) (fun _ _ _ _ => aX) (fun _ _ _ _ => (n5 rfl aM (aa 0 (pv 0)))))))))))))))), ?_⟩
 rintro ds R ⟨mss, rfl, hp, q0, q1, q2⟩
 walk_at "sl"
 walk_at "rd"
 change fY false (eL mss) (eL []) _
 by_cases h0 : mss = []
 ·refine rF ff h0 ?_
  walk_at "rc"
  exact q0 h0
 refine B7 ff h0 ?_
 have n1 : mss.map fs ≠ [] := by simpa using h0
 have n2 : mss.map sn ≠ [] := by simpa using h0
 have p1 := cX (bJ n1)
 have p2 := cX (bJ n2)
 walk_at "rc"
 refine comp_map (xs := mss) (en := eT) (f := fun m => .int (fs m)) (by have := hp.2; lia) (fun m hm A B hA => ?_) ?_
 ·obtain ⟨x, y, rfl⟩ := hp.1 m hm
  dsimp only [aZ, List.replicate, List.map_cons, List.map_nil, List.cons_append, List.nil_append]
  walk_at "rd"
  exact hA _ rfl
 rw [show mss.map (fun m => D.int (fs m)) = (mss.map fs).map D.int by rw [List.map_map]; rfl]
 walk_at "rd"
 refine eE n1 fun M1 g1 g2 => ?_
 obtain rfl := eG g1 g2
 walk_at "rd"
 refine comp_map (xs := mss) (en := eT) (f := fun m => .int (sn m)) (by have := hp.2; lia) (fun m hm A B hA => ?_) ?_
 ·obtain ⟨x, y, rfl⟩ := hp.1 m hm
  dsimp only [aZ, List.replicate, List.map_cons, List.map_nil, List.cons_append, List.nil_append]
  walk_at "rd"
  exact hA _ rfl
 rw [show mss.map (fun m => D.int (sn m)) = (mss.map sn).map D.int by rw [List.map_map]; rfl]
 walk_at "rd"
 refine eE n2 fun M2 g3 g4 => ?_
 obtain rfl := eG g3 g4
 walk_at "rd"
 refine comp_map (xs := mss) (en := eT) (f := fun m => .int (fs m)) (by have := hp.2; lia) (fun m hm A B hA => ?_) ?_
 ·obtain ⟨x, y, rfl⟩ := hp.1 m hm
  dsimp only [aZ, List.replicate, List.map_cons, List.map_nil, List.cons_append, List.nil_append]
  walk_at "rd"
  exact hA _ rfl
 rw [show mss.map (fun m => D.int (fs m)) = (mss.map fs).map D.int by rw [List.map_map]; rfl]
 walk_at "rd"
 refine eE n1 fun M3 g5 g6 => ?_
 obtain rfl := ft g5 g6
 walk_at "rd"
 refine comp_map (xs := mss) (en := eT) (f := fun m => .int (sn m)) (by have := hp.2; lia) (fun m hm A B hA => ?_) ?_
 ·obtain ⟨x, y, rfl⟩ := hp.1 m hm
  dsimp only [aZ, List.replicate, List.map_cons, List.map_nil, List.cons_append, List.nil_append]
  walk_at "rd"
  exact hA _ rfl
 rw [show mss.map (fun m => D.int (sn m)) = (mss.map sn).map D.int by rw [List.map_map]; rfl]
 walk_at "rd"
 refine eE n2 fun M4 g7 g8 => ?_
 obtain rfl := ft g7 g8
 walk_at "rd"
 by_cases hS : Shw mss
 case neg =>
  have q := q1 h0 hS
  unfold Shw at hS
  by_cases hW : (40 : Int) < mxI (mss.map fs) - mnI (mss.map fs) + 1
  ·rw [show decide ((40 : Int) < mxI (mss.map fs) - mnI (mss.map fs) + 1) = true from decide_eq_true hW]
   walk_at "rc"
   exact q
  ·rw [show decide ((40 : Int) < mxI (mss.map fs) - mnI (mss.map fs) + 1) = false from decide_eq_false hW]
   walk_at "rc"
   rw [show decide ((40 : Int) < mxI (mss.map sn) - mnI (mss.map sn) + 1) = true from decide_eq_true (by lia)]
   walk_at "rc"
   exact q
 obtain ⟨na, nb, q⟩ := q2 h0 hS
 obtain ⟨hW, hH⟩ := hS
 rw [show decide ((40 : Int) < mxI (mss.map fs) - mnI (mss.map fs) + 1) = false from decide_eq_false (by lia)]
 walk_at "rc"
 rw [show decide ((40 : Int) < mxI (mss.map sn) - mnI (mss.map sn) + 1) = false from decide_eq_false (by lia)]
 walk_at "rc"
 refine ⟨Nat.le_of_ble_eq_true rfl, Nat.le_of_ble_eq_true rfl, by decide, by decide, by decide, ?_⟩
 have hmx : ∀ c ∈ mss, mnI (mss.map fs) <= fs c /\ fs c <= mxI (mss.map fs) := fun c hc => ⟨eF (List.mem_map.mpr ⟨c, hc, rfl⟩), cX (List.mem_map.mpr ⟨c, hc, rfl⟩)⟩
 have hmy : ∀ c ∈ mss, mnI (mss.map sn) <= sn c /\ sn c <= mxI (mss.map sn) := fun c hc => ⟨eF (List.mem_map.mpr ⟨c, hc, rfl⟩), cX (List.mem_map.mpr ⟨c, hc, rfl⟩)⟩
 unfold txt at q
 generalize hWi : mxI (mss.map fs) - mnI (mss.map fs) + 1 = Wi at *
 generalize hHi : mxI (mss.map sn) - mnI (mss.map sn) + 1 = Hi at *
 generalize hMx : mxI (mss.map fs) = Mx at *
 generalize hMy : mxI (mss.map sn) = My at *
 generalize ha : mnI (mss.map fs) = a at *
 generalize hb : mnI (mss.map sn) = b at *
 show vGr _ _ _ _ _ [lendF (.val (eL mss)), lendF (.val (.int a)), lendF (.val (.int b)), lendF (.val (.int Wi)), lendF (.val (.int Hi)), .no, .no] _
 unfold vGr
 dsimp only [lendF, nX]
 walk_at "rd"
 generalize hW' : Wi.toNat = W at *
 generalize hH' : Hi.toNat = Hh at *
 refine ⟨rfl, by simp [rg]; lia, grS [] a b W Hh, by simp [rg, grS], fun i d r e1 e2 => ?_, mss.map eT, rfl, fun k rows => rows = grS (mss.take k) a b W Hh, by simp, ?_, ?_⟩
 ·dsimp only [aZ, List.replicate, List.map_cons, List.map_nil, List.cons_append, List.nil_append]
  have hi : i < Hh := by
   have := (List.getElem?_eq_some_iff.mp e2).1
   unfold grS at this
   simpa using this
  rw [gT hi] at e2
  obtain rfl := Option.some.inj e2
  refine ⟨Nat.le_of_ble_eq_true rfl, ?_⟩
  show jy _ _ _ _ _ _ [.val d, .val (.int Wi)] _
  walk_at "rd"
  rw [hW']
  refine comp_map (xs := List.range W) (en := fun (i : Nat) => .int (0 + (i : Int))) (f := fun _ => .str (mk [46])) (by rw [List.length_range]; lia) (fun m hm A B hA => ?_) ?_
  ·dsimp only [aZ, List.replicate, List.map_cons, List.map_nil, List.cons_append, List.nil_append]
   walk_at "rd"
   exact hA _ rfl
  ·refine ⟨?_, rfl⟩
   rw [List.map_map]
   refine List.map_congr_left fun x _ => ?_
   show _ = D.str (if _ then _ else _)
   rw [if_neg (by simp)]
 ·rintro m d rows e rfl
  obtain ⟨c, h1, rfl, hm, ht⟩ := bP e
  obtain ⟨x, y, rfl⟩ := hp.1 c hm
  obtain ⟨x1, x2⟩ := hmx _ hm
  obtain ⟨y1, y2⟩ := hmy _ hm
  have x1 : a <= x := x1
  have x2 : x <= Mx := x2
  have y1 : b <= y := y1
  have y2 : y <= My := y2
  obtain ⟨xn, hxn⟩ : ∃ n : Nat, x = a + (n : Int) := ⟨(x - a).toNat, by lia⟩
  obtain ⟨yn, hyn⟩ : ∃ n : Nat, y = b + (n : Int) := ⟨(y - b).toNat, by lia⟩
  have hx : xn < W := by lia
  have hy : yn < Hh := by lia
  show v2 _ _ _ [.val (eL mss), .val (.int a), .val (.int b), .val (.int Wi), .val (.int Hi), .no, .val (eT [x, y])] _
  walk_at "rd"
  refine ⟨rfl, y - b, yn, _, rfl, ?_, gT hy, ?_⟩
  ·rw [nO (by lia) (by unfold grS; simp; lia)]
   congr 1
   lia
  show v2 _ _ _ [.val (eL mss), .val (.int a), .val (.int b), .val (.int Wi), .val (.int Hi), .no, .val (eT [x, y])] _
  walk_at "rd"
  refine ⟨rfl, x - a, xn, rfl, ?_, ?_⟩
  ·rw [nO (by lia) (by simp; lia)]
   congr 1
   lia
  ·show _ = grS (mss.take (m + 1)) a b W Hh
   rw [show Str.ofString "#" = mk [35] from rfl, wj hx hy, ht, hxn, hyn]
 ·rintro rows rfl
  rw [List.length_map, List.take_length]
  show yx _ _ [.val (eL mss), .val (.int a), .val (.int b), .val (.int Wi), .val (.int Hi), .val (grD (grS mss a b W Hh)), .no]
  unfold grD
  have la : (wr a).length <= 62 := de (by decide) na
  have lb : (wr b).length <= 62 := de (by decide) nb
  have lapp : ∀ x y : Str, (x ++ y).length = x.length + y.length := fun x y => by
   show (x.cps ++ y.cps).size = _
   rw [Array.size_append]; rfl
  have tj : ∀ (s : Str) (ws : List Str), Txt.join s ws = Str.join s ws := fun s ws => StrLaws.glued_eq_join _ _
  have l1 : (Str.ofString ",").length = 1 := rfl
  have l2 : (Str.ofString " ").length = 1 := rfl
  walk_at "rd"
  refine ⟨a, rfl, na, ?_⟩
  walk_at "rd"
  refine dr (bC (by lia)) ?_
  walk_at "rd"
  refine ⟨b, rfl, nb, ?_⟩
  walk_at "rd"
  refine dr (bC (by rw [lapp]; lia)) ?_
  walk_at "rd"
  refine dr (bC (by rw [lapp, lapp]; lia)) ?_
  walk_at "rd"
  refine comp_map (xs := grS mss a b W Hh) (en := fun r => .lst (r.map .str)) (f := fun r => .str (Txt.join (Str.ofString "") r)) (by unfold grS; simp; lia) (fun r hr A B hA => ?_) ?_
  ·dsimp only [aZ, List.replicate, List.map_cons, List.map_nil, List.cons_append, List.nil_append]
   walk_at "rd"
   refine sR (zs := r) rfl (PyProof.Rows.joinOk_of ?_) ?_
   ·unfold grS at hr
    obtain ⟨y, _, rfl⟩ := List.mem_map.mp hr
    rw [List.map_map, show (Str.ofString "").length = 0 from rfl, Nat.mul_zero, Nat.add_zero]
    have : ∀ n : Nat, ((List.range n).map ((fun z : Str => z.length) ∘ fun (x : Nat) => if [a + (x : Int), b + (y : Int)] ∈ mss then mk [35] else mk [46])).sum <= n := fun n => by
     induction n with
     | zero => simp
     | succ n ih =>
      rw [List.range_succ, List.map_append, List.sum_append]
      simp only [List.map_cons, List.map_nil, List.sum_cons, List.sum_nil, Function.comp]
      split <;> (rw [aS]; simp only [List.length_singleton]; lia)
    exact Nat.le_trans (this W) (by lia)
   walk_at "rd"
   exact hA _ rfl
  walk_at "rd"
  have hz : (grS mss a b W Hh).map (fun r => Txt.join (Str.ofString "") r) = (grd mss a b W Hh).map mk := by
   unfold grS grd
   rw [List.map_map, List.map_map]
   refine List.map_congr_left fun y _ => ?_
   refine ((tj _ _).trans ?_).trans (fu ((List.range W).map fun (x : Nat) => if [a + (x : Int), b + (y : Int)] ∈ mss then 35 else 46))
   rw [List.map_map]
   congr 1
   refine List.map_congr_left fun x _ => ?_
   show (if _ then _ else _) = mk [if _ then 35 else 46]
   split <;> rfl
  have gl : ∀ w ∈ (grd mss a b W Hh).map mk, w.length = W := fun w hw => by
   obtain ⟨v, hv, rfl⟩ := List.mem_map.mp hw
   unfold grd at hv
   obtain ⟨y, _, rfl⟩ := List.mem_map.mp hv
   rw [aS]
   simp
  have sl : ∀ ws : List Str, (∀ w ∈ ws, w.length = W) -> (ws.map (·.length)).sum = ws.length * W := fun ws => by
   induction ws with
   | nil => simp
   | cons w ws ih =>
    intro h
    rw [List.map_cons, List.sum_cons, ih fun v hv => h v (List.mem_cons_of_mem _ hv), h w List.mem_cons_self, List.length_cons, Nat.succ_mul]
    lia
  have gh : ((grd mss a b W Hh).map mk).length = Hh := by unfold grd; simp
  have hHW : Hh * W <= 100 * 100 := Nat.mul_le_mul (by lia) (by lia)
  refine mU (zs := (grd mss a b W Hh).map mk) (by rw [<- hz, List.map_map]; rfl) (PyProof.Rows.joinOk_of (by rw [sl _ gl, gh, show (Str.ofString "/").length = 1 from rfl]; lia)) ?_
  have ej : (Txt.join (Str.ofString "/") ((grd mss a b W Hh).map mk)).cps.toList = jl 47 (grd mss a b W Hh) := by
   rw [tj, show Str.ofString "/" = ⟨#[47]⟩ from rfl, fN, List.map_map]
   congr 1
   conv => rhs; rw [<- List.map_id (grd mss a b W Hh)]
   exact List.map_congr_left fun w _ => aB w
  have lj : (Txt.join (Str.ofString "/") ((grd mss a b W Hh).map mk)).length <= 20000 := by
   show Array.size _ <= _
   rw [<- Array.length_toList, ej]
   have := fS (c := 47) (W := W) (ws := grd mss a b W Hh) fun w hw => by
    have := gl (mk w) (List.mem_map.mpr ⟨w, hw, rfl⟩)
    rw [aS] at this
    lia
   rw [List.length_map] at gh
   rw [gh, Nat.mul_add] at this
   lia
  walk_at "rd"
  refine dr (bC (by rw [lapp, lapp, lapp]; lia)) ?_
  walk_at "rd"
  have fin : wr a ++ Str.ofString "," ++ wr b ++ Str.ofString " " ++ Txt.join (Str.ofString "/") ((grd mss a b W Hh).map mk) = mk ((wr a).cps.toList ++ 44 :: ((wr b).cps.toList ++ 32 :: jl 47 (grd mss a b W Hh))) := cN (by
   rw [bf, bf, bf, bf, ej, aB, show (Str.ofString ",").cps.toList = [44] from rfl, show (Str.ofString " ").cps.toList = [32] from rfl]
   simp)
  rw [fin]
  exact q
end
end My
namespace My
open PySem L2 VL
theorem AE (n : Int) : fgs (wr n).cps.toList = figs n := by
 by_cases h : 0 <= n
 ·rw [ku h, aB]
  cases e : figs n with
  | nil => rfl
  | cons c r =>
   have := gR n c (by rw [e]; exact List.mem_cons_self)
   unfold fgs
   split
   ·rename_i r' e'
    cases e'
    lia
   ·rfl
 ·rw [kz (by lia), aB]
  rfl
theorem AF {n : Int} (h : n.natAbs < 10 ^ 60) : shp (wr n).cps.toList = true := by
 have h1 := lR (n := n) (k := 60) (by decide) h
 have h2 : 0 < (figs n).length := List.length_pos_iff.mpr (vG n)
 unfold shp
 rw [AE]
 simp only [Bool.and_eq_true, decide_eq_true_eq, List.all_eq_true]
 refine ⟨?_, fun c hc => decide_eq_true (gR n c hc)⟩
 lia
theorem tS {n : Int} (h : n.natAbs < 10 ^ 60) : isNum (wr n).cps.toList = true /\ numOf (wr n).cps.toList = n := by
 have hs := AF h
 have e1 := oB hs
 have e0 : mk (wr n).cps.toList = wr n := (str_mk _).symm
 rw [e0] at e1
 have e2 : PySem.intText? (wr n) = some n := sQ (Nat.lt_trans h (Nat.pow_lt_pow_right (by decide) (by decide)))
 have e3 : numOf (wr n).cps.toList = n := Option.some.inj (e1.symm.trans e2)
 refine ⟨?_, e3⟩
 unfold isNum
 rw [hs, <- oD hs, e3, e0]
 simp
theorem oH {a b : Int} {W H x y : Nat} (hx : x < W) (hy : y < H) : lit (grd mss a b W H) x y = decide ([a + (x : Int), b + (y : Int)] ∈ mss) := by
 unfold lit grd
 rw [List.getD_eq_getElem?_getD, List.getElem?_map, List.getElem?_range hy]
 simp only [Option.map_some, Option.getD_some, List.getElem?_map, List.getElem?_range hx]
 by_cases hc : [a + (x : Int), b + (y : Int)] ∈ mss
 ·rw [if_pos hc]; simp [hc]
 ·rw [if_neg hc]; simp [hc]
theorem wo {p q : List (List Int)} (hp : Asc p) (hq : Asc q) (h : ∀ c, c ∈ p ↔ c ∈ q) : p = q := by
 have np : p.Nodup := List.Pairwise.imp (fun h e => by rw [e, lex_irrefl] at h; cases h) hp
 have nq : q.Nodup := List.Pairwise.imp (fun h e => by rw [e, lex_irrefl] at h; cases h) hq
 have le : ∀ {p q : List Int}, HT.lexLt p q = true -> lexLe p q = true := fun {p q} h => by
  have t := gq p q
  unfold lexLe at t ⊢
  rw [h] at t
  simpa using t
 have pm := (List.perm_ext_iff_of_nodup np nq).mpr h
 exact (j2 pm (List.Pairwise.imp (fun h => le h) hp)).trans (j2 (List.Perm.refl q) (List.Pairwise.imp (fun h => le h) hq)).symm
theorem AG {a b : Int} {W H : Nat} (ha : Asc mss) (hb : ∀ c ∈ mss, ∃ x y : Nat, x < W /\ y < H /\ c = [a + (x : Int), b + (y : Int)]) : cm W H (grd mss a b W H) a b = mss := by
 refine wo (tM W H _ a b) ha fun c => ?_
 rw [tF]
 constructor
 ·rintro ⟨x, y, hx, hy, hl, rfl⟩
  rw [oH hx hy] at hl
  exact of_decide_eq_true hl
 ·intro hc
  obtain ⟨x, y, hx, hy, rfl⟩ := hb c hc
  exact ⟨x, y, hx, hy, by rw [oH hx hy]; exact decide_eq_true hc, rfl⟩
theorem oI (mss : List (List Int)) (a b : Int) (W H : Nat) : (grd mss a b W H).length = H := by unfold grd; simp
theorem oJ {a b : Int} {W H : Nat} : ∀ r ∈ grd mss a b W H, r.length = W /\ ∀ c ∈ r, c = 35 \/ c = 46 := fun r hr => by
 unfold grd at hr
 obtain ⟨y, _, rfl⟩ := List.mem_map.mp hr
 refine ⟨by simp, fun c hc => ?_⟩
 obtain ⟨x, _, rfl⟩ := List.mem_map.mp hc
 split
 ·exact .inl rfl
 ·exact .inr rfl
theorem tT (ha : Asc mss) (h0 : mss ≠ []) (hp : Pc mss) (hB : ∀ c ∈ mss, inB c = true) (hS : Shw mss) : rdP (txt mss) = some mss := by
 have n1 : mss.map fs ≠ [] := by simpa using h0
 have n2 : mss.map sn ≠ [] := by simpa using h0
 have hmx : ∀ c ∈ mss, mnI (mss.map fs) <= fs c /\ fs c <= mxI (mss.map fs) := fun c hc => ⟨eF (List.mem_map.mpr ⟨c, hc, rfl⟩), cX (List.mem_map.mpr ⟨c, hc, rfl⟩)⟩
 have hmy : ∀ c ∈ mss, mnI (mss.map sn) <= sn c /\ sn c <= mxI (mss.map sn) := fun c hc => ⟨eF (List.mem_map.mpr ⟨c, hc, rfl⟩), cX (List.mem_map.mpr ⟨c, hc, rfl⟩)⟩
 have p1 := cX (bJ n1)
 have p2 := cX (bJ n2)
 have bx1 : (mnI (mss.map fs)).natAbs < 10 ^ 60 := by
  obtain ⟨c, hc, e⟩ := List.mem_map.mp (bJ n1)
  have := hB c hc
  unfold inB at this
  rw [Bool.and_eq_true, decide_eq_true_eq] at this
  rw [<- e]; exact this.1
 have by1 : (mnI (mss.map sn)).natAbs < 10 ^ 60 := by
  obtain ⟨c, hc, e⟩ := List.mem_map.mp (bJ n2)
  have := hB c hc
  unfold inB at this
  rw [Bool.and_eq_true, decide_eq_true_eq] at this
  rw [<- e]; exact of_decide_eq_true this.2
 have hbx : bx mss = [mnI (mss.map fs), mnI (mss.map sn), mxI (mss.map fs) - mnI (mss.map fs) + 1, mxI (mss.map sn) - mnI (mss.map sn) + 1] := rfl
 unfold txt
 obtain ⟨s1, s2⟩ := hS
 generalize mxI (mss.map fs) = Mx at *
 generalize mxI (mss.map sn) = My at *
 generalize mnI (mss.map fs) = a at *
 generalize mnI (mss.map sn) = b at *
 obtain ⟨W, eW⟩ : ∃ n : Nat, Mx - a + 1 = (n : Int) := ⟨(Mx - a + 1).toNat, by lia⟩
 obtain ⟨H, eH⟩ : ∃ n : Nat, My - b + 1 = (n : Int) := ⟨(My - b + 1).toNat, by lia⟩
 rw [eW, eH, Int.toNat_natCast, Int.toNat_natCast]
 rw [eW, eH] at hbx
 have hcm : cm W H (grd mss a b W H) a b = mss := AG ha fun c hc => by
  obtain ⟨x, y, rfl⟩ := hp.1 c hc
  have h1 := hmx _ hc
  have h2 := hmy _ hc
  have h1 : a <= x /\ x <= Mx := h1
  have h2 : b <= y /\ y <= My := h2
  exact ⟨(x - a).toNat, (y - b).toNat, by lia, by lia, by congr 1; lia; congr 1; lia⟩
 have gl := oI mss a b W H
 have gr := oJ (mss := mss) (a := a) (b := b) (W := W) (H := H)
 have hH0 : 0 < H := by lia
 generalize hg : grd mss a b W H = g at *
 have hg0 : g ≠ [] := fun e => by rw [e] at gl; simp at gl; lia
 have hhd : (g.headD []).length = W := by
  match g, hg0 with
  | r :: _, _ => exact (gr r List.mem_cons_self).1
 obtain ⟨iA, eA⟩ := tS bx1
 obtain ⟨iB, eB⟩ := tS by1
 have c1 : ∀ n : Int, 32 ∉ (wr n).cps.toList := fun n => md (by decide) (by decide)
 have c2 : ∀ n : Int, 44 ∉ (wr n).cps.toList := fun n => md (by decide) (by decide)
 have e47 : prt 47 (mk (jl 47 g)) = g := mY hg0 fun r hr hc => by have := (gr r hr).2 47 hc; lia
 have f32 : 32 ∉ jl 47 g := oE (by decide) fun r hr hc => by have := (gr r hr).2 32 hc; lia
 have a32 := c1 a
 have b32 := c1 b
 clear c1 c2
 generalize (wr a).cps.toList = A at *
 generalize (wr b).cps.toList = B at *
 have e44 : prt 44 (mk (A ++ 44 :: B)) = [A, B] := mY (ws := [A, B]) (by simp) (by
  rintro w hw
  rcases List.mem_cons.mp hw with rfl | hw
  ·exact gA iA
  ·rw [List.mem_singleton.mp hw]; exact gA iB)
 have e32 : prt 32 (mk (A ++ 44 :: (B ++ 32 :: jl 47 g))) = [A ++ 44 :: B, jl 47 g] := by
  have h := mY (c := 32) (ws := [A ++ 44 :: B, jl 47 g]) (by simp) (by
   rintro w hw
   rcases List.mem_cons.mp hw with rfl | hw
   ·intro z
    rcases List.mem_append.mp z with z | z
    ·exact a32 z
    ·rcases List.mem_cons.mp z with z | z
     ·cases z
     ·exact b32 z
   ·rw [List.mem_singleton.mp hw]; exact f32)
  have e : jl 32 [A ++ 44 :: B, jl 47 g] = A ++ 44 :: (B ++ 32 :: jl 47 g) := by
   show (A ++ 44 :: B) ++ 32 :: jl 47 g = _
   simp
  rwa [e] at h
 have hc : isCel (A ++ 44 :: B) = true := by unfold isCel; rw [e44]; simp [iA, iB]
 have ec : celOf (A ++ 44 :: B) = (a, b) := by unfold celOf; rw [e44]; simp [eA, eB]
 have hne : A ++ 44 :: (B ++ 32 :: jl 47 g) ≠ [45] := fun e => by
  have : (44 : Nat) ∈ ([45] : List Nat) := by rw [<- e]; simp
  simp at this
 have hok : okR g a b = true := by
  unfold okR
  rw [hhd, gl, hcm, hbx]
  have hr : rect g = true := lZ.mpr fun r hr => ⟨by rw [hhd]; exact (gr r hr).1, (gr r hr).2⟩
  have hal : mss.all inB = true := List.all_eq_true.mpr hB
  have hem : mss.isEmpty = false := by rw [List.isEmpty_eq_false_iff]; exact h0
  rw [hr, hal, hem]
  simp only [Bool.not_false, Bool.and_true, Bool.and_eq_true, decide_eq_true_eq, and_true]
  lia
 unfold rdP
 rw [if_neg hne, e32]
 dsimp only
 rw [if_pos hc, ec, e47]
 dsimp only
 rw [if_pos hok, hhd, gl, hcm]
end My
namespace My
open PySem L2 VL
def pIr (ds : List D) (R : D -> Prop) : Prop := ∃ (l : List Nat) (mss : List (List Int)), ds = [.str (mk l), eL mss] /\ l.length <= 10000 /\ rdP l = some mss /\ Pc mss /\ R (.bl true)
theorem gm (mss : List (List Int)) : flats (mss.map eT) = true := by
 induction mss with
 | nil => rfl
 | cons c r ih => rw [List.map_cons]; simp only [flats, flat, eT, dG, Bool.true_and, Bool.and_self]; exact ih
section
variable {P : Program} {w : World} {K : PySem.W.Frag} {mg : Str -> Option Value} {base : Heap}
theorem C7 (S : Src K mg "_law_is_read" iZ) (T : Txt mg) (e1_ : Has P w K mg base 5 "read_picture" ["text"] (spP K pRp)) : Has P w K mg base 6 "_law_is_read" ["_law_text_here", "_law_live"] (spP K pIr) := by
 refine cF S eR (by walk_at "2") (fun ds R zq1 => by obtain ⟨_, _, e, _⟩ := zq1; rw [e]; rfl) fun f cdv A outer s H E hr => ⟨_, _, (ai (nG (fun _ h => gX (i := 2) eR.nd rfl (Or.inl rfl) h) (qL e1_ hr (ae (aa 0 (pv 0)) af)))
  (ai (bw (du (cJ (bU (b8 (ay (eY (K := K) rfl) eX (by rfl) T.isinstance_ aL (ae (aa 2 (pv 2)) (ae (ck (bZ (v := .ty "list") (by rfl) T.list_ jU rfl) (fun _ _ => .ty _)) af))))) (cu (aJ (j8 (K := K) rfl hr.units) gw (aa 2 (pv 2)) (aa 1 (pv 1)) (aF _))))) (ao (aH fG)) aN)
  (ai (sX PassesOwn.never rfl (bL rfl (aa 2 (pv 2))) (aw (i := 3) eR.nd rfl (Or.inl rfl) (Or.inl rfl)) (du (cJ (bU (b8 (ay (eY (K := K) rfl) eX (by rfl) T.isinstance_ aL (ae (aa 3 (pv 3)) (ae (ck (bZ (v := .ty "tuple") (by rfl) T.tuple_ kY rfl) (fun _ _ => .ty _)) af))))) (cu (aJ je pq (ay (gx (K := K) rfl) gv (by rfl) T.len_ cR (ae (aa 3 (pv 3)) af)) ah (aF _))))) (VSs.ps (K := K) (ao (aH fG))) (yG rfl (aa 3 (pv 3))) (aw (i := 4) eR.nd rfl (Or.inl rfl) (Or.inl rfl)) (du (cJ (bU (b8 (ay (eY (K := K) rfl) eX (by rfl) T.isinstance_ aL (ae (aa 4 (pv 4)) (ae (ck (bZ (v := .ty "int") (by rfl) T.int_ hU rfl) (fun _ _ => .ty _)) af))))) (cu (b8 (ay (eY (K := K) rfl) eX (by rfl) T.isinstance_ aL (ae (aa 4 (pv 4)) (ae (ck (bZ (v := .ty "bool") (by rfl) T.bool_ nk rfl) (fun _ _ => .ty _)) af))))))) (VSs.ps (K := K) (ao (aH fG))))
  (ai (j4 (qO 2 rfl (pv 2) (b9 (ae ah (ae ah af)))))
  (ai (j4 (yD 2 rfl (pv 2)))
  (ao (aH (b7 (j7 (K := K) rfl hr.units) gw (bA e1_ hr (ae (aa 0 (pv 0)) af)) (aa 1 (pv 1)) (aF _))))))))), ?_⟩
 rintro ds R ⟨l, mss, rfl, hl, hrd, hp, q⟩
 walk_at "sl"
 walk_at "rd"
 refine ⟨l, mss, rfl, hl, hrd, ?_⟩
 refine ⟨mss.map eT, rfl, gm mss, ?_⟩
 walk_at "rc"
 change fY true (eL mss) (eL mss) _
 refine nQ ff rfl ?_
 walk_at "rc"
 refine ⟨Nat.le_of_ble_eq_true rfl, Nat.le_of_ble_eq_true rfl, by decide, ?_⟩
 show yE (gJ 2) [.val (.str (mk l)), .val (eL mss), .val (eL mss), .no, .no] _
 walk_at "rd"
 refine ⟨rfl, fun d hd => ?_, ?_⟩
 ·obtain ⟨c, hc, rfl⟩ := List.mem_map.mp hd
  obtain ⟨x, y, rfl⟩ := hp.1 c hc
  refine ⟨?_, ?_⟩
  ·show vOr _ _ [.val (.str (mk l)), .val (eL mss), .val (eL mss), .val (.tup [.int x, .int y]), .no] _
   walk_at "rc"
   exact rfl
  ·show yF (gJ 3) [.val (.str (mk l)), .val (eL mss), .val (eL mss), .val (.tup [.int x, .int y]), .no] _
   walk_at "rd"
   refine ⟨rfl, fun d2 hd2 => ?_⟩
   have hd2 : d2 = .int x \/ d2 = .int y := by simpa using hd2
   rcases hd2 with rfl | rfl
   all_goals
    show vOr _ _ [.val (.str (mk l)), .val (eL mss), .val (eL mss), .val (.tup [.int x, .int y]), .val (.int _)] _
    walk_at "rc"
    exact rfl
 dsimp only [List.set_cons_zero, List.set_cons_succ]
 walk_at "rc"
 refine rp rfl (by rw [List.length_map]; have := hp.2; lia) ?_
 dsimp only [List.set_cons_zero, List.set_cons_succ]
 walk_at "rc"
 refine ⟨l, mss, rfl, hl, hrd, ?_⟩
 walk_at "rc"
 refine rF ff rfl ?_
 walk_at "rc"
 exact q
end
end My
namespace My
open PySem L2 VL
def flr (a : Int) (W H : Nat) : List (List Int) := (List.range (W * H)).map fun (k : Nat) => [a + ((k / H : Nat) : Int), ((k % H : Nat) : Int)]
theorem dR {a : Int} {W H : Nat} (hH : 0 < H) {c : List Int} : c ∈ flr a W H ↔ ∃ x y : Nat, x < W /\ y < H /\ c = [a + (x : Int), (y : Int)] := by
  unfold flr
  rw [List.mem_map]
  constructor
  · rintro ⟨k, hk, rfl⟩
    exact ⟨k / H, k % H, (Nat.div_lt_iff_lt_mul hH).mpr (List.mem_range.mp hk), Nat.mod_lt _ hH, rfl⟩
  · rintro ⟨x, y, hx, hy, rfl⟩
    refine ⟨x * H + y, List.mem_range.mpr ?_, ?_⟩
    · calc x * H + y < x * H + H := by lia
        _ = (x + 1) * H := by rw [Nat.succ_mul]
        _ <= W * H := Nat.mul_le_mul_right H hx
    · rw [show (x * H + y) / H = x by rw [Nat.mul_comm, Nat.mul_add_div hH, Nat.div_eq_of_lt hy, Nat.add_zero], show (x * H + y) % H = y by rw [Nat.mul_comm, Nat.mul_add_mod, Nat.mod_eq_of_lt hy]]
theorem wq {a : Int} {W H : Nat} (hH : 0 < H) : Asc (flr a W H) := by
 unfold Asc flr
 rw [List.pairwise_map]
 refine List.Pairwise.imp (fun {k k'} h => ?_) List.pairwise_lt_range
 have h : k < k' := h
 have h1 : k / H <= k' / H := Nat.div_le_div_right (Nat.le_of_lt h)
 have e1 := Nat.div_add_mod k H
 have e2 := Nat.div_add_mod k' H
 by_cases hq : k / H = k' / H
 ·have h2 : k % H < k' % H := by rw [hq] at e1; lia
  rw [hq]
  simp [HT.lexLt]
  lia
 ·generalize k / H = p at *
  generalize k' / H = p' at *
  generalize k % H = r at *
  generalize k' % H = r' at *
  have : p < p' := by lia
  have h3 : a + (p : Int) < a + (p' : Int) := by lia
  unfold HT.lexLt
  simp [h3]
  exact .inl (by lia)
theorem tU {a : Int} {W H : Nat} (hW : 0 < W) (hH : 0 < H) : mnI ((flr a W H).map fs) = a /\ mnI ((flr a W H).map sn) = 0 /\ mxI ((flr a W H).map fs) = a + (W : Int) - 1 /\ mxI ((flr a W H).map sn) = (H : Int) - 1 := by
 have m1 : [a + ((0 : Nat) : Int), ((0 : Nat) : Int)] ∈ flr a W H := (dR hH).mpr ⟨0, 0, hW, hH, rfl⟩
 have m2 : [a + ((W - 1 : Nat) : Int), ((H - 1 : Nat) : Int)] ∈ flr a W H := (dR hH).mpr ⟨W - 1, H - 1, by lia, by lia, rfl⟩
 have key : ∀ c ∈ flr a W H, a <= fs c /\ fs c <= a + (W : Int) - 1 /\ 0 <= sn c /\ sn c <= (H : Int) - 1 := fun c hc => by
  obtain ⟨x, y, hx, hy, rfl⟩ := (dR hH).mp hc
  show a <= a + (x : Int) /\ a + (x : Int) <= _ /\ 0 <= (y : Int) /\ (y : Int) <= _
  lia
 refine ⟨(eG (List.mem_map.mpr ⟨_, m1, ?_⟩) ?_).symm, (eG (List.mem_map.mpr ⟨_, m1, rfl⟩) ?_).symm, (ft (List.mem_map.mpr ⟨_, m2, ?_⟩) ?_).symm, (ft (List.mem_map.mpr ⟨_, m2, ?_⟩) ?_).symm⟩
 ·show a + ((0 : Nat) : Int) = a
  lia
 ·rintro z hz
  obtain ⟨c, hc, rfl⟩ := List.mem_map.mp hz
  exact (key c hc).1
 ·rintro z hz
  obtain ⟨c, hc, rfl⟩ := List.mem_map.mp hz
  exact (key c hc).2.2.1
 ·show a + ((W - 1 : Nat) : Int) = a + (W : Int) - 1
  lia
 ·rintro z hz
  obtain ⟨c, hc, rfl⟩ := List.mem_map.mp hz
  exact (key c hc).2.1
 ·show ((H - 1 : Nat) : Int) = (H : Int) - 1
  lia
 ·rintro z hz
  obtain ⟨c, hc, rfl⟩ := List.mem_map.mp hz
  exact (key c hc).2.2.2
theorem oK {a : Int} {W H : Nat} (hW : 0 < W) (hH : 0 < H) : txt (flr a W H) = (wr a).cps.toList ++ 44 :: ([48] ++ 32 :: jl 47 (List.replicate H (List.replicate W 35))) := by
 obtain ⟨e1, e2, e3, e4⟩ := tU (a := a) hW hH
 unfold txt
 rw [e1, e2, e3, e4]
 have hg : grd (flr a W H) a 0 (a + (W : Int) - 1 - a + 1).toNat ((H : Int) - 1 - 0 + 1).toNat = List.replicate H (List.replicate W 35) := by
  rw [show (a + (W : Int) - 1 - a + 1).toNat = W by lia, show ((H : Int) - 1 - 0 + 1).toNat = H by lia]
  unfold grd
  rw [List.eq_replicate_iff]
  refine ⟨by simp, fun r hr => ?_⟩
  obtain ⟨y, hy, rfl⟩ := List.mem_map.mp hr
  rw [List.eq_replicate_iff]
  refine ⟨by simp, fun c hc => ?_⟩
  obtain ⟨x, hx, rfl⟩ := List.mem_map.mp hc
  exact if_pos ((dR hH).mpr ⟨x, y, List.mem_range.mp hx, List.mem_range.mp hy, by rw [Int.zero_add]⟩)
 rw [hg]
 rfl
end My
namespace My
open PySem L2 VL
theorem tV (k : Nat) (x : Str) : (List.replicate k [D.str x]).flatten = (List.replicate k x).map D.str := by
 induction k with
 | zero => rfl
 | succ k ih => rw [List.replicate_succ, List.flatten_cons, ih, List.replicate_succ]; rfl
def pFh : List Int -> List D -> (D -> List Int -> Prop) -> Prop := fun pn ds R => ∃ b : Nat, ds = [] /\ Pn b pn /\ b <= 500 /\ ∀ pn', Pn (b + 10) pn' -> R (.bl true) pn'
section
variable {P : Program} {w : World} {K : PySem.W.Frag} {mg : Str -> Option Value} {base : Heap}
theorem C8 (S : Src K mg "_law_full_holds" dh) (T : Txt mg) (e0_ : Has P w K mg base 1 "_law_draw" ["_law_pen_here", "_law_many"] (spI K 0 oA)) (e4_ : Has P w K mg base 2 "_law_number" ["_law_pen_here"] (spI K 0 pNu)) (e5_ : Has P w K mg base 1 "_law_written" ["_law_number_here"] (spP K pWr)) (e1_ : Has P w K mg base 5 "read_picture" ["text"] (spP K pRp)) (e3_ : Has P w K mg base 2 "show_picture" ["picture"] (spP K oG)) : Has P w K mg base 6 "_law_full_holds" ["_law_pen_here"] (spI K 0 pFh) := by
 refine nH 0 S bG (by walk_at "1") (fun ns ds R zq1 => by obtain ⟨_, e, _⟩ := zq1; rw [e]; rfl) fun f cdv A outer s H E hr => ⟨_, _, (ai (aA (i := 1) bG.nd rfl (Or.inl rfl) (aq aW aC ah (bE e0_ hr (ae (aa 0 (pv 0)) (ae ah af)))))
  (ai (aA (i := 2) bG.nd rfl (Or.inr rfl) (aq aW aC ah (bE e0_ hr (ae (aa 0 (pv 0)) (ae (ay (oU rfl) Dk (by rfl) T.min_ iF (ae ah (ae (aq gK bI ah (aa 1 (pv 1))) af))) af)))))
  (ai (aA (i := 3) bG.nd rfl (Or.inr rfl) (bE e4_ hr (ae (aa 0 (pv 0)) af)))
  (ai (aA (i := 4) bG.nd rfl (Or.inl rfl) (aq bD dJ (aq bD dJ (bA e5_ hr (ae (aa 3 (pv 3)) af)) aM) (fM rfl aM (Ai (cf (ae (aq vO An aM (aa 1 (pv 1))) af)) (aa 2 (pv 2))))))
  (ai (aA (i := 5) bG.nd rfl (Or.inl rfl) (bA e1_ hr (ae (aa 4 (pv 4)) af)))
  (ai (iy (ii := 6) (tg := ["_law_k"]) (cs := ["_law_left", "_law_high"]) (ix := [3, 2]) bG.nd rfl (Or.inl rfl) (Or.inl rfl) (aI (aj dh) ["_law_pen_here", "_law_wide", "_law_high", "_law_left", "_law_text_here", "_law_found", "_law_due"] (by decide +kernel)) rfl (aG (by decide)) (by decide) (bB rfl T.range (ae (aq dm bI (aa 1 (pv 1)) (aa 2 (pv 2))) af)) (fun _ _ _ _ => (az (aw (i := 0) (show (["_law_k", "_law_left", "_law_high"] : List Str).Nodup by decide +kernel) rfl (Or.inl rfl) (by first | exact Or.inl rfl | exact Or.inr rfl)))) (fun _ _ _ _ => aX) (fun _ _ _ _ => (b9 (ae (aq aW aC (aa 1 (pv 1)) (aq gK bI (aa 0 (pv 0)) (aa 2 (pv 2)))) (ae (aq cP bI (aa 0 (pv 0)) (aa 2 (pv 2))) af)))))
  (ao (aH (cU (b7 (j7 (K := K) rfl hr.units) gw (aa 5 (pv 5)) (aa 6 (pv 6)) (aF _)) (fc (b7 eU jb (bA e3_ hr (ae (aa 5 (pv 5)) af)) (aa 4 (pv 4)) (aF _)))))))))))), ?_⟩
 rintro a pn ds es R hl ⟨b, e, hpn, hb, q⟩
 obtain rfl : ds = [] := List.eq_nil_of_length_eq_zero hl
 obtain rfl : es = [] := e
 walk_at "sl"
 walk_at "rd"
 refine ⟨b, 40, rfl, hpn, by lia, by lia, by lia, fun pn1 r1 h1 r1a r1b => ?_⟩
 walk_at "rd"
 obtain ⟨W, eW⟩ : ∃ n : Nat, 1 + r1 = (n : Int) := ⟨(1 + r1).toNat, by lia⟩
 rw [eW]
 have hW1 : 1 <= W := by lia
 have hW2 : W <= 40 := by lia
 have hdl : (1000 / (W : Int)) = ((1000 / W : Nat) : Int) := by lia
 obtain ⟨M, eM, hM0, hM1, hMW⟩ : ∃ M : Nat, (if 1000 / (W : Int) < 40 then 1000 / (W : Int) else 40) = (M : Int) /\ 1 <= M /\ M <= 40 /\ W * M <= 1000 := by
  have h25 : 25 <= 1000 / W := (Nat.le_div_iff_mul_le hW1).mpr (by lia)
  have hmul : W * (1000 / W) <= 1000 := Nat.mul_div_le 1000 W
  rw [hdl]
  by_cases hc : 1000 / W < 40
  ·exact ⟨1000 / W, if_pos (by lia), by lia, by lia, hmul⟩
  ·refine ⟨40, if_neg (by lia), by lia, by lia, Nat.le_trans (Nat.mul_le_mul_left W (by lia)) hmul⟩
 rw [eM]
 refine ⟨b + 1, M, rfl, h1, by lia, by lia, by lia, fun pn2 r2 h2 r2a r2b => ?_⟩
 walk_at "rd"
 obtain ⟨Hh, eH⟩ : ∃ n : Nat, 1 + r2 = (n : Int) := ⟨(1 + r2).toNat, by lia⟩
 rw [eH]
 have hH1 : 1 <= Hh := by lia
 have hH2 : Hh <= 40 := by lia
 have hWH : W * Hh <= 1000 := Nat.le_trans (Nat.mul_le_mul_left W (by lia)) hMW
 refine ⟨b + 2, rfl, h2, by lia, fun x pn3 hx h3 => ?_⟩
 have e59 : N59 = 100000000000000000000000000000000000000000000000000000000000 := by decide
 have e60 : (10 : Nat) ^ 60 = 1000000000000000000000000000000000000000000000000000000000000 := by decide
 have e61 : (10 : Nat) ^ 61 = 10000000000000000000000000000000000000000000000000000000000000 := by decide
 have hx61 : x.natAbs < 10 ^ 61 := by rw [e61]; rw [e59] at hx; lia
 walk_at "rd"
 refine ⟨x, rfl, hx61, ?_⟩
 have lx : (wr x).length <= 62 := de (by decide) hx61
 have lapp : ∀ x y : Str, (x ++ y).length = x.length + y.length := fun x y => by
  show (x.cps ++ y.cps).size = _
  rw [Array.size_append]; rfl
 have tj : ∀ (s : Str) (ws : List Str), Txt.join s ws = Str.join s ws := fun s ws => StrLaws.glued_eq_join _ _
 walk_at "rd"
 refine dr (bC (by show (wr x).length + 3 <= _; lia)) ?_
 walk_at "rd"
 change sY (.str ⟨#[35]⟩) (.int (W : Int)) _
 refine Ao (by lia) ?_
 walk_at "rd"
 refine vK (by show 1 * Hh <= _; lia) (by lia) ?_
 have er : (⟨(List.replicate W 35).toArray⟩ : Str) = mk (List.replicate W 35) := rfl
 rw [er, tV]
 have srep : ∀ n : Nat, ((List.replicate n (mk (List.replicate W 35))).map fun z : Str => z.length).sum = n * W := fun n => by
  induction n with
  | zero => simp
  | succ n ih => rw [List.replicate_succ, List.map_cons, List.sum_cons, ih, aS, List.length_replicate, Nat.succ_mul]; lia
 have hHW : Hh * W <= 1000 := by rw [Nat.mul_comm]; exact hWH
 refine mU rfl (PyProof.Rows.joinOk_of (by rw [srep, List.length_replicate, show (Str.ofString "/").length = 1 from rfl]; lia)) ?_
 have ej : (Txt.join (Str.ofString "/") (List.replicate Hh (mk (List.replicate W 35)))).cps.toList = jl 47 (List.replicate Hh (List.replicate W 35)) := by
  rw [tj, show Str.ofString "/" = ⟨#[47]⟩ from rfl, fN, List.map_replicate, aB]
 have lj : (jl 47 (List.replicate Hh (List.replicate W 35))).length <= 8000 := by
  have := fS (c := 47) (W := W) (ws := List.replicate Hh (List.replicate W 35)) fun w hw => by
   rw [List.eq_of_mem_replicate hw, List.length_replicate]
   lia
  rw [List.length_replicate, Nat.mul_add] at this
  lia
 have lj2 : (Txt.join (Str.ofString "/") (List.replicate Hh (mk (List.replicate W 35)))).length <= 8000 := by
  show Array.size _ <= _
  rw [<- Array.length_toList, ej]
  exact lj
 walk_at "rd"
 refine dr (bC (by rw [lapp, show (Str.ofString ",0 ").length = 3 from rfl]; lia)) ?_
 have fin : wr x ++ Str.ofString ",0 " ++ Txt.join (Str.ofString "/") (List.replicate Hh (mk (List.replicate W 35))) = mk (txt (flr x W Hh)) := cN (by
  rw [bf, bf, ej, aB, oK hW1 hH1, show (Str.ofString ",0 ").cps.toList = [44, 48, 32] from rfl]
  simp)
 rw [fin]
 have ltx : (txt (flr x W Hh)).length <= 10000 := by
  rw [oK hW1 hH1]
  simp only [List.length_append, List.length_cons, List.length_nil]
  have : (wr x).cps.toList.length = (wr x).length := Array.length_toList
  lia
 clear fin ej lj2
 walk_at "rd"
 have hp : Pc (flr x W Hh) := ⟨fun c hc => by obtain ⟨p, r, _, _, rfl⟩ := (dR hH1).mp hc; exact ⟨_, _, rfl⟩, by unfold flr; rw [List.length_map, List.length_range]; lia⟩
 have hB : ∀ c ∈ flr x W Hh, inB c = true := fun c hc => by
  obtain ⟨p, r, hp, hr, rfl⟩ := (dR hH1).mp hc
  unfold inB
  rw [Bool.and_eq_true, decide_eq_true_eq, decide_eq_true_eq, e60]
  rw [e59] at hx
  show (x + (p : Int)).natAbs < _ /\ ((r : Int)).natAbs < _
  lia
 obtain ⟨b1, b2, b3, b4⟩ := tU (a := x) hW1 hH1
 have hS : Shw (flr x W Hh) := by unfold Shw; rw [b1, b2, b3, b4]; lia
 have hne : flr x W Hh ≠ [] := fun z => by
  have := (dR (a := x) hH1).mpr ⟨0, 0, hW1, hH1, rfl⟩
  rw [z] at this
  cases this
 have hrd := tT (wq hH1) hne hp hB hS
 refine ⟨txt (flr x W Hh), flr x W Hh, rfl, ltx, hrd, ?_⟩
 walk_at "rd"
 rw [show ((W : Int) * (Hh : Int)) = ((W * Hh : Nat) : Int) from (Int.natCast_mul W Hh).symm]
 walk_at "rd"
 refine comp_map (xs := List.range (W * Hh)) (en := fun (i : Nat) => .int (0 + (i : Int))) (f := fun (k : Nat) => eT [x + ((k / Hh : Nat) : Int), ((k % Hh : Nat) : Int)]) (by rw [List.length_range]; lia) (fun k hk A B hA => ?_) ?_
 ·dsimp only [aZ, List.replicate, List.map_cons, List.map_nil, List.cons_append, List.nil_append]
  rw [Int.zero_add] at *
  walk_at "rd"
  exact hA _ rfl
 rw [show (List.range (W * Hh)).map (fun (k : Nat) => eT [x + ((k / Hh : Nat) : Int), ((k % Hh : Nat) : Int)]) = (flr x W Hh).map eT by unfold flr; rw [List.map_map]; rfl]
 walk_at "rd"
 change fY false (eL (flr x W Hh)) (eL (flr x W Hh)) _
 refine rF ff rfl ?_
 walk_at "rc"
 refine ⟨_, rfl, hp, fun z => absurd z hne, fun _ => ⟨hS, by rw [b1]; exact hx61, by rw [b2]; decide, ?_⟩⟩
 walk_at "rd"
 rw [decide_eq_true rfl]
 exact ⟨_, rfl, q _ (h3.le (by lia))⟩
end
end My
namespace My
open PySem L2 VL
theorem oM {l : List Int} {d : Int} (h : l ≠ []) : mnI (l.map (· + d)) = mnI l + d := by
 refine (eG (List.mem_map.mpr ⟨_, bJ h, rfl⟩) fun z hz => ?_).symm
 obtain ⟨c, hc, rfl⟩ := List.mem_map.mp hz
 have := eF hc
 show mnI l + d <= c + d
 lia
theorem xE {l : List Int} {d : Int} (h : l ≠ []) : mxI (l.map (· + d)) = mxI l + d := by
 refine (ft (List.mem_map.mpr ⟨_, vU h, rfl⟩) fun z hz => ?_).symm
 obtain ⟨c, hc, rfl⟩ := List.mem_map.mp hz
 have := cX hc
 show c + d <= mxI l + d
 lia
theorem oN {dx dy : Int} (hp : Pc mss) : (mss.map (mv dx dy)).map fs = (mss.map fs).map (· + dx) /\ (mss.map (mv dx dy)).map sn = (mss.map sn).map (· + dy) := by
 rw [List.map_map, List.map_map, List.map_map, List.map_map]
 constructor <;> refine List.map_congr_left fun c hc => ?_
 all_goals
  obtain ⟨x, y, rfl⟩ := hp.1 c hc
  rfl
theorem xF (h : Lq mss) : Pc mss := ⟨fun c hc => by obtain ⟨x, y, rfl, _⟩ := h.2.2 c hc; exact ⟨x, y, rfl⟩, by have := h.1; lia⟩
theorem xG (h : Lq mss) (h0 : mss ≠ []) : (mnI (mss.map fs)).natAbs < 2 * N59 /\ (mnI (mss.map sn)).natAbs < 2 * N59 := by
 constructor
 ·obtain ⟨c, hc, e⟩ := List.mem_map.mp (bJ (show mss.map fs ≠ [] by simpa using h0))
  obtain ⟨x, y, rfl, hx, hy⟩ := h.2.2 c hc
  rw [<- e]; exact hx
 ·obtain ⟨c, hc, e⟩ := List.mem_map.mp (bJ (show mss.map sn ≠ [] by simpa using h0))
  obtain ⟨x, y, rfl, hx, hy⟩ := h.2.2 c hc
  rw [<- e]; exact hy
theorem wt (hS : Shw mss) (ha : (mnI (mss.map fs)).natAbs < 10 ^ 61) (hb : (mnI (mss.map sn)).natAbs < 10 ^ 61) : (txt mss).length <= 10000 := by
 unfold txt
 obtain ⟨s1, s2⟩ := hS
 have la : (wr (mnI (mss.map fs))).length <= 62 := de (by decide) ha
 have lb : (wr (mnI (mss.map sn))).length <= 62 := de (by decide) hb
 generalize mnI (mss.map fs) = a at *
 generalize mnI (mss.map sn) = b at *
 generalize hW : (mxI (mss.map fs) - a + 1).toNat = W at *
 generalize hH : (mxI (mss.map sn) - b + 1).toNat = H at *
 have lj : (jl 47 (grd mss a b W H)).length <= H * (W + 1) := by
  have := fS (c := 47) (W := W) (ws := grd mss a b W H) fun w hw => by
   have := (oJ w hw).1
   lia
  rwa [oI] at this
 have : H * (W + 1) <= 40 * 41 := Nat.mul_le_mul (by lia) (by lia)
 have e1 : (wr a).cps.toList.length = (wr a).length := Array.length_toList
 have e2 : (wr b).cps.toList.length = (wr b).length := Array.length_toList
 simp only [List.length_append, List.length_cons]
 lia
def tx (mss : List (List Int)) : List Nat := if mss = [] then [45] else txt mss
def Bd (mss : List (List Int)) : Prop := mss ≠ [] -> (mnI (mss.map fs)).natAbs < 10 ^ 61 /\ (mnI (mss.map sn)).natAbs < 10 ^ 61
theorem xH {R : D -> Prop} (hp : Pc mss) (hb : Bd mss) (h1 : mss ≠ [] -> ¬Shw mss -> R .non) (h2 : Shw mss -> R (.str (mk (tx mss)))) : pTe [eL mss] R := by
 refine ⟨mss, rfl, hp, fun z => ?_, h1, fun h0 hs => ⟨(hb h0).1, (hb h0).2, ?_⟩⟩
 ·subst z
  exact h2 (by unfold Shw; decide)
 ·have := h2 hs
  unfold tx at this
  rwa [if_neg h0] at this
theorem oO {R : D -> Prop} (hp : Pc mss) (hb : Bd mss) (hs : Shw mss) (h2 : R (.str (mk (tx mss)))) : oG [eL mss] R := by
 refine ⟨mss, rfl, hp, fun z => ?_, fun h0 => ⟨hs, (hb h0).1, (hb h0).2, ?_⟩⟩
 ·subst z
  exact h2
 ·unfold tx at h2
  rwa [if_neg h0] at h2
theorem C9 (h : Lq mss) (hs : Shw mss) (hb : Bd mss) : rdP (tx mss) = some mss /\ (tx mss).length <= 10000 := by
 unfold tx
 by_cases h0 : mss = []
 ·subst h0
  rw [if_pos rfl]
  exact ⟨by decide +kernel, by decide⟩
 ·rw [if_neg h0]
  refine ⟨tT h.2.1 h0 (xF h) (fun c hc => ?_) hs, wt hs (hb h0).1 (hb h0).2⟩
  obtain ⟨x, y, rfl, hx, hy⟩ := h.2.2 c hc
  have e59 : N59 = 100000000000000000000000000000000000000000000000000000000000 := by decide
  have e60 : (10 : Nat) ^ 60 = 1000000000000000000000000000000000000000000000000000000000000 := by decide
  unfold inB
  rw [Bool.and_eq_true, decide_eq_true_eq, decide_eq_true_eq, e60]
  rw [e59] at hx hy
  show x.natAbs < _ /\ y.natAbs < _
  lia
theorem Da {dx dy : Int} (hp : Pc mss) : Pc (mss.map (mv dx dy)) := ⟨fun c hc => by
 obtain ⟨d, hd, rfl⟩ := List.mem_map.mp hc
 obtain ⟨x, y, rfl⟩ := hp.1 d hd
 exact ⟨_, _, rfl⟩, by rw [List.length_map]; exact hp.2⟩
theorem AH {dx dy : Int} (hp : Pc mss) (hs : Shw mss) : Shw (mss.map (mv dx dy)) := by
 by_cases h0 : mss = []
 ·subst h0; exact hs
 unfold Shw at *
 rw [(oN hp).1, (oN hp).2, oM (by simpa using h0), oM (by simpa using h0), xE (by simpa using h0), xE (by simpa using h0)]
 lia
section
variable {P : Program} {w : World} {K : PySem.W.Frag} {mg : Str -> Option Value} {base : Heap}
theorem AI (S : Src K mg "law" Ap) (T : Txt mg) (e6_ : Has P w K mg base 1 "_law_pen" ["_law_script", "_law_k"] (spP K CS)) (e14_ : Has P w K mg base 3 "_law_picture" ["_law_pen_here"] (spI K 0 pPi)) (e7_ : Has P w K mg base 2 "_law_text" ["_law_live"] (spP K pTe)) (e10_ : Has P w K mg base 3 "_law_refused" ["_law_live"] (spP K C4)) (e3_ : Has P w K mg base 2 "show_picture" ["picture"] (spP K oG)) (e12_ : Has P w K mg base 6 "_law_is_read" ["_law_text_here", "_law_live"] (spP K pIr)) (e15_ : Has P w K mg base 1 "moved" ["picture", "move"] (spP K tQ))
  (e11_ : Has P w K mg base 6 "_law_full_holds" ["_law_pen_here"] (spI K 0 pFh)) (e1_ : Has P w K mg base 5 "read_picture" ["text"] (spP K pRp)) : Has P w K mg base 7 "law" ["_law_script"] (spP K vQ) := by
 refine cF S i5 (by walk_at "1") (fun ds R zq1 => by obtain ⟨_, e, _⟩ := zq1; rw [e]; rfl) fun f cdv A outer s H E hr => ⟨_, _, (ai (qQ PassesOwn.never rfl (bB rfl T.range (ae ah af)) (az (aw (i := 1) i5.nd rfl (Or.inl rfl) (Or.inl rfl))) (ai (aA (i := 2) i5.nd rfl (Or.inl rfl) (rK e14_ hr (qL e6_ hr (ae (aa 0 (pv 0)) (ae (aa 1 (pv 1)) af)))))
  (ai (aA (i := 3) i5.nd rfl (Or.inl rfl) (bA e7_ hr (ae (aa 2 (pv 2)) af)))
  (ai (aA (i := 4) i5.nd rfl (Or.inl rfl) (aT (uq rfl (by rfl) T.list_ (ae (aa 2 (pv 2)) af))))
  (ao (bw (aJ ml qG (aa 3 (pv 3)) fW (aF _)) (ao (bw (du (cJ (bU (b8 (bA e10_ hr (ae (aa 4 (pv 4)) af)))) (cu (aJ (j8 (K := K) rfl hr.units) gw (aa 4 (pv 4)) (aa 2 (pv 2)) (aF _))))) (ao (aH fG)) aN)) (ai (aA (i := 5) i5.nd rfl (Or.inl rfl) (bA e3_ hr (ae (aa 4 (pv 4)) af)))
  (ai (bw (du (cJ (bU (b8 (ay (eY (K := K) rfl) eX (by rfl) T.isinstance_ aL (ae (aa 5 (pv 5)) (ae (ck (bZ (v := .ty "str") (by rfl) T.str_ mK rfl) (fun _ _ => .ty _)) af))))) (cJ (aJ je pq (aa 5 (pv 5)) (aa 3 (pv 3)) (aF _)) (cJ (aJ (j8 (K := K) rfl hr.units) gw (aa 4 (pv 4)) (aa 2 (pv 2)) (aF _)) (cu (bU (b8 (bA e12_ hr (ae (aa 3 (pv 3)) (ae (aa 2 (pv 2)) af)))))))))) (ao (aH fG)) aN)
  (ai (aA (i := 6) i5.nd rfl (Or.inl rfl) (bA e15_ hr (ae (aa 4 (pv 4)) (ae (b9 (ae (aq bK aC (aq cG bI ah ah) ah) (ae (aq bK aC ah (aq cG bI ah ah)) af))) af))))
  (ao (bw (du (cJ (aJ je pq (bA e3_ hr (ae (aa 6 (pv 6)) af)) (bA e7_ hr (ae (aa 6 (pv 6)) af)) (aF _)) (cu (bU (b8 (rK e11_ hr (qL e6_ hr (ae (aa 0 (pv 0)) (ae (aq aW aC ah (aa 1 (pv 1))) af))))))))) (ao (aH fG)) aN)))))))))))
  (ao (aH (cU (b7 eU jb (bA e3_ hr (ae (aT (cf af)) af)) aM (aF _)) (fc (b7 (j7 (K := K) rfl hr.units) gw (bA e1_ hr (ae aM af)) (aT (cf af)) (aF _))))))), ?_⟩
 rintro ds R ⟨ns, rfl, hn, q⟩
 have e59 : N59 = 100000000000000000000000000000000000000000000000000000000000 := by decide
 have e61 : (10 : Nat) ^ 61 = 10000000000000000000000000000000000000000000000000000000000000 := by decide
 have e6 : (10 ^ Int.toNat 60 : Int) = 1000000000000000000000000000000000000000000000000000000000000 := by decide
 walk_at "sl"
 walk_at "rd"
 refine nM (fun i S => ∃ v1 v2 v3 v4 v5 v6, S = [.val (.lst (ns.map .int)), v1, v2, v3, v4, v5, v6]) ⟨_, _, _, _, _, _, rfl⟩ ?_ ?_
 ·rintro i S hi ⟨v1, v2, v3, v4, v5, v6, rfl⟩
  have hi' : i < 4 := hi
  rw [Int.zero_add]
  walk_at "rd"
  refine ⟨ns, i, rfl, by lia, fun x y => ⟨_, rfl, rfl, ?_⟩⟩
  refine rL (ns := [x, y, 0]) rfl ?_
  refine ⟨0, rfl, ⟨x, y, 0, rfl, by lia, by lia⟩, by lia, fun mss pn1 hL h1 => ?_⟩
  walk_at "rd"
  have hp := xF hL
  have hb : Bd mss := fun h0 => by
   obtain ⟨n1, n2⟩ := xG hL h0
   rw [e59] at n1 n2
   rw [e61]
   lia
  refine xH hp hb (fun h0 hs => ?_) (fun hs => ?_)
  ·walk_at "rd"
   refine lF rfl (gm mss) ?_
   walk_at "rc"
   refine ⟨mss, rfl, hp, h0, hs, ?_⟩
   walk_at "rc"
   change fY true (eL mss) (eL mss) _
   refine nQ ff rfl ?_
   walk_at "rc"
   exact ⟨_, _, _, _, _, _, rfl⟩
  ·obtain ⟨hrd, hl⟩ := C9 hL hs hb
   walk_at "rd"
   refine lF rfl (gm mss) ?_
   walk_at "rc"
   refine oO hp hb hs ?_
   walk_at "rc"
   rw [decide_eq_true rfl]
   walk_at "rc"
   change fY true (eL mss) (eL mss) _
   refine nQ ff rfl ?_
   walk_at "rc"
   refine ⟨_, mss, rfl, hl, hrd, hp, ?_⟩
   walk_at "rc"
   refine ⟨mss, _, _, rfl, hp, ?_⟩
   rw [e6]
   have hp' := Da (dx := 1000000000000000000000000000000000000000000000000000000000000 - 1) (dy := 1 - 1000000000000000000000000000000000000000000000000000000000000) hp
   have hs' := AH (dx := 1000000000000000000000000000000000000000000000000000000000000 - 1) (dy := 1 - 1000000000000000000000000000000000000000000000000000000000000) hp hs
   have hb' : Bd (mss.map (mv (1000000000000000000000000000000000000000000000000000000000000 - 1) (1 - 1000000000000000000000000000000000000000000000000000000000000))) := fun h0 => by
    have h0 : mss ≠ [] := by simpa using h0
    obtain ⟨n1, n2⟩ := xG hL h0
    rw [e59] at n1 n2
    rw [e61, (oN hp).1, (oN hp).2, oM (by simpa using h0), oM (by simpa using h0)]
    lia
   generalize mss.map (mv _ _) = far at hp' hs' hb' ⊢
   walk_at "rc"
   refine oO hp' hb' hs' ?_
   walk_at "rc"
   refine xH hp' hb' (fun _ hs => absurd hs' hs) (fun _ => ?_)
   walk_at "rc"
   rw [decide_eq_true rfl]
   walk_at "rc"
   refine ⟨ns, 4 + i, by rw [Int.natCast_add]; rfl, by lia, fun x y => ⟨_, rfl, rfl, ?_⟩⟩
   refine rL (ns := [x, y, 0]) rfl ?_
   refine ⟨0, rfl, ⟨x, y, 0, rfl, by lia, by lia⟩, by lia, fun pn2 h2 => ?_⟩
   walk_at "rc"
   exact ⟨_, _, _, _, _, _, rfl⟩
 ·rintro S ⟨v1, v2, v3, v4, v5, v6, rfl⟩
  walk_at "rd"
  have hp0 : Pc [] := ⟨fun _ h => (nomatch h), Nat.zero_le _⟩
  refine ⟨[], rfl, hp0, fun _ => ?_, fun h => absurd rfl h⟩
  walk_at "rc"
  refine ⟨[45], [], rfl, by decide, by decide +kernel, ?_⟩
  walk_at "rc"
  exact q
end
end My
namespace My
open PySem L2 VL
theorem AJ {l : PySem.W.OpenLaw} {w : World} {h : Heap} {mg : Str -> Option Value} {fa : Addr}  {t_MOST_FIGURES : Tok}  {t_MOST_SIDE : Tok} {t_FIGURES : Tok} {c_NoText : Addr}  {c_CellError : Addr}  {c_TooWide : Addr}  {c_NoSize : Addr} (X : K.In h) (G : h.Ns mainGlobals mg) (hfa : mg "law" = some (.ref fa))
    (S0 : Src K mg "_law_pen" tm) (S1 : Src K mg "_law_draw" mX) (S2 : Src K mg "read_number" df) (S3 : Src K mg "read_cell" f9) (S4 : Src K mg "is_whole" iV) (S5 : Src K mg "is_pair" kE) (S6 : Src K mg "is_cell" kF) (S7 : Src K mg "is_picture" cV) (S8 : Src K mg "box_of" iW) (S9 : Src K mg "is_row" kI) (S10 : Src K mg "read_picture" cg) (S11 : Src K mg "show_picture" aU) (S12 : Src K mg "show_picture" aU) (S13 : Src K mg "_law_written" gj) (S14 : Src K mg "_law_refused" gk) (S15 : Src K mg "moved" kG) (S16 : Src K mg "_law_number" iY) (S17 : Src K mg "_law_picture" gc) (S18 : Src K mg "_law_text" dN) (S19 : Src K mg "_law_is_read" iZ) (S20 : Src K mg "_law_full_holds" dh) (S21 : Src K mg "law" Ap)
     (i_MOST_FIGURES : PySem.W.nsIn K mainGlobals "MOST_FIGURES" = some (some (.int 60 t_MOST_FIGURES)))  (i_MOST_SIDE : PySem.W.nsIn K mainGlobals "MOST_SIDE" = some (some (.int 40 t_MOST_SIDE))) (s_FIGURES : PySem.W.nsIn K mainGlobals "FIGURES" = some (some (.str "0123456789" t_FIGURES))) (h_NoText : PySem.W.nsIn K mainGlobals "NoText" = some (some (.ref c_NoText)))  (h_CellError : PySem.W.nsIn K mainGlobals "CellError" = some (some (.ref c_CellError)))  (h_TooWide : PySem.W.nsIn K mainGlobals "TooWide" = some (some (.ref c_TooWide)))  (h_NoSize : PySem.W.nsIn K mainGlobals "NoSize" = some (some (.ref c_NoSize))) (y0 : PySem.W.nsIn K mainGlobals "ValueError" = some none) (y1 : PySem.W.excIn K c_TooWide [.type "ValueError", .type "Exception", .type "BaseException", .type "object"] "ValueError.__new__" = true) (y2 : PySem.W.exmOne K (.ref c_TooWide) (.ref c_CellError) = some true) (y3 : dX K c_TooWide = true) (y4 : PySem.W.kitOne K (.ref c_TooWide) (.ref c_TooWide) = some true) (y5 : PySem.W.kitOne K (.ref c_TooWide) (.type "ValueError") = some true) (y6 : PySem.W.kitAny K (.ref c_TooWide) [.ref c_NoSize, .ref c_NoText] = some false)
    (z0 : PySem.W.nsIn K mainGlobals "len" = some none) (z1 : PySem.W.nsIn K mainGlobals "range" = some none) (z2 : PySem.W.nsIn K mainGlobals "abs" = some none) (z3 : PySem.W.nsIn K mainGlobals "isinstance" = some none) (z4 : PySem.W.nsIn K mainGlobals "int" = some none) (z5 : PySem.W.nsIn K mainGlobals "bool" = some none) (z6 : PySem.W.nsIn K mainGlobals "list" = some none) (z7 : PySem.W.nsIn K mainGlobals "tuple" = some none) (z8 : PySem.W.nsIn K mainGlobals "sorted" = some none) (z9 : PySem.W.nsIn K mainGlobals "max" = some none) (z10 : PySem.W.nsIn K mainGlobals "min" = some none) (z11 : PySem.W.nsIn K mainGlobals "all" = some none) (z12 : PySem.W.nsIn K mainGlobals "any" = some none) (z13 : PySem.W.nsIn K mainGlobals "set" = some none) (z14 : PySem.W.nsIn K mainGlobals "sum" = some none) (z15 : PySem.W.nsIn K mainGlobals "str" = some none) (z16 : PySem.W.nsIn K mainGlobals "dict" = some none) (z17 : PySem.W.nsIn K mainGlobals "zip" = some none) (z18 : PySem.W.nsIn K mainGlobals "enumerate" = some none) :
    ∃ fd : FuncData, (∀ (s : Shared) (v : Value), BindsTo s fd ⟨[v], []⟩ [("_law_script", v)]) /\ ∀ base : Heap, K.In base -> base.Ns mainGlobals mg -> gC l.prog w K mg base CX0 7 fa fd ["_law_script"] (spP K vQ) := by
  have no := fun {n : Str} (z : PySem.W.nsIn K mainGlobals n = some none) => PySem.W.mg_none_of X G z
  have T : Txt mg := ⟨no z0, no z1, no z2, no z3, no z4, no z5, no z6, no z7, no z8, no z9, no z10, no z11, no z12, no z13, no z14, no z15, no z16, no z17, no z18⟩
  refine uf S21 hfa (fun _ _ _ _ _ _ _ => rfl) fun base => ?_
  have e6_ := Aq (P := l.prog) (w := w) (base := base) S0 T
  have e0_ := vR (P := l.prog) (w := w) (base := base) S1 T
  have e8_ := CT (P := l.prog) (w := w) (base := base) S2 T  (PySem.W.mg_of X G i_MOST_FIGURES) (PySem.W.mg_of X G s_FIGURES)
  have e13_ := CV (P := l.prog) (w := w) (base := base) S3 T e8_
  have e9_ := CZ (P := l.prog) (w := w) (base := base) S4 T
  have e19_ := v8 (P := l.prog) (w := w) (base := base) S5 T e9_
  have e18_ := v9 (P := l.prog) (w := w) (base := base) S6 T e19_
  have e16_ := tK (P := l.prog) (w := w) (base := base) S7 T e18_
  have e2_ := Aw (P := l.prog) (w := w) (base := base) S8 T
  have e17_ := Ax (P := l.prog) (w := w) (base := base) S9 T
  have e1_ := C3 (P := l.prog) (w := w) (base := base) S10 T e13_ e17_ e16_ e2_ (PySem.W.mg_of X G i_MOST_SIDE)
  have e3_ := wa (P := l.prog) (w := w) (base := base) S11 T e2_ (PySem.W.mg_of X G i_MOST_SIDE)
  have e20_ := tP (P := l.prog) (w := w) (base := base) S12 T e2_ (PySem.W.mg_of X G i_MOST_SIDE) (PySem.W.mg_of X G h_TooWide) y1
  have e5_ := C5 (P := l.prog) (w := w) (base := base) S13 T
  have e10_ := AB (P := l.prog) (w := w) (base := base) S14 T e20_ (PySem.W.mg_of X G h_CellError) (PySem.W.mg_of X G h_TooWide) (PySem.W.mg_of X G h_NoSize) (PySem.W.mg_of X G h_NoText) (no y0) y2 y3 y4 y5 y6
  have e15_ := tR (P := l.prog) (w := w) (base := base) S15 T
  have e4_ := C6 (P := l.prog) (w := w) (base := base) S16 T e0_
  have e14_ := AD (P := l.prog) (w := w) (base := base) S17 T e4_ e0_
  have e7_ := wm (P := l.prog) (w := w) (base := base) S18 T e5_
  have e12_ := C7 (P := l.prog) (w := w) (base := base) S19 T e1_
  have e11_ := C8 (P := l.prog) (w := w) (base := base) S20 T e0_ e4_ e5_ e1_ e3_
  exact AI (P := l.prog) (w := w) (base := base) S21 T e6_ e14_ e7_ e10_ e3_ e12_ e15_ e11_ e1_
theorem walk {l : PySem.W.OpenLaw} {q : Program} {loose : List Str} {XP : (Str -> Option Value) -> Heap -> Prop} {YP : World -> Heap -> Prop} {d : DefRec} {K : Params -> PySem.W.Frag} (hn : l.most = some 63) (hdf : d.params.defaults = [])
  (hY : ∀ (w : World) (h : Heap), YP w h -> (K w.params).In h)
  (F : ∀ (w : World) (mg : Str -> Option Value) (fa : Addr) (h : Heap), (K w.params).In h -> h.Ns mainGlobals mg -> mg d.name = some (.ref fa) ->
   ∃ fd : FuncData, (∀ (s : Shared) (u : Value), BindsTo s fd ⟨[u], []⟩ [("_law_script", u)]) /\ ∀ base : Heap, (K w.params).In base -> base.Ns mainGlobals mg -> gC l.prog w (K w.params) mg base CX0 7 fa fd ["_law_script"] (spP (K w.params) vQ)) :
  PySem.W.WalkO q loose XP YP l.row.toRowW d [] (fun f vs => PySem.call f vs) :=
 L2.ue (n := 63) (k := 7) (x := "_law_script") (CX := fun _ => CX0) (sp := fun w => spP (K w.params) vQ) hn (by decide) hdf ⟨rfl, by decide, by decide, rfl⟩ hY F
  (fun _ _ a ns hl _ hS => ⟨_, fun d => d = .bl true, .cons (Rep.of_sqL hS trivial (fun _ => trivial) Reps.ints) .nil, ⟨ns, rfl, hl, rfl⟩, fun d v H' e _ r => by subst e; cases r; rfl⟩) fun _ _ _ _ _ z => z
end My
open PySem PySem.W PyProof.Rows
set_option maxRecDepth 100000 in
set_option maxHeartbeats 0 in
theorem PySem.Challenge.cw_cellships_k65_picture_texts_holds : PySem.Challenge.rw_cellships_k65_picture_texts.Holds := by
 w_on; o_law; k_head; (case hw => w_witness2)
 k_fill
 refine My.walk (l := PySem.Challenge.rw_cellships_k65_picture_texts) rfl rfl (fun w h Y => PySem.W.kIn_of Y) ?F
 case F =>
  intro w mg fa h KX G hmg
  refine' My.AJ KX G hmg (L2.br KX G ?a0 ?l0 ?c0 ?k0) (L2.br KX G ?a1 ?l1 ?c1 ?k1) (L2.br KX G ?a2 ?l2 ?c2 ?k2) (L2.br KX G ?a3 ?l3 ?c3 ?k3) (L2.br KX G ?a4 ?l4 ?c4 ?k4) (L2.br KX G ?a5 ?l5 ?c5 ?k5) (L2.br KX G ?a6 ?l6 ?c6 ?k6) (L2.br KX G ?a7 ?l7 ?c7 ?k7) (L2.br KX G ?a8 ?l8 ?c8 ?k8) (L2.br KX G ?a9 ?l9 ?c9 ?k9) (L2.br KX G ?a10 ?l10 ?c10 ?k10) (L2.br KX G ?a11 ?l11 ?c11 ?k11) (L2.br KX G ?a12 ?l12 ?c12 ?k12) (L2.br KX G ?a13 ?l13 ?c13 ?k13) (L2.br KX G ?a14 ?l14 ?c14 ?k14) (L2.br KX G ?a15 ?l15 ?c15 ?k15) (L2.br KX G ?a16 ?l16 ?c16 ?k16) (L2.br KX G ?a17 ?l17 ?c17 ?k17) (L2.br KX G ?a18 ?l18 ?c18 ?k18) (L2.br KX G ?a19 ?l19 ?c19 ?k19) (L2.br KX G ?a20 ?l20 ?c20 ?k20) (L2.br KX G ?a21 ?l21 ?c21 ?k21) ?i0 ?i1 ?s0 ?h0 ?h1 ?h2 ?h3 ?y0 ?y1 ?y2 ?y3 ?y4 ?y5 ?y6 ?z0 ?z1 ?z2 ?z3 ?z4 ?z5 ?z6 ?z7 ?z8 ?z9 ?z10 ?z11 ?z12 ?z13 ?z14 ?z15 ?z16 ?z17 ?z18
  (case a0 | l0 | c0 | k0 | a1 | l1 | c1 | k1 | a2 | l2 | c2 | k2 | a3 | l3 | c3 | k3 | a4 | l4 | c4 | k4 | a5 | l5 | c5 | k5 | a6 | l6 | c6 | k6 | a7 | l7 | c7 | k7 | a8 | l8 | c8 | k8 | a9 | l9 | c9 | k9 | a10 | l10 | c10 | k10 | a11 | l11 | c11 | k11 | a12 | l12 | c12 | k12 | a13 | l13 | c13 | k13 | a14 | l14 | c14 | k14 | a15 | l15 | c15 | k15 | a16 | l16 | c16 | k16 | a17 | l17 | c17 | k17 | a18 | l18 | c18 | k18 | a19 | l19 | c19 | k19 | a20 | l20 | c20 | k20 | a21 | l21 | c21 | k21 | i0 | i1 | s0 | h0 | h1 | h2 | h3 => k_is)
  (case y0 | y1 | y2 | y3 | y4 | y5 | y6 => first | kernel_rfl | k_is)
  (case z0 | z1 | z2 | z3 | z4 | z5 | z6 | z7 | z8 | z9 | z10 | z11 | z12 | z13 | z14 | z15 | z16 | z17 | z18 => k_is)
#print axioms PySem.Challenge.cw_cellships_k65_picture_texts_holds
