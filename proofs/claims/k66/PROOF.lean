import PyProof.Rows.All
import Wide.All
import OpenK.AllK
import Wide.FinOn
import Lean
import PyProof.EqAt
import PyProof.EqKinds
import PyProof.TupleCall
import PyProof.NeData
import PyProof.P3In
import PyProof.ListRange
import PyProof.TupleOfStr
import PyProof.Rows.SumAny
import PyProof.Rows.Range3
import PyProof.StrCalls
import PyProof.Rows.SetFrom
import PyProof.WalksMore
import PyProof.TupleOfSeq
import KE.KRevSl
import OpenK.KOwn
import KE.KIsNot
import KE.KTryMore
import PyProof.DictTable
import PyProof.Rows.TupDisplay
import PyProof.ReprLen
import PyProof.ReprRoads
import KE.KDictOf
import PyProof.AttrMissHeap
import PyProof.NeKinds
import PyProof.ZipIter
import PyProof.DictCompW
import PyProof.DictItems
import PyProof.DictWalks
import PyProof.DictDisplay
import PyProof.ExcAttrAll.ValueError
import PyProof.TupleKey
import PyProof.IsRules
import KE.KDictList
import KE.KDictSum
import PyProof.FactsAll.set_1
import PyProof.FactsAll.set_2
import PySem.Challenge.RW_cellships_k66_no_picture_texts
set_option Elab.async false
set_option linter.all false
set_option maxRecDepth 100000
set_option maxHeartbeats 4000000
namespace L2
open PySem PySem.Spec PyProof.Rows
abbrev Key := Sum Int Str
def xh : Key -> Value -> Bool
 | .inl k, v => Value.isInt k v
 | .inr x, v => Value.isStrOf x v
def DR (w : World) : Key -> Int
 | .inl k => hashInt k
 | .inr x => hashStr w x
theorem bz : ∀ {k : Key} {v : Value}, xh k v = true -> (∃ i t, k = Sum.inl i /\ v = Value.int i t) \/ (∃ x t, k = Sum.inr x /\ v = Value.str x t)
 | .inl i, v, h => by
  obtain ⟨t, e⟩ := Value.isInt_shape (k := i) (v := v) h
  exact .inl ⟨i, t, rfl, e⟩
 | .inr x, v, h => by
  obtain ⟨t, e⟩ := Value.isStrOf_shape (x := x) (v := v) h
  exact .inr ⟨x, t, rfl, e⟩
theorem yq (a b : Int) : decide ((Sum.inl a : Key) = Sum.inl b) = (a == b) := by
 by_cases e : a = b
 ·subst e; simp
 ·have h : ¬ (Sum.inl a : Key) = Sum.inl b := fun q => e (Sum.inl.inj q)
  rw [decide_eq_false h]
  exact (beq_eq_false_iff_ne.mpr e).symm
theorem yr (a b : Str) : decide ((Sum.inr a : Key) = Sum.inr b) = decide (a = b) := by
 by_cases e : a = b
 ·subst e; simp
 ·have h : ¬ (Sum.inr a : Key) = Sum.inr b := fun q => e (Sum.inr.inj q)
  rw [decide_eq_false h, decide_eq_false e]
theorem yt (a : Int) (b : Str) : decide ((Sum.inl a : Key) = Sum.inr b) = false := decide_eq_false (fun q => nomatch q)
theorem yu (a : Str) (b : Int) : decide ((Sum.inr a : Key) = Sum.inl b) = false := decide_eq_false (fun q => nomatch q)
def j9 (prog : Program) (w : World) : PySem.KeyKind prog w Key where
 is := xh
 hash := DR w
 inj := fun v a b ha hb => by
  rcases bz ha with ⟨i, t, rfl, rfl⟩ | ⟨x, t, rfl, rfl⟩
  ·rcases bz hb with ⟨j, u, rfl, e⟩ | ⟨y, u, rfl, e⟩
   ·injection e with e1 _; rw [e1]
   ·exact nomatch e
  ·rcases bz hb with ⟨j, u, rfl, e⟩ | ⟨y, u, rfl, e⟩
   ·exact nomatch e
   ·injection e with e1 _; rw [e1]
 byValue := fun k v h => by
  rcases bz h with ⟨i, t, rfl, rfl⟩ | ⟨x, t, rfl, rfl⟩ <;> rfl
 pyHash := fun hv h => by
  rcases bz hv with ⟨i, t, rfl, rfl⟩ | ⟨x, t, rfl, rfl⟩
  ·exact wpAny_pyHash_int h
  ·exact wpAny_pyHash_str h
 eqBool := fun hu hv h => by
  rcases bz hu with ⟨i, t, rfl, rfl⟩ | ⟨x, t, rfl, rfl⟩
  ·rcases bz hv with ⟨j, u, rfl, rfl⟩ | ⟨y, u, rfl, rfl⟩
   ·rw [yq] at h; exact wpAny_eqBool_int h
   ·rw [yt] at h; exact SeqAt.EqAt.int_str i t y u _ _ _ _ h
  ·rcases bz hv with ⟨j, u, rfl, rfl⟩ | ⟨y, u, rfl, rfl⟩
   ·rw [yu] at h; exact SeqAt.EqAt.str_int x t j u _ _ _ _ h
   ·rw [yr] at h; exact wpAny_eqBool_str h
 «strs» := fun k x t v h => by
  rcases bz h with ⟨i, u, rfl, e⟩ | ⟨y, u, rfl, e⟩
  ·exact nomatch e
  ·injection e with e1 _
   subst e1
   cases v <;> rfl
end L2
namespace L2
open PySem PySem.Spec PyProof.Rows
inductive V where
 | non | bl (b : Bool) | int (i : Int) | str (x : Str) | byt (b : Array UInt8) | flt (b : UInt64) | ref (a : Addr) | ty (n : String)
 deriving DecidableEq
def RelV : V -> Value -> Prop
 | .non, u => u = Value.none
 | .bl b, u => u = Value.bool b
 | .int i, u => ∃ t, u = Value.int i t
 | .str x, u => ∃ t, u = Value.str x t
 | .byt b, u => ∃ t, u = Value.bytes b t
 | .flt b, u => ∃ t, u = Value.float b t
 | .ref a, u => u = Value.ref a
 | .ty n, u => u = Value.type n
abbrev Vals : List V -> List Value -> Prop := Paired RelV
theorem Vals.length {xs : List V} {us : List Value} (r : Vals xs us) : xs.length = us.length := Paired.length r
theorem Vals.get : ∀ {xs : List V} {us : List Value} {i : Nat} {x : V}, Vals xs us -> xs[i]? = some x -> ∃ u, us[i]? = some u /\ RelV x u
 | _, _, _, _, .nil, e => by simp at e
 | _, _, 0, _, .cons r _, e => by simp at e; subst e; exact ⟨_, rfl, r⟩
 | _, _, i + 1, x, .cons _ t, e => by
  obtain ⟨u, h1, h2⟩ := Vals.get (i := i) (x := x) t (by simpa using e)
  exact ⟨u, by simpa using h1, h2⟩
theorem Vals.set {x : V} {u : Value} (r : RelV x u) : ∀ {xs : List V} {us : List Value} (i : Nat), Vals xs us -> Vals (xs.set i x) (us.set i u)
 | _, _, _, .nil => .nil
 | _, _, 0, .cons _ t => .cons r t
 | _, _, i + 1, .cons q t => .cons q (Vals.set r i t)
theorem Vals.append : ∀ {xs ys : List V} {us ws : List Value}, Vals xs us -> Vals ys ws -> Vals (xs ++ ys) (us ++ ws)
 | _, _, _, _, .nil, s => s
 | _, _, _, _, .cons r t, s => .cons r (Vals.append t s)
theorem Vals.take : ∀ {xs : List V} {us : List Value} (n : Nat), Vals xs us -> Vals (xs.take n) (us.take n)
 | _, _, 0, _ => .nil
 | _, _, _ + 1, .nil => .nil
 | _, _, n + 1, .cons r t => .cons r (Vals.take n t)
theorem Vals.drop : ∀ {xs : List V} {us : List Value} (n : Nat), Vals xs us -> Vals (xs.drop n) (us.drop n)
 | _, _, 0, r => r
 | _, _, _ + 1, .nil => .nil
 | _, _, n + 1, .cons _ t => Vals.drop n t
def RelO : Option V -> Option Value -> Prop
 | some v, some u => RelV v u
 | none, none => True
 | _, _ => False
def KV {κ : Type} : List (κ × V) -> List (κ × Value) -> Prop := Paired fun (p : κ × V) (q : κ × Value) => p.1 = q.1 /\ RelV p.2 q.2
def kV : Key -> V
 | .inl i => .int i
 | .inr x => .str x
inductive HO where
 /-- a list -/
 | lst (xs : List V)
 /-- a tuple (never changes) -/
 | tup (xs : List V)
 /-- a dict whose keys are ints and texts; one whose keys are tuples of ints and texts (the empty one is both) -/
 | dK (kvs : List (Key × V)) | dT (kvs : List (List Key × V))
 /-- a set of ints: its members, its size -/
 | set (S : Int -> Bool) (n : Nat)
 /-- an instance of the class at C, its dict at dx, its attributes -/
 | ins (C dx : Addr) (fs : List (Str × V))
 /-- the dict of the instance at x -/
 | own (x : Addr)
 /-- the dict of an exception -/
 | xd (fs : List (Str × V))
 /-- a bound method, f of x -/
 | met (f x : Addr)
 /-- a range object lo, lo + 1, .. below hi -/
 | rng (lo hi : Int)
 /-- a thing that is known to the object (the script; a dict while a loop walks it): read, never written while it is so -/
 | frz (o : Obj) (u : HO)
 /-- a code object's table -/
 | tbl (ps : Array Value)
 /-- any other thing, by what is true of its one object (a def of one's own: SetO a S n := HO.ext fun h => ..) -/
 | ext (φ : Heap -> Prop)
abbrev Hp := Addr -> Option HO
def upd (H : Hp) (a : Addr) (o : HO) : Hp := fun b => if b = a then some o else H b
theorem aG {H : Hp} {a : Addr} {o : HO} : upd H a o a = some o := by unfold upd; rw [if_pos rfl]
theorem aC {H : Hp} {a b : Addr} {o : HO} (h : b ≠ a) : upd H a o b = H b := by unfold upd; rw [if_neg h]
theorem aX {H : Hp} {a b : Addr} {o : HO} (h : H a = some o) (h' : H b = none) : a ≠ b := by
 intro e; subst e; rw [h] at h'; cases h'
section
variable (P : Program) (w : World)
def bu (H : Hp) (h : Heap) (a : Addr) : HO -> Prop
 | .lst xs => xs.length <= sizeLine /\ ∃ (its : List Value) (n : Nat), Vals xs its /\ h.get? a = some { cls := .type "list", data := .seq its.toArray n }
 | .tup xs => xs.length <= sizeLine /\ ∃ its : List Value, Vals xs its /\ IsTup h a its.toArray
 | .dK kvs => kvs.length <= sizeLine /\ (a == sysModules) = false /\ ∃ vs, KV kvs vs /\ h.DictOf (j9 P w) a vs
 | .dT kvs => kvs.length <= sizeLine /\ (a == sysModules) = false /\ ∃ xs : List (List Key × Addr × Value),
   Paired (fun (p : List Key × V) (q : List Key × Addr × Value) => p.1 = q.1 /\ H q.2.1 = some (.tup (p.1.map kV)) /\ RelV p.2 q.2.2) kvs xs /\
   ∃ o es ep, h.get? a = some o /\ o.ExactDict /\ o.data = .dict es ep /\ es.toList = xs.map (entryOfKey (tupleKind (j9 P w))) /\ (xs.map (·.1)).Nodup
 | .set S n => h.SetOf (intKind P w) a S n
 | .ins C dx fs => H dx = some (.own a) /\ fs.length <= 1000 /\ dx ≠ a /\ h.get? a = some (PySem.W.instObj C dx) /\
   ∃ mA, h.Ns1 dx mA /\ (∀ f, RelO (fs.lookup f) (mA f)) /\ PySem.Within mA (fs.map (·.1))
 | .own _ => ∃ o, h.get? a = some o
 | .xd fs => ∃ mA, h.Ns1 a mA /\ ∀ f, RelO (fs.lookup f) (mA f)
 | .rng lo hi => ∃ t u v, h.get? a = some { cls := .type "range", data := .fields #[.int lo t, .int hi u, .int 1 v] }
 | .frz o u => h.get? a = some o /\ bu H h a u
 | .tbl ps => h.get? a = some { cls := .none, data := .fields ps }
 | .met f x => h.get? a = some (PySem.W.methodObj (.ref f) (.ref x))
 | .ext φ => φ h /\ (∃ o, h.get? a = some o) /\ ∀ h1 h2 : Heap, φ h1 -> (∀ o, h1.get? a = some o -> h2.get? a = some o) -> φ h2
def HOk (H : Hp) (h : Heap) : Prop := ∀ a o, H a = some o -> bu P w H h a o
end
section
variable {P : Program} {w : World} {H H' : Hp} {h h' : Heap} {a : Addr} {o : HO}
theorem bu.lt (x : bu P w H h a o) : a < h.objs.size := by
 cases o with
 | lst xs => obtain ⟨_, _, _, _, e⟩ := x; exact Heap.lt_size e
 | tup xs => obtain ⟨_, _, _, p⟩ := x; exact p.lt
 | dK kvs => obtain ⟨_, _, _, _, o, _, _, e, _⟩ := x; exact Heap.lt_size e
 | dT kvs => obtain ⟨_, _, _, _, o, _, _, e, _⟩ := x; exact Heap.lt_size e
 | set S n => obtain ⟨o, _, _, _, e, _⟩ := x; exact Heap.lt_size e
 | ins C dx fs => obtain ⟨_, _, _, e, _⟩ := x; exact Heap.lt_size e
 | own y => obtain ⟨_, e⟩ := x; exact Heap.lt_size e
 | xd fs => obtain ⟨_, ⟨_, _, _, e, _⟩, _⟩ := x; exact Heap.lt_size e
 | rng lo hi => obtain ⟨_, _, _, e⟩ := x; exact Heap.lt_size e
 | frz ob u => obtain ⟨e, _⟩ := x; exact Heap.lt_size e
 | tbl ps => exact Heap.lt_size (show h.get? a = some _ from x)
 | met f y => exact Heap.lt_size (show h.get? a = some _ from x)
 | ext φ => obtain ⟨_, ⟨_, e⟩, _⟩ := x; exact Heap.lt_size e
theorem Paired.mapP {α β : Type} {F G : α -> β -> Prop} : ∀ {l₁ : List α} {l₂ : List β}, Paired F l₁ l₂ -> (∀ a b, F a b -> G a b) -> Paired G l₁ l₂
 | _, _, .nil, _ => .nil
 | _, _, .cons r t, f => .cons (f _ _ r) (Paired.mapP t f)
theorem bu.stay (x : bu P w H h a o) (k : ∀ b u, (b = a \/ H b = some (.own a)) -> h.get? b = some u -> h'.get? b = some u)
  (ho : ∀ b, H b = some (.own a) -> H' b = some (.own a)) (ht : ∀ b xs, H b = some (.tup xs) -> H' b = some (.tup xs)) : bu P w H' h' a o := by
 induction o with
 | lst xs => obtain ⟨z, its, n, r, e⟩ := x; exact ⟨z, its, n, r, k _ _ (.inl rfl) e⟩
 | tup xs => obtain ⟨z, its, r, ob, e, c⟩ := x; exact ⟨z, its, r, ob, k _ _ (.inl rfl) e, c⟩
 | dK kvs => obtain ⟨z, y, vs, r, ob, es, ep, e, c⟩ := x; exact ⟨z, y, vs, r, ob, es, ep, k _ _ (.inl rfl) e, c⟩
 | dT kvs =>
  obtain ⟨z, y, xs, r, ob, es, ep, e, c⟩ := x
  exact ⟨z, y, xs, Paired.mapP r fun p q z => ⟨z.1, ht _ _ z.2.1, z.2.2⟩, ob, es, ep, k _ _ (.inl rfl) e, c⟩
 | set S n => obtain ⟨ob, es, ep, t, e, c⟩ := x; exact ⟨ob, es, ep, t, k _ _ (.inl rfl) e, c⟩
 | ins C dx fs =>
  obtain ⟨d, z, ne, e, mA, ⟨od, es, ep, e2, c⟩, r⟩ := x
  exact ⟨ho _ d, z, ne, k _ _ (.inl rfl) e, mA, ⟨od, es, ep, k _ _ (.inr d) e2, c⟩, r⟩
 | own y => obtain ⟨ob, e⟩ := x; exact ⟨ob, k _ _ (.inl rfl) e⟩
 | xd fs => obtain ⟨mA, ⟨od, es, ep, e, c⟩, r⟩ := x; exact ⟨mA, ⟨od, es, ep, k _ _ (.inl rfl) e, c⟩, r⟩
 | rng lo hi => obtain ⟨t, u, v, e⟩ := x; exact ⟨t, u, v, k _ _ (.inl rfl) e⟩
 | frz ob u ih => obtain ⟨e, q⟩ := x; exact ⟨k _ _ (.inl rfl) e, ih q⟩
 | tbl ps =>
  have e : h.get? a = some { cls := .none, data := .fields ps } := x
  show h'.get? a = some { cls := .none, data := .fields ps }
  exact k a _ (.inl rfl) e
 | met f y =>
  have e : h.get? a = some (PySem.W.methodObj (.ref f) (.ref y)) := x
  show h'.get? a = some (PySem.W.methodObj (.ref f) (.ref y))
  exact k a _ (.inl rfl) e
 | ext φ => obtain ⟨p, ⟨o, e⟩, st⟩ := x; exact ⟨st _ _ p fun o q => k _ _ (.inl rfl) q, ⟨o, k _ _ (.inl rfl) e⟩, st⟩
theorem HOk.lt (x : HOk P w H h) (e : H a = some o) : a < h.objs.size := (x a o e).lt
theorem HOk.fresh (x : HOk P w H h) (e : h.objs.size <= a) : H a = none := by
 cases q : H a with
 | none => rfl
 | some u => exact absurd (Nat.lt_of_lt_of_le (x.lt q) e) (Nat.lt_irrefl _)
theorem HOk.kept (x : HOk P w H h) (k : ∀ b u, h.get? b = some u -> h'.get? b = some u) : HOk P w H h' := fun a o e =>
 (x a o e).stay (fun b u _ q => k b u q) (fun _ q => q) fun _ _ q => q
theorem HOk.laid (x : HOk P w H h) (k : ∀ b u, h.get? b = some u -> h'.get? b = some u) (hp : h.objs.size <= a) (new : bu P w (upd H a o) h' a o) : HOk P w (upd H a o) h' := fun b u e => by
 have hn := x.fresh hp
 by_cases hb : b = a
 ·subst hb; rw [aG] at e; cases e; exact new
 ·rw [aC hb] at e
  exact (x b u e).stay (fun c v _ q => k c v q) (fun c q => by rw [aC (aX q hn)]; exact q) fun c xs q => by rw [aC (aX q hn)]; exact q
end
def Rd (H : Hp) (a : Addr) (u : HO) : Prop := H a = some u \/ ∃ o, H a = some (.frz o u)
theorem Rd.ok {P : Program} {w : World} {H : Hp} {h : Heap} {a : Addr} {u : HO} (r : Rd H a u) (x : HOk P w H h) : bu P w H h a u := by
 rcases r with r | ⟨o, r⟩
 ·exact x a u r
 ·obtain ⟨_, q⟩ := x a _ r
  exact q
def Mut : Option HO -> Prop
 | some (.lst _) => True
 | some (.dK _) => True
 | some (.dT _) => True
 | some (.set _ _) => True
 | some (.ins _ _ _) => True
 | some (.ext _) => True
 | _ => False
section
variable {P : Program} {w : World} {H : Hp} {h h' : Heap} {x e : Addr} {o' : HO}
theorem HOk.write (ok : HOk P w H h) (mu : Mut (H x)) (he : e = x \/ H e = some (.own x)) (k : ∀ b u, b ≠ e -> h.get? b = some u -> h'.get? b = some u) (heo : ∃ u, h'.get? e = some u)
  (new : bu P w (upd H x o') h' x o') : HOk P w (upd H x o') h' := fun b u q => by
 have nown : ∀ c y, H c = some (.own y) -> c ≠ x := fun c y r z => by subst z; rw [r] at mu; exact mu
 have ntup : ∀ c xs, H c = some (.tup xs) -> c ≠ x := fun c xs r z => by subst z; rw [r] at mu; exact mu
 by_cases hb : b = x
 ·subst hb; rw [aG] at q; cases q; exact new
 ·rw [aC hb] at q
  by_cases hbe : b = e
  ·have q' : H b = some (.own x) := by
    rcases he with z | z
    ·exact absurd (hbe.trans z) hb
    ·rw [hbe]; exact z
   rw [q] at q'; cases q'
   obtain ⟨v, hv⟩ := heo
   exact ⟨v, by rw [hbe]; exact hv⟩
  ·refine (ok b u q).stay (fun c v hc r => k c v ?_ r) (fun c r => by rw [aC (nown c b r)]; exact r) fun c xs r => by rw [aC (ntup c xs r)]; exact r
   rcases hc with rfl | hc
   ·exact hbe
   ·rintro rfl
    rcases he with z | z
    ·exact nown c b hc z
    ·rw [hc] at z; cases z; exact hb rfl
end
structure Un (fs ex : List Addr) (H H' : Hp) (h h' : Heap) : Prop where
 keep : ∀ b o, h.get? b = some o -> H b = none -> b ∉ fs -> b ∉ ex -> h'.get? b = some o
 slot : ∀ b o, h.get? b = some o -> H b = none -> b ∈ fs -> b ∉ ex -> ∃ sl, h'.get? b = some { o with slots := sl }
 free : ∀ b o, h.get? b = some o -> H b = none -> b ∉ ex -> H' b = none
 there : ∀ b o, h.get? b = some o -> b ∉ ex -> ∃ o', h'.get? b = some o'
 tups : ∀ b xs, H b = some (.tup xs) -> H' b = some (.tup xs)
 frzs : ∀ b o u, H b = some (.frz o u) -> H' b = some (.frz o u)
 tbls : ∀ b ps, H b = some (.tbl ps) -> ∃ more, H' b = some (.tbl (ps ++ more))
section
variable {fs fs' ex ex' : List Addr} {H H1 H2 : Hp} {h h1 h2 h' : Heap} {a x e : Addr} {o : HO}
theorem Un.any (u : Un fs ex H H1 h h1) {b : Addr} {ob : Obj} (q : h.get? b = some ob) (n : H b = none) (hx : b ∉ ex) : ∃ sl, h1.get? b = some { ob with slots := sl } := by
 by_cases hb : b ∈ fs
 ·exact u.slot b ob q n hb hx
 ·exact ⟨ob.slots, u.keep b ob q n hb hx⟩
theorem Un.kept (k : ∀ b u, h.get? b = some u -> h'.get? b = some u) : Un fs ex H H h h' :=
 ⟨fun b ob q _ _ _ => k b ob q, fun b ob q _ _ _ => ⟨ob.slots, k b ob q⟩, fun _ _ _ n _ => n, fun b ob q _ => ⟨ob, k b ob q⟩, fun _ _ q => q, fun _ _ _ q => q, fun _ ps q => ⟨#[], by rw [q]; simp⟩⟩
theorem Un.refl : Un fs ex H H h h := Un.kept fun _ _ q => q
theorem Un.laid (k : ∀ b u, h.get? b = some u -> h'.get? b = some u) (hp : h.objs.size <= a) (hn : H a = none) : Un fs ex H (upd H a o) h h' where
 keep := fun b u q _ _ _ => k b u q
 slot := fun b u q _ _ _ => ⟨u.slots, k b u q⟩
 free := fun b u q n _ => by rw [aC (Nat.ne_of_lt (Nat.lt_of_lt_of_le (Heap.lt_size q) hp))]; exact n
 there := fun b u q _ => ⟨u, k b u q⟩
 tups := fun b xs q => by rw [aC (aX q hn)]; exact q
 frzs := fun b u xs q => by rw [aC (aX q hn)]; exact q
 tbls := fun b ps q => ⟨#[], by rw [aC (aX q hn), q]; simp⟩
theorem Un.write (mu : Mut (H x)) (he : e = x \/ H e = some (.own x)) (k : ∀ b u, b ≠ e -> h.get? b = some u -> h'.get? b = some u) (heo : ∃ u, h'.get? e = some u) : Un fs ex H (upd H x o) h h' := by
 have hx : ∀ b, H b = none -> b ≠ x := fun b n z => by subst z; rw [n] at mu; exact mu
 have hb : ∀ b, H b = none -> b ≠ e := fun b n z => by
  subst z
  rcases he with r | r
  ·exact hx b n r
  ·rw [n] at r; cases r
 have hm : ∀ b u, H b = some u -> ¬ Mut (some u) -> b ≠ x := fun b u q nm z => by subst z; rw [q] at mu; exact nm mu
 refine ⟨fun b u q n _ _ => k b u (hb b n) q, fun b u q n _ _ => ⟨u.slots, k b u (hb b n) q⟩, fun b u q n _ => by rw [aC (hx b n)]; exact n, fun b u q _ => ?_,
  fun b xs q => by rw [aC (hm b _ q fun z => z)]; exact q, fun b u xs q => by rw [aC (hm b _ q fun z => z)]; exact q, fun b ps q => ⟨#[], by rw [aC (hm b _ q fun z => z), q]; simp⟩⟩
 by_cases hbe : b = e
 ·subst hbe; exact heo
 ·exact ⟨u, k b u hbe q⟩
end
def trk (h : Heap) (H : Hp) : List Addr := (List.range h.objs.size).filter fun a => (H a).isSome
def ka (h : Heap) (H : Hp) : Heap := PySem.W.hideAll h (trk h H)
theorem pS (h : Heap) (H : Hp) : (ka h H).objs.size = h.objs.size := PySem.W.hideAll_size _ _
theorem qx {h : Heap} {H : Hp} {b : Addr} {o : Obj} (e : h.get? b = some o) (n : H b = none) : (ka h H).get? b = some o :=
 PySem.W.hideAll_get _ e fun hm => by
  have q : (H b).isSome = true := (List.mem_filter.mp hm).2
  rw [n] at q; simp at q
theorem um {h : Heap} {H : Hp} {b : Addr} {o : Obj} (e : (ka h H).get? b = some o) : h.get? b = some o /\ H b = none := by
 have e' : h.get? b = some o := PySem.W.of_hideAll (trk h H) e
 refine ⟨e', ?_⟩
 cases q : H b with
 | none => rfl
 | some x =>
  have hm : b ∈ trk h H := List.mem_filter.mpr ⟨List.mem_range.mpr (Heap.lt_size e'), by simp [q]⟩
  have z : (ka h H).get? b = none := PySem.W.hideAll_none (trk h H) hm
  rw [z] at e; cases e
def bF (g h : Heap) (L : Addr) : List (Addr × Obj) := (List.range h.objs.size).filterMap fun a => if a = L \/ (g.get? a).isSome = true then none else (h.get? a).map fun o => (a, o)
theorem dk {g h : Heap} {L a : Addr} {o : Obj} (h1 : a ≠ L) (h2 : g.get? a = none) (h3 : h.get? a = some o) : (a, o) ∈ bF g h L :=
 List.mem_filterMap.mpr ⟨a, List.mem_range.mpr (Heap.lt_size h3), by simp [h1, h2, h3]⟩
theorem eD {g h : Heap} {L : Addr} {p : Addr × Obj} (hp : p ∈ bF g h L) : p.1 ≠ L /\ g.get? p.1 = none /\ h.get? p.1 = some p.2 := by
 obtain ⟨b, _, e⟩ := List.mem_filterMap.mp hp
 split at e
 ·cases e
 ·rename_i hn
  cases q : h.get? b with
  | none => rw [q] at e; simp at e
  | some u =>
   rw [q] at e
   simp only [Option.map_some, Option.some.injEq] at e
   subst e
   refine ⟨fun z => hn (.inl z), ?_, q⟩
   show g.get? b = none
   cases r : g.get? b with
   | none => rfl
   | some v => exact (hn (.inr (by simp [r]))).elim
theorem dD {g h : Heap} {L : Addr} : News g L h (bF g h L) := fun p hp => let ⟨a, b, c⟩ := eD hp; ⟨c, a, b⟩
end L2
namespace L2
open PySem PySem.Spec PyProof.Rows
structure Mod (K : PySem.W.Frag) (mg : Str -> Option Value) (base : Heap) : Prop where
 kin : K.In base
 glob : base.Ns mainGlobals mg
 blt : ∃ mb, base.Ns builtinsNs mb /\ ∀ x : Str, x ≠ "__name__" -> mb x = bootBuiltins x
 nolimit : base.NoLimit
structure Cx where
 prog : Program
 w : World
 K : PySem.W.Frag
 mg : Str -> Option Value
 base : Heap
 A : Around
 N : List Str
 s₀ : Shared
 H₀ : Hp
 env : Env
 outer : List Env
 stack : List Env
 ex : List Addr
 fn : Str -> Bool
 calm : Bool
 pn : List (Addr × Obj)
 xe : Value -> Shared -> Prop
def frs (l : List Env) : List Addr := l.filterMap (·.frame)
abbrev Cx.fs (X : Cx) : List Addr := frs X.outer
def Vis (sc : Scope) (x : Str) : Prop := sc.names.lookup x = some .local \/ sc.names.lookup x = some .cell \/ sc.names.lookup x = some .free
def Loc (sc : Scope) (x : Str) : Prop := sc.names.lookup x = some .local \/ sc.names.lookup x = some .cell
def Look (env : Env) (h : Heap) (m : Str -> Option Value) (x : Str) (u : Value) : Prop :=
 (env.kindOf x = some .local /\ m x = some u) \/ ((env.kindOf x = some .cell \/ env.kindOf x = some .free) /\ ∃ c, env.cells.lookup x = some c /\ h.IsCell c (some u))
structure Cx.Ok (X : Cx) : Prop where
 mod : Mod X.K X.mg X.base
 kind : X.env.scope.kind = .function
 glob : X.env.globals = mainGlobals
 blt : X.env.builtins = builtinsNs
 above : X.s₀.heap.objs.size <= X.env.locals
 inj : ∀ x y c, X.env.cells.lookup x = some c -> X.env.cells.lookup y = some c -> x = y
 has : ∀ x, (X.env.kindOf x = some .cell \/ X.env.kindOf x = some .free) -> ∃ c, X.env.cells.lookup x = some c
 cab : ∀ x c, X.fn x = true -> X.env.cells.lookup x = some c -> X.s₀.heap.objs.size <= c
 hd : X.calm = true -> X.A.handled = none
 frames : X.A.frames = some X.stack
 stk : X.stack = X.outer \/ (X.stack = X.env :: X.outer /\ X.env.frame = some X.env.locals)
 exf : ∀ b ∈ X.ex, b ≠ X.env.locals /\ ∀ x c, X.env.cells.lookup x = some c -> c ≠ b
 bs : ∀ b o, X.base.get? b = some o -> X.s₀.heap.get? b = some o /\ X.H₀ b = none
 bsz : X.base.objs.size <= X.s₀.heap.objs.size
 noex : ∀ b o, X.base.get? b = some o -> b ∉ X.ex
 exfs : ∀ b ∈ X.ex, b ∉ X.fs
 funs : X.s₀.heap.FunFrames X.base X.outer
 frf : ∀ b ∈ X.fs, X.H₀ b = none
structure Inv (X : Cx) (pins : List (Addr × Obj)) (σ : List (Option V)) (H : Hp) (s : Shared) : Prop where
 ok : X.Ok
 os : s.os = X.s₀.os
 bare : AllBare s.gens
 base : Un X.fs X.ex X.H₀ H X.s₀.heap s.heap
 loc : ∃ m, s.heap.Ns X.env.locals m /\ ∀ (i : Nat) (x : Str) (v : V), X.N[i]? = some x -> σ[i]? = some (some v) -> Vis X.env.scope x -> ∃ u, RelV v u /\ Look X.env s.heap m x u
 cell : ∀ x c, X.env.cells.lookup x = some c -> ∃ v, s.heap.IsCell c v
 free : H X.env.locals = none
 freeC : ∀ x c, X.env.cells.lookup x = some c -> H c = none
 pin : ∀ p ∈ X.pn ++ pins, s.heap.get? p.1 = some p.2 /\ H p.1 = none /\ p.1 ≠ X.env.locals /\ p.1 ∉ X.fs /\ ∀ v, p.2.data ≠ .cell v
 hok : HOk X.prog X.w H s.heap
 len : σ.length = X.N.length
section
variable {X : Cx} {pins : List (Addr × Obj)} {σ : List (Option V)} {H H' : Hp} {s : Shared} {h' : Heap}
theorem Cx.Ok.nofr (ok : X.Ok) {b : Addr} {o : Obj} (e : X.base.get? b = some o) : b ∉ X.fs := fun hb => by
 have := (ok.funs.mem hb).1
 rw [e] at this; cases this
theorem Inv.bs (I : Inv X pins σ H s) : ∀ b o, X.base.get? b = some o -> s.heap.get? b = some o /\ H b = none := fun b o e =>
 ⟨I.base.keep b o (I.ok.bs b o e).1 (I.ok.bs b o e).2 (I.ok.nofr e) (I.ok.noex b o e), I.base.free b o (I.ok.bs b o e).1 (I.ok.bs b o e).2 (I.ok.noex b o e)⟩
theorem Inv.bk (I : Inv X pins σ H s) : ∀ b o, X.base.get? b = some o -> s.heap.get? b = some o := fun b o e => (I.bs b o e).1
theorem Inv.mod (I : Inv X pins σ H s) : Mod X.K X.mg X.base := I.ok.mod
theorem Inv.kIn (I : Inv X pins σ H s) : X.K.In s.heap := I.ok.mod.kin.keeps I.bk
theorem Inv.fr (I : Inv X pins σ H s) : ∃ m, Fr X.base X.env.locals s.heap m :=
 let ⟨m, hn, _⟩ := I.loc
 ⟨m, hn, I.bk, Nat.le_trans I.ok.bsz I.ok.above⟩
theorem Inv.lt (I : Inv X pins σ H s) : X.env.locals < s.heap.objs.size := let ⟨_, hn, _⟩ := I.loc; hn.lt
theorem Inv.sz (I : Inv X pins σ H s) : X.s₀.heap.objs.size <= s.heap.objs.size := Nat.le_trans I.ok.above (Nat.le_of_lt I.lt)
theorem Inv.nofs (I : Inv X pins σ H s) {a : Addr} (h : s.heap.objs.size <= a) : a ∉ X.fs := fun hb => by
 obtain ⟨_, o, ho, _⟩ := I.ok.funs.mem hb
 exact absurd (Nat.lt_of_lt_of_le (Heap.lt_size ho) (Nat.le_trans I.sz h)) (Nat.lt_irrefl _)
theorem Inv.cne (I : Inv X pins σ H s) : ∀ x c, X.env.cells.lookup x = some c -> c ≠ X.env.locals := fun x c e z => by
 obtain ⟨v, o, ho, hd⟩ := I.cell x c e
 obtain ⟨m, ⟨o', es, ep, ho', hd', _⟩, _⟩ := I.loc
 rw [z, ho'] at ho; cases ho; rw [hd'] at hd; cases hd
theorem Inv.funs (I : Inv X pins σ H s) : s.heap.FunFrames X.base X.outer := by
 have all : ∀ (l : List Env), (∀ b ∈ frs l, b ∈ X.fs) -> X.s₀.heap.FunFrames X.base l -> s.heap.FunFrames X.base l := by
  intro l
  induction l with
  | nil => intro _ _; trivial
  | cons env r ih =>
   intro hs hl
   obtain ⟨hk, ⟨L, o, hf, hn, ho, hd⟩, hr⟩ := hl
   have hL : L ∈ X.fs := hs L (by unfold frs; rw [List.filterMap_cons, hf]; exact List.mem_cons_self)
   obtain ⟨sl, e⟩ := I.base.slot L o ho (I.ok.frf L hL) hL fun z => I.ok.exfs L z hL
   exact ⟨hk, ⟨L, _, hf, hn, e, hd⟩, ih (fun b hb => hs b (by unfold frs; rw [List.filterMap_cons, hf]; exact List.mem_cons_of_mem _ hb)) hr⟩
 exact all X.outer (fun _ hb => hb) I.ok.funs
theorem Inv.stack (I : Inv X pins σ H s) : s.heap.FunFrames X.base X.stack := by
 rcases I.ok.stk with e | ⟨e, hf⟩
 ·rw [e]; exact I.funs
 ·rw [e]
  obtain ⟨m, hn, _⟩ := I.loc
  refine .cons (by rw [I.ok.kind]; decide) hf hn ?_ I.funs
  exact Heap.get?_none_of_le (Nat.le_trans I.ok.bsz I.ok.above)
theorem Inv.stkSub (I : Inv X pins σ H s) : ∀ b ∈ frs X.stack, b ∈ X.env.locals :: X.fs := fun b hb => by
 rcases I.ok.stk with e | ⟨e, hf⟩
 ·rw [e] at hb; exact List.mem_cons_of_mem _ hb
 ·rw [e] at hb
  unfold frs at hb
  rw [List.filterMap_cons, hf] at hb
  exact hb
theorem Inv.stkFree (I : Inv X pins σ H s) : ∀ b ∈ frs X.stack, H b = none := fun b hb => by
 rcases List.mem_cons.mp (I.stkSub b hb) with e | hb
 ·rw [e]; exact I.free
 ·obtain ⟨_, o, ho, _⟩ := I.ok.funs.mem hb
  exact I.base.free b o ho (I.ok.frf b hb) fun z => I.ok.exfs b z hb
theorem Inv.step {g' : Array GenState} {t' : Nat} {d' : Drawn} {ch : List Addr} (I : Inv X pins σ H s)
  (hch : ∀ b ∈ ch, (b ∈ X.ex \/ X.s₀.heap.objs.size <= b) /\ b ≠ X.env.locals /\ (∀ x c, X.env.cells.lookup x = some c -> c ≠ b) /\ ∀ p ∈ X.pn ++ pins, p.1 ≠ b)
  (keep : ∀ b o, b ≠ X.env.locals -> b ∉ X.fs -> b ∉ ch -> s.heap.get? b = some o -> H b = none -> h'.get? b = some o)
  (slot : ∀ b o, b ≠ X.env.locals -> b ∈ X.fs -> b ∉ ch -> s.heap.get? b = some o -> H b = none -> ∃ sl, h'.get? b = some { o with slots := sl }) (free : ∀ b o, b ∉ ch -> s.heap.get? b = some o -> H b = none -> H' b = none)
  (there : ∀ b o, b ∉ ch -> s.heap.get? b = some o -> ∃ o', h'.get? b = some o')
  (tups : ∀ b xs, H b = some (.tup xs) -> H' b = some (.tup xs)) (frzs : ∀ b o u, H b = some (.frz o u) -> H' b = some (.frz o u)) (tbls : ∀ b ps, H b = some (.tbl ps) -> ∃ more, H' b = some (.tbl (ps ++ more)))
  (ns : ∀ m, s.heap.Ns X.env.locals m -> h'.Ns X.env.locals m) (hok : HOk X.prog X.w H' h') (hg : AllBare g') :
  Inv X pins σ H' { s with heap := h', gens := g', drawn := d', toks := t' } := by
 have neL : ∀ b o, X.s₀.heap.get? b = some o -> b ≠ X.env.locals := fun b o e => Nat.ne_of_lt (Nat.lt_of_lt_of_le (Heap.lt_size e) I.ok.above)
 have neC : ∀ b o, X.s₀.heap.get? b = some o -> b ∉ X.ex -> b ∉ ch := fun b o e hx hb => by
  rcases (hch b hb).1 with z | z
  ·exact hx z
  ·exact absurd (Nat.lt_of_lt_of_le (Heap.lt_size e) z) (Nat.lt_irrefl _)
 have cellK : ∀ x c, X.env.cells.lookup x = some c -> ∀ v, s.heap.IsCell c v -> h'.IsCell c v := fun x c e v ⟨o, ho, hd⟩ => by
  have nch : c ∉ ch := fun z => (hch c z).2.2.1 x c e rfl
  by_cases hc : c ∈ X.fs
  ·obtain ⟨sl, q⟩ := slot c o (I.cne x c e) hc nch ho (I.freeC x c e)
   exact ⟨_, q, hd⟩
  ·exact ⟨o, keep c o (I.cne x c e) hc nch ho (I.freeC x c e), hd⟩
 refine ⟨I.ok, I.os, hg, ⟨fun b o e n hb hx => ?_, fun b o e n hb hx => ?_, fun b o e n hx => ?_, fun b o e hx => ?_, fun b xs e => tups b xs (I.base.tups b xs e), fun b o xs e => frzs b o xs (I.base.frzs b o xs e), fun b ps e => ?_⟩, ?_, fun x c e => ?_, ?_, fun x c e => ?_, fun p hp => ?_, hok, I.len⟩
 ·exact keep b o (neL b o e) hb (neC b o e hx) (I.base.keep b o e n hb hx) (I.base.free b o e n hx)
 ·obtain ⟨sl, e1⟩ := I.base.slot b o e n hb hx
  obtain ⟨sl', e2⟩ := slot b _ (neL b o e) hb (neC b o e hx) e1 (I.base.free b o e n hx)
  exact ⟨sl', e2⟩
 ·obtain ⟨o', e1⟩ := I.base.there b o e hx
  exact free b o' (neC b o e hx) e1 (I.base.free b o e n hx)
 ·obtain ⟨o', e1⟩ := I.base.there b o e hx
  exact there b o' (neC b o e hx) e1
 ·obtain ⟨m1, e1⟩ := I.base.tbls b ps e
  obtain ⟨m2, e2⟩ := tbls b _ e1
  exact ⟨m1 ++ m2, by rw [e2, Array.append_assoc]⟩
 ·obtain ⟨m, hn, hl⟩ := I.loc
  refine ⟨m, ns m hn, fun i x v e1 e2 e3 => ?_⟩
  obtain ⟨u, r, l⟩ := hl i x v e1 e2 e3
  refine ⟨u, r, ?_⟩
  rcases l with l | ⟨k, c, e, z⟩
  ·exact .inl l
  ·exact .inr ⟨k, c, e, cellK x c e _ z⟩
 ·obtain ⟨v, z⟩ := I.cell x c e
  exact ⟨v, cellK x c e v z⟩
 ·obtain ⟨m, ⟨o, _, _, ho, _⟩, _⟩ := I.loc
  exact free _ o (fun z => (hch _ z).2.1 rfl) ho I.free
 ·obtain ⟨v, o, ho, hd⟩ := I.cell x c e
  exact free c o (fun z => (hch c z).2.2.1 x c e rfl) ho (I.freeC x c e)
 ·obtain ⟨e, n, ne, nf, d⟩ := I.pin p hp
  have nch : p.1 ∉ ch := fun z => (hch p.1 z).2.2.2 p hp rfl
  exact ⟨keep p.1 p.2 ne nf nch e n, free p.1 p.2 nch e n, ne, nf, d⟩
theorem Inv.un {t' : Nat} (I : Inv X pins σ H s) (u : Un X.fs [] H H' s.heap h') (hok : HOk X.prog X.w H' h') : Inv X pins σ H' { s with heap := h', toks := t' } := by
 obtain ⟨m, ⟨o, es, ep, ho, r⟩, _⟩ := id I.loc
 obtain ⟨sl, hL⟩ := u.any ho I.free (by simp)
 exact I.step (g' := s.gens) (d' := s.drawn) (ch := []) (fun _ z => nomatch z) (fun b o _ hb _ e n => u.keep b o e n hb (by simp)) (fun b o _ hb _ e n => u.slot b o e n hb (by simp)) (fun b o _ e n => u.free b o e n (by simp)) (fun b o _ e => u.there b o e (by simp)) u.tups u.frzs u.tbls (fun m' hm => by
  obtain ⟨o', es', ep', ho', r'⟩ := hm
  rw [ho] at ho'; cases ho'
  exact ⟨_, es', ep', hL, r'⟩) hok I.bare
theorem Inv.call {g' : Array GenState} {t' : Nat} {d' : Drawn} {ch : List Addr} (I : Inv X pins σ H s) (u : Un (frs X.stack) ch H H' s.heap h') (hok : HOk X.prog X.w H' h') (hg : AllBare g')
  (hch : ∀ b ∈ ch, (b ∈ X.ex \/ X.s₀.heap.objs.size <= b) /\ b ≠ X.env.locals /\ (∀ x c, X.env.cells.lookup x = some c -> c ≠ b) /\ ∀ p ∈ X.pn ++ pins, p.1 ≠ b) :
  Inv X pins σ H' { s with heap := h', gens := g', drawn := d', toks := t' } := by
 obtain ⟨m, ⟨o, es, ep, ho, r⟩, _⟩ := id I.loc
 obtain ⟨sl, hL⟩ := u.any ho I.free fun z => (hch _ z).2.1 rfl
 exact I.step (ch := ch) hch (fun b o hL hb hc e n => u.keep b o e n (fun z => (List.mem_cons.mp (I.stkSub b z)).elim hL hb) hc) (fun b o _ _ hc e n => u.any e n hc) (fun b o hc e n => u.free b o e n hc) (fun b o hc e => u.there b o e hc) u.tups u.frzs u.tbls (fun m' hm => by
  obtain ⟨o', es', ep', ho', r'⟩ := hm
  rw [ho] at ho'; cases ho'
  exact ⟨_, es', ep', hL, r'⟩) hok hg
theorem Inv.turned {t' : Nat} {it : Addr} (I : Inv X pins σ H s) (k : ∀ b o, b ≠ it -> s.heap.get? b = some o -> h'.get? b = some o) (hn : H it = none) (hL : it ≠ X.env.locals)
  (h1 : it ∈ X.ex \/ X.s₀.heap.objs.size <= it) (h2 : ∀ x c, X.env.cells.lookup x = some c -> c ≠ it) (h3 : ∀ p ∈ X.pn ++ pins, p.1 ≠ it) : Inv X pins σ H { s with heap := h', toks := t' } := by
 have nit : ∀ b u, H b = some u -> b ≠ it := fun b u e z => by rw [z, hn] at e; cases e
 refine I.step (g' := s.gens) (d' := s.drawn) (ch := [it]) (fun b hb => ?_) (fun b o _ _ hc e _ => k b o (fun z => hc (by simp [z])) e) (fun b o _ _ hc e _ => ⟨o.slots, k b o (fun z => hc (by simp [z])) e⟩) (fun _ _ _ _ n => n)
  (fun b o hc e => ⟨o, k b o (fun z => hc (by simp [z])) e⟩) (fun _ _ e => e) (fun _ _ _ e => e) (fun b ps e => ⟨#[], by rw [e]; simp⟩) (fun m hm => ?_) (fun b u e => ?_) I.bare
 ·have e : b = it := by simpa using hb
  subst e
  exact ⟨h1, hL, h2, h3⟩
 ·obtain ⟨o, es, ep, ho, r⟩ := hm
  exact ⟨o, es, ep, k _ o (Ne.symm hL) ho, r⟩
 ·refine (I.hok b u e).stay (fun c v hc q => k c v ?_ q) (fun _ q => q) fun _ _ q => q
  rcases hc with z | z
  ·rw [z]; exact nit b u e
  ·exact nit c _ z
theorem Inv.tok (I : Inv X pins σ H s) (t : Nat) : Inv X pins σ H { s with toks := t } := I.un (h' := s.heap) (t' := t) Un.refl I.hok
theorem Inv.kept {t' : Nat} (I : Inv X pins σ H s) (k : ∀ b u, s.heap.get? b = some u -> h'.get? b = some u) : Inv X pins σ H { s with heap := h', toks := t' } := I.un (Un.kept k) (I.hok.kept k)
theorem Inv.laid {a : Addr} {o : HO} {t' : Nat} (I : Inv X pins σ H s) (k : ∀ b u, s.heap.get? b = some u -> h'.get? b = some u) (hp : s.heap.objs.size <= a) (new : bu X.prog X.w (upd H a o) h' a o) :
  Inv X pins σ (upd H a o) { s with heap := h', toks := t' } := I.un (Un.laid k hp (I.hok.fresh hp)) (I.hok.laid k hp new)
theorem Inv.write {x e : Addr} {o : HO} {t' : Nat} (I : Inv X pins σ H s) (mu : Mut (H x)) (he : e = x \/ H e = some (.own x)) (k : ∀ b u, b ≠ e -> s.heap.get? b = some u -> h'.get? b = some u) (heo : ∃ u, h'.get? e = some u)
  (new : bu X.prog X.w (upd H x o) h' x o) : Inv X pins σ (upd H x o) { s with heap := h', toks := t' } := I.un (Un.write mu he k heo) (I.hok.write mu he k heo new)
theorem Inv.weak {σ' : List (Option V)} (I : Inv X pins σ H s) (hl : σ'.length = σ.length) (w : ∀ (i : Nat) v, σ'[i]? = some (some v) -> σ[i]? = some (some v)) : Inv X pins σ' H s :=
 ⟨I.ok, I.os, I.bare, I.base, let ⟨m, hn, hl'⟩ := I.loc; ⟨m, hn, fun i x v e1 e2 e3 => hl' i x v e1 (w i v e2) e3⟩, I.cell, I.free, I.freeC, I.pin, I.hok, hl.trans I.len⟩
theorem Inv.pins_of {pins' : List (Addr × Obj)} (I : Inv X pins σ H s) (h : ∀ p ∈ pins', s.heap.get? p.1 = some p.2 /\ H p.1 = none /\ p.1 ≠ X.env.locals /\ p.1 ∉ X.fs /\ ∀ v, p.2.data ≠ .cell v) : Inv X pins' σ H s :=
 ⟨I.ok, I.os, I.bare, I.base, I.loc, I.cell, I.free, I.freeC, fun p hp => (List.mem_append.mp hp).elim (fun z => I.pin p (List.mem_append_left _ z)) (h p), I.hok, I.len⟩
theorem iG {N : List Str} (hN : N.Nodup) {i j : Nat} {x : Str} (a : N[i]? = some x) (b : N[j]? = some x) : i = j := by
 obtain ⟨h1, e1⟩ := List.getElem?_eq_some_iff.mp a
 obtain ⟨h2, e2⟩ := List.getElem?_eq_some_iff.mp b
 exact (List.getElem_inj hN).mp (e1.trans e2.symm)
theorem gz {M : Model} {A : Around} {E : Value -> Shared -> Prop} {i : Nat} {x : Str} {v : V} {u : Value} {Q : Unit -> Shared -> Prop} (I : Inv X pins σ H s) (hN : X.N.Nodup) (hi : X.N[i]? = some x) (hx : Loc X.env.scope x) (r : RelV v u)
  (h : ∀ s', Inv X pins (σ.set i (some v)) H s' -> (∃ a, Heap.SameBut a s.heap s'.heap /\ (a = X.env.locals \/ X.env.cells.lookup x = some a)) -> Q () s') (hf : X.fn x = true \/ X.env.scope.names.lookup x = some .local := by first | exact .inl rfl | exact .inr rfl | assumption) : wpAny M A (storeName X.env x u) Q E s := by
 obtain ⟨m, hn, hl⟩ := id I.loc
 have hcls : (X.env.scope.kind == .class || (X.env.scope.kind == .module && X.env.locals != X.env.globals)) = false := by rw [I.ok.kind]; rfl
 have hiσ : i < σ.length := by rw [I.len]; exact (List.getElem?_eq_some_iff.mp hi).1
 have cne := I.cne
 have tracked : ∀ {a : Addr} {h' : Heap}, (∃ o, s.heap.get? a = some o /\ H a = none) -> Heap.SameBut a s.heap h' -> HOk X.prog X.w H h' := fun {a h'} ha hs b ob e => by
  obtain ⟨_, _, hfree⟩ := ha
  refine (I.hok b ob e).stay (fun c w' hc q => (hs.2 c ?_).trans q) (fun _ q => q) fun _ _ q => q
  rintro rfl
  rcases hc with rfl | hc
  ·rw [hfree] at e; cases e
  ·rw [hfree] at hc; cases hc
 rcases hx with hk | hk
 ·refine wpAny_storeName_local hk hn (fun h' hn' hs => ?_) hcls
  obtain ⟨oL, _, _, hoL, _⟩ := id hn
  refine h _ ⟨I.ok, I.os, I.bare, ⟨fun b o e n hb hx => ?_, fun b o e n hb hx => ?_, I.base.free, fun b o e hx => ?_, I.base.tups, I.base.frzs, I.base.tbls⟩, ⟨_, hn', fun j y v' e1 e2 e3 => ?_⟩, fun y c e => ?_, I.free, I.freeC, fun p hp => ?_, tracked ⟨oL, hoL, I.free⟩ hs, by simpa using I.len⟩ ⟨_, hs, .inl rfl⟩
  ·exact (hs.2 b (Nat.ne_of_lt (Nat.lt_of_lt_of_le (Heap.lt_size e) I.ok.above))).trans (I.base.keep b o e n hb hx)
  ·obtain ⟨sl, e1⟩ := I.base.slot b o e n hb hx
   exact ⟨sl, (hs.2 b (Nat.ne_of_lt (Nat.lt_of_lt_of_le (Heap.lt_size e) I.ok.above))).trans e1⟩
  ·obtain ⟨o', e1⟩ := I.base.there b o e hx
   exact ⟨o', (hs.2 b (Nat.ne_of_lt (Nat.lt_of_lt_of_le (Heap.lt_size e) I.ok.above))).trans e1⟩
  ·by_cases hj : j = i
   ·subst hj
    rw [hi] at e1; cases e1
    rw [List.getElem?_set_self hiσ] at e2
    cases e2
    exact ⟨u, r, .inl ⟨hk, by simp⟩⟩
   ·rw [List.getElem?_set_ne (Ne.symm hj)] at e2
    obtain ⟨u', r', q⟩ := hl j y v' e1 e2 e3
    refine ⟨u', r', ?_⟩
    rcases q with ⟨k, e⟩ | ⟨k, c, e, z⟩
    ·refine .inl ⟨k, ?_⟩
     have : y ≠ x := fun e => hj (iG hN e1 (e ▸ hi))
     simp [this, e]
    ·exact .inr ⟨k, c, e, z.sameBut hs (cne y c e)⟩
  ·obtain ⟨w', z⟩ := I.cell y c e
   exact ⟨w', z.sameBut hs (cne y c e)⟩
  ·obtain ⟨e, n, ne, nf, d⟩ := I.pin p hp
   exact ⟨(hs.2 p.1 ne).trans e, n, ne, nf, d⟩
 ·have hfn : X.fn x = true := by
   rcases hf with z | z
   ·exact z
   ·rw [z] at hk; cases hk
  obtain ⟨c, hc⟩ := I.ok.has x (.inl hk)
  obtain ⟨w', z⟩ := I.cell x c hc
  refine wpAny_storeName_cell I.ok.kind hk hc z (fun h' hc' hs => ?_)
  obtain ⟨oc, hoc, hocd⟩ := id z
  refine h { s with heap := h' } ⟨I.ok, I.os, I.bare, ⟨fun b o e n hb hx => ?_, fun b o e n hb hx => ?_, I.base.free, fun b o e hx => ?_, I.base.tups, I.base.frzs, I.base.tbls⟩, ⟨m, hn.sameBut hs (Ne.symm (cne x c hc)), fun j y v' e1 e2 e3 => ?_⟩, fun y c' e => ?_, I.free, I.freeC, fun p hp => ?_, tracked ⟨oc, hoc, I.freeC x c hc⟩ hs, by simpa using I.len⟩ ⟨c, hs, .inr hc⟩
  ·exact (hs.2 b (Nat.ne_of_lt (Nat.lt_of_lt_of_le (Heap.lt_size e) (I.ok.cab x c hfn hc)))).trans (I.base.keep b o e n hb hx)
  ·obtain ⟨sl, e1⟩ := I.base.slot b o e n hb hx
   exact ⟨sl, (hs.2 b (Nat.ne_of_lt (Nat.lt_of_lt_of_le (Heap.lt_size e) (I.ok.cab x c hfn hc)))).trans e1⟩
  ·obtain ⟨o', e1⟩ := I.base.there b o e hx
   exact ⟨o', (hs.2 b (Nat.ne_of_lt (Nat.lt_of_lt_of_le (Heap.lt_size e) (I.ok.cab x c hfn hc)))).trans e1⟩
  ·by_cases hj : j = i
   ·subst hj
    rw [hi] at e1; cases e1
    rw [List.getElem?_set_self hiσ] at e2
    cases e2
    exact ⟨u, r, .inr ⟨.inl hk, c, hc, hc'⟩⟩
   ·rw [List.getElem?_set_ne (Ne.symm hj)] at e2
    obtain ⟨u', r', q⟩ := hl j y v' e1 e2 e3
    refine ⟨u', r', ?_⟩
    rcases q with q | ⟨k, c', e, z'⟩
    ·exact .inl q
    ·refine .inr ⟨k, c', e, z'.sameBut hs ?_⟩
     rintro rfl
     exact hj (iG hN e1 (I.ok.inj _ _ _ e hc ▸ hi))
  ·by_cases hcc : c' = c
   ·subst hcc; exact ⟨_, hc'⟩
   ·obtain ⟨w2, z2⟩ := I.cell y c' e
    exact ⟨w2, z2.sameBut hs hcc⟩
  ·obtain ⟨e, n, ne, nf, d⟩ := I.pin p hp
   refine ⟨(hs.2 p.1 ?_).trans e, n, ne, nf, d⟩
   intro q
   rw [q, hoc] at e
   have q' : oc = p.2 := Option.some.inj e
   exact d w' (by rw [<- q']; exact hocd)
theorem dG {M : Model} {A : Around} {E : Value -> Shared -> Prop} {i : Nat} {x : Str} {v : V} {u : Value} {Q : Unit -> Shared -> Prop} (I : Inv X pins σ H s) (hN : X.N.Nodup) (hi : X.N[i]? = some x) (hx : Loc X.env.scope x) (r : RelV v u)
  (h : ∀ s', Inv X pins (σ.set i (some v)) H s' -> Q () s') (hf : X.fn x = true \/ X.env.scope.names.lookup x = some .local := by first | exact .inl rfl | exact .inr rfl | assumption) : wpAny M A (storeName X.env x u) Q E s :=
 gz I hN hi hx r (fun s' I' _ => h s' I') hf
theorem Inv.call' {s' : Shared} {ch : List Addr} (I : Inv X pins σ H s) (ho : s'.os = s.os) (u : Un (frs X.stack) ch H H' s.heap s'.heap) (hok : HOk X.prog X.w H' s'.heap) (hg : AllBare s'.gens)
  (hch : ∀ b ∈ ch, (b ∈ X.ex \/ X.s₀.heap.objs.size <= b) /\ b ≠ X.env.locals /\ (∀ x c, X.env.cells.lookup x = some c -> c ≠ b) /\ ∀ p ∈ X.pn ++ pins, p.1 ≠ b) : Inv X pins σ H' s' := by
 obtain ⟨h', g', d', t', o'⟩ := s'
 have e : o' = s.os := ho
 subst e
 exact I.call (g' := g') (t' := t') (d' := d') u hok hg hch
end
abbrev XK := Value -> Option Addr -> Hp -> Prop
abbrev St := List (Option V)
abbrev VK := V -> Hp -> Prop
abbrev TE := St -> Hp -> VK -> Prop
abbrev TT := St -> Hp -> (Bool -> Hp -> Prop) -> Prop
abbrev TA := St -> Hp -> (List V -> Hp -> Prop) -> Prop
structure Ends where
 nx : St -> Hp -> Prop
 rt : VK
 bk : St -> Hp -> Prop := fun _ _ => False
 ct : St -> Hp -> Prop := fun _ _ => False
abbrev TS := Ends -> St -> Hp -> Prop
def EP (X : Cx) (pins : List (Addr × Obj)) (σ : St) (Q : VK) (u : Value) (s' : Shared) : Prop := ∃ v H', Inv X pins σ H' s' /\ RelV v u /\ Q v H'
def TP (X : Cx) (pins : List (Addr × Obj)) (σ : St) (Q : Bool -> Hp -> Prop) (b : Bool) (s' : Shared) : Prop := ∃ H', Inv X pins σ H' s' /\ Q b H'
def AP (X : Cx) (pins : List (Addr × Obj)) (σ : St) (Q : List V -> Hp -> Prop) (us : List Value) (s' : Shared) : Prop := ∃ vs H', Inv X pins σ H' s' /\ Vals vs us /\ Q vs H'
def SP (X : Cx) (pins : List (Addr × Obj)) (D : Ends) (f : Flow) (s' : Shared) : Prop :=
 match f with
 | .next => ∃ σ' H', Inv X pins σ' H' s' /\ D.nx σ' H'
 | .brk => ∃ σ' H', Inv X pins σ' H' s' /\ D.bk σ' H'
 | .cont => ∃ σ' H', Inv X pins σ' H' s' /\ D.ct σ' H'
 | .ret u => ∃ v σ' H', Inv X pins σ' H' s' /\ RelV v u /\ D.rt v H'
def PE (X : Cx) (e : Expr) (t : TE) : Prop :=
 ∀ (pins : List (Addr × Obj)) (s : Shared) (σ : St) (H : Hp) (Q : VK), Inv X pins σ H s -> t σ H Q -> wpAny (model X.prog X.w) X.A (eval e X.env) (EP X pins σ Q) X.xe s
def PT (X : Cx) (e : Expr) (t : TT) : Prop :=
 ∀ (pins : List (Addr × Obj)) (s : Shared) (σ : St) (H : Hp) (Q : Bool -> Hp -> Prop), Inv X pins σ H s -> t σ H Q -> wpAny (model X.prog X.w) X.A (isTrue e X.env (eval e X.env)) (TP X pins σ Q) X.xe s
def PW (X : Cx) (e : Expr) (t : TT) : Prop :=
 ∀ (whole : Sem Value) (pins : List (Addr × Obj)) (s : Shared) (σ : St) (H : Hp) (Q : Bool -> Hp -> Prop), Inv X pins σ H s -> t σ H Q -> wpAny (model X.prog X.w) X.A (isTrue e X.env whole) (TP X pins σ Q) X.xe s
theorem PW.pt {X : Cx} {e : Expr} {t : TT} (h : PW X e t) : PT X e t := h _
def PA (X : Cx) (es : List Expr) (t : TA) : Prop :=
 ∀ (pos : Pos) (pins : List (Addr × Obj)) (s : Shared) (σ : St) (H : Hp) (Q : List V -> Hp -> Prop), Inv X pins σ H s -> t σ H Q -> wpAny (model X.prog X.w) X.A (spliced (backTo pos (starEach es X.env))) (AP X pins σ Q) X.xe s
def PS (X : Cx) (st : Stmt) (t : TS) : Prop :=
 ∀ (pins : List (Addr × Obj)) (s : Shared) (σ : St) (H : Hp) (D : Ends), Inv X pins σ H s -> t D σ H -> wpAny (model X.prog X.w) X.A (exec st X.env) (SP X pins D) X.xe s
def PSs (X : Cx) (st : List Stmt) (t : TS) : Prop :=
 ∀ (pins : List (Addr × Obj)) (s : Shared) (σ : St) (H : Hp) (D : Ends), Inv X pins σ H s -> t D σ H -> wpAny (model X.prog X.w) X.A (execs st X.env) (SP X pins D) X.xe s
theorem thn {α : Type} {t : Sem α} {Q Q' : α -> Shared -> Prop} {M : Model} {A : Around} {E : Value -> Shared -> Prop} {s : Shared} (h : wpAny M A t Q E s) (hQ : ∀ a s, Q a s -> Q' a s) : wpAny M A t Q' E s := wpAny_mono h hQ fun _ _ x => x
end L2
namespace L2
open PySem PySem.Spec PyProof.Rows
section
variable {X : Cx}
def cS (i : Nat) : TE := fun σ H Q => ∃ v, σ[i]? = some (some v) /\ Q v H
def tC (v : V) : TE := fun _ H Q => Q v H
theorem mZ {i : Nat} {x : Str} {pos : Pos} (hN : X.N[i]? = some x) (hv : Vis X.env.scope x) (hd : (x == ("__debug__" : Str)) = false := by decide) (hcd : (x == ("__classdict__" : Str)) = false := by decide) : PE X (.Name x pos) (cS i) := by
 intro pins s σ H Q I h
 obtain ⟨v, e, h⟩ := h
 obtain ⟨m, hn, hl⟩ := I.loc
 obtain ⟨u, r, l⟩ := hl i x v hN e hv
 have fin : EP X pins σ Q u s := ⟨v, H, I, r, h⟩
 rcases l with ⟨hk, hm⟩ | ⟨hk, c, hc, hcell⟩
 ·exact wpAny_Name (wpAny_loadName_local I.ok.kind hk hn hm fin) hd
 ·rcases hk with hk | hk
  ·exact wpAny_Name (wpAny_loadName_cell I.ok.kind hk hc hcell fin) hd
  ·exact wpAny_Name (wpAny_loadName_free I.ok.kind hk hc hcell fin hcd) hd
theorem yv {i j pos} : PE X (.Constant (.int i) j pos) (tC (.int i)) := fun _ _ _ H _ I h => wpAny_Constant_int ⟨.int i, H, I.tok _, ⟨_, rfl⟩, h⟩
theorem Bk {b j pos} : PE X (.Constant (.bool b) j pos) (tC (.bl b)) := fun _ _ _ H _ I h => Constant_bool ⟨.bl b, H, I, rfl, h⟩
theorem yw {j pos} : PE X (.Constant .none j pos) (tC .non) := fun _ _ _ H _ I h => Constant_none ⟨.non, H, I, rfl, h⟩
theorem qy {x j pos} : PE X (.Constant (.str x) j pos) (tC (.str x)) := fun _ _ _ H _ I h => Calls.Constant_str ⟨.str x, H, I.tok _, ⟨_, rfl⟩, h⟩
def Gl (X : Cx) (x : Str) : Prop := X.env.kindOf x = some .globalImplicit
theorem fG {E : Value -> Shared -> Prop} {pins : List (Addr × Obj)} {s : Shared} {σ : St} {H : Hp} {x : Str} {u : Value} {pos : Pos} {Q : Value -> Shared -> Prop} (I : Inv X pins σ H s) (hg : Gl X x) (hm : X.mg x = some u) (h : Q u s)
  (hd : (x == ("__debug__" : Str)) = false := by decide) : wpAny (model X.prog X.w) X.A (eval (.Name x pos) X.env) Q E s :=
 Calls.Name_function_global I.ok.kind hg (Calls.loadGlobal_global (by rw [I.ok.glob]; exact I.mod.glob.keeps I.bk) hm h) hd
theorem fu {E : Value -> Shared -> Prop} {pins : List (Addr × Obj)} {s : Shared} {σ : St} {H : Hp} {x : Str} {u : Value} {pos : Pos} {Q : Value -> Shared -> Prop} (I : Inv X pins σ H s) (hg : Gl X x) (hm : X.mg x = none) (hv : bootBuiltins x = some u) (h : Q u s)
  (hn : x ≠ "__name__" := by decide) (hd : (x == ("__debug__" : Str)) = false := by decide) : wpAny (model X.prog X.w) X.A (eval (.Name x pos) X.env) Q E s := by
 obtain ⟨mb, h1, h2⟩ := I.mod.blt
 exact Calls.Name_function_global I.ok.kind hg (Calls.loadGlobal_builtin (by rw [I.ok.glob]; exact I.mod.glob.keeps I.bk) hm (by rw [I.ok.blt]; exact h1.keeps I.bk) ((h2 x hn).trans hv) h) hd
theorem cy {x : Str} {v : V} {u : Value} {pos : Pos} (hg : Gl X x) (hm : X.mg x = some u) (r : RelV v u) (hd : (x == ("__debug__" : Str)) = false := by decide) : PE X (.Name x pos) (tC v) :=
 fun _ _ _ H _ I h => fG I hg hm ⟨v, H, I, r, h⟩ hd
theorem dm {x : Str} {v : V} {u : Value} {pos : Pos} (hg : Gl X x) (hm : X.mg x = none) (hv : bootBuiltins x = some u) (r : RelV v u) (hn : x ≠ "__name__" := by decide) (hd : (x == ("__debug__" : Str)) = false := by decide) : PE X (.Name x pos) (tC v) :=
 fun _ _ _ H _ I h => fu I hg hm hv ⟨v, H, I, r, h⟩ hn hd
variable {a b : Expr} {ta tb : TE} {pos : Pos}
def tB (t : TE) : TT := fun σ H Q => t σ H fun x H1 => ∃ c, x = .bl c /\ Q c H1
theorem yx {e : Expr} {t : TE} (h : PE X e t) (he : ∀ whole, isTrue e X.env whole = (do let v <- whole; standAt e.pos; holding [v] (truthy v)) := by intro _; rfl) : PT X e (tB t) := by
 intro pins s σ H Q I hw
 refine isTrue_plain (thn (h pins s σ H _ I hw) fun v s1 zr1 => ?_) (he _)
 obtain ⟨x, H1, I1, r1, q1⟩ := zr1
 obtain ⟨d, rfl, q⟩ := q1
 cases r1
 exact wpAny_truthy_bool ⟨H1, I1, q⟩
variable {tA tB' : TT} {rest : List Expr}
def Bl (t u : TT) : TT := fun σ H Q => t σ H fun c H1 => if c = true then u σ H1 Q else Q false H1
def tOr (t u : TT) : TT := fun σ H Q => t σ H fun c H1 => if c = true then Q true H1 else u σ H1 Q
def Bm (t : TT) : TT := fun σ H Q => t σ H fun c H1 => Q (!c) H1
theorem uo (ha : PT X a tA) : PW X (.BoolOp .And [a] pos) tA := by
 intro wh pins s σ H Q I h
 refine isTrue_and (thn (ha pins s σ H Q I h) fun c s1 e => ?_)
 cases c with
 | true => exact isTrue_and_nil e
 | false => exact e
theorem yz (ha : PT X a tA) : PW X (.BoolOp .Or [a] pos) tA := by
 intro wh pins s σ H Q I h
 refine isTrue_or (thn (ha pins s σ H Q I h) fun c s1 e => ?_)
 cases c with
 | false => exact isTrue_or_nil e
 | true => exact e
theorem yA (ha : PT X a tA) (hb : PW X (.BoolOp .And (b :: rest) pos) tB') : PW X (.BoolOp .And (a :: b :: rest) pos) (Bl tA tB') := by
 intro wh pins s σ H Q I h
 refine isTrue_and (thn (ha pins s σ H _ I h) fun c s1 zr1 => ?_)
 obtain ⟨H1, I1, q1⟩ := zr1
 cases c with
 | true => exact hb wh pins s1 σ H1 Q I1 q1
 | false => exact ⟨H1, I1, q1⟩
theorem Bn (ha : PT X a tA) (hb : PW X (.BoolOp .Or (b :: rest) pos) tB') : PW X (.BoolOp .Or (a :: b :: rest) pos) (tOr tA tB') := by
 intro wh pins s σ H Q I h
 refine isTrue_or (thn (ha pins s σ H _ I h) fun c s1 zr1 => ?_)
 obtain ⟨H1, I1, q1⟩ := zr1
 cases c with
 | true => exact ⟨H1, I1, q1⟩
 | false => exact hb wh pins s1 σ H1 Q I1 q1
theorem yB (ha : PT X a tA) : PT X (.UnaryOp .Not a pos) (Bm tA) := by
 intro pins s σ H Q I h
 exact isTrue_not (ha pins s σ H (fun c H1 => Q (!c) H1) I h)
def xi (ta tb : TE) : TE := fun σ H Q => ta σ H fun x H1 => ∃ c, x = .bl c /\ if c = true then tb σ H1 Q else Q (.bl false) H1
def xj (ta : TE) : TE := fun σ H Q => ta σ H fun x H1 => ∃ c, x = .bl c /\ Q (.bl (!c)) H1
theorem yC {op} {t : TE} (h : PE X a t) : PE X (.BoolOp op [a] pos) t := fun pins s σ H Q I hw => BoolOp_one (h pins s σ H Q I hw)
theorem yD (ha : PE X a ta) (hb : PE X (.BoolOp .And (b :: rest) pos) tb) : PE X (.BoolOp .And (a :: b :: rest) pos) (xi ta tb) := by
 intro pins s σ H Q I h
 refine BoolOp_and (thn (ha pins s σ H _ I h) fun v s1 zr1 => ?_)
 obtain ⟨x, H1, I1, r1, q1⟩ := zr1
 obtain ⟨c, rfl, q1⟩ := q1
 cases r1
 refine wpAny_truthy_bool ?_
 cases c with
 | true => exact hb pins s1 σ H1 Q I1 q1
 | false => exact ⟨.bl false, H1, I1, rfl, q1⟩
theorem yE (ha : PE X a ta) : PE X (.UnaryOp .Not a pos) (xj ta) := by
 intro pins s σ H Q I h
 refine UnaryOp_ (thn (ha pins s σ H _ I h) fun v s1 zr1 => ?_)
 obtain ⟨x, H1, I1, r1, q1⟩ := zr1
 obtain ⟨c, rfl, q1⟩ := q1
 cases r1
 exact not_of (wpAny_truthy_bool ⟨.bl (!c), H1, I1, rfl, q1⟩)
end
end L2
namespace L2
open PySem PySem.Spec PyProof.Rows
def SqL (K : PySem.W.Frag) (H : Hp) (a : Addr) (xs : List V) : Prop :=
 Rd H a (.lst xs) \/
  ∃ (o : Obj) (its : Array Value) (n : Nat), K.lookup a = some o /\ o.cls = .type "list" /\ o.dict = none /\ o.data = .seq its n /\ its.size <= sizeLine /\ Vals xs its.toList
def SqT (K : PySem.W.Frag) (H : Hp) (a : Addr) (xs : List V) : Prop :=
 Rd H a (.tup xs) \/
  ∃ (o : Obj) (its : Array Value) (n : Nat), K.lookup a = some o /\ o.cls = .type "tuple" /\ o.data = .seq its n /\ its.size <= sizeLine /\ Vals xs its.toList
def DS : Value -> Option V
 | .none => some .non
 | .bool b => some (.bl b)
 | .int i _ => some (.int i)
 | .str x _ => some (.str x)
 | .bytes b _ => some (.byt b)
 | .float b _ => some (.flt b)
 | .ref a => some (.ref a)
 | .type n => some (.ty n)
 | _ => none
theorem RelV.abs {x : V} {u : Value} (r : RelV x u) : DS u = some x := by
 cases x with
 | non => cases r; rfl
 | bl _ => cases r; rfl
 | int _ => obtain ⟨t, rfl⟩ := r; rfl
 | str _ => obtain ⟨t, rfl⟩ := r; rfl
 | byt _ => obtain ⟨t, rfl⟩ := r; rfl
 | flt _ => obtain ⟨t, rfl⟩ := r; rfl
 | ref _ => cases r; rfl
 | ty _ => cases r; rfl
theorem RelV.inj {x y : V} {u : Value} (r : RelV x u) (q : RelV y u) : x = y := Option.some.inj (r.abs.symm.trans q.abs)
theorem Vals.inj : ∀ {xs ys : List V} {us : List Value}, Vals xs us -> Vals ys us -> xs = ys
 | _, _, _, .nil, .nil => rfl
 | _, _, _, .cons r t, .cons r' t' => by rw [r.inj r', Vals.inj t t']
section
variable {X : Cx} {pins : List (Addr × Obj)} {σ : St} {H : Hp} {s : Shared} {a : Addr} {xs ys : List V}
theorem Inv.list (I : Inv X pins σ H s) (h : SqL X.K H a xs) : ∃ its : List Value, Vals xs its /\ PlainL s.heap a its.toArray /\ xs.length <= sizeLine := by
 rcases h with h | ⟨o, its, n, hk, hc, hd, hs, hz, r⟩
 ·obtain ⟨z, its, n, r, e⟩ := h.ok I.hok
  exact ⟨its, r, ⟨_, n, e, rfl, rfl, rfl⟩, z⟩
 ·refine ⟨its.toList, r, ⟨o, n, I.kIn a o hk, hc, hd, by simpa using hs⟩, ?_⟩
  have e := r.length
  simp only [Array.length_toList] at e
  omega
theorem Inv.tuple (I : Inv X pins σ H s) (h : SqT X.K H a xs) : ∃ its : List Value, Vals xs its /\ IsTup s.heap a its.toArray /\ xs.length <= sizeLine := by
 rcases h with h | ⟨o, its, n, hk, hc, hs, hz, r⟩
 ·obtain ⟨z, its, r, p⟩ := h.ok I.hok
  exact ⟨its, r, p, z⟩
 ·refine ⟨its.toList, r, ⟨o, I.kIn a o hk, hc, n, by simpa using hs⟩, ?_⟩
  have e := r.length
  simp only [Array.length_toList] at e
  omega
theorem Inv.list_inj (I : Inv X pins σ H s) (h : SqL X.K H a xs) (h' : SqL X.K H a ys) : xs = ys := by
 obtain ⟨its, r, ⟨o, n, e, _, _, d⟩, _⟩ := I.list h
 obtain ⟨its', r', ⟨o', n', e', _, _, d'⟩, _⟩ := I.list h'
 rw [e] at e'; cases e'
 rw [d] at d'
 injection d' with d1 _
 have : its = its' := by simpa using congrArg Array.toList d1
 subst this
 exact r.inj r'
end
abbrev Cx.wish (X : Cx) (E : Value -> Shared -> Prop) : Cx := { X with xe := E }
abbrev Cx.nox (X : Cx) : Cx := X.wish fun _ _ => False
theorem Cx.Ok.wish {X : Cx} (ok : X.Ok) (E : Value -> Shared -> Prop) : (X.wish E).Ok :=
 ⟨ok.mod, ok.kind, ok.glob, ok.blt, ok.above, ok.inj, ok.has, ok.cab, ok.hd, ok.frames, ok.stk, ok.exf, ok.bs, ok.bsz, ok.noex, ok.exfs, ok.funs, ok.frf⟩
theorem Cx.Ok.unwish {X : Cx} {E : Value -> Shared -> Prop} (ok : (X.wish E).Ok) : X.Ok :=
 ⟨ok.mod, ok.kind, ok.glob, ok.blt, ok.above, ok.inj, ok.has, ok.cab, ok.hd, ok.frames, ok.stk, ok.exf, ok.bs, ok.bsz, ok.noex, ok.exfs, ok.funs, ok.frf⟩
section
variable {X : Cx} {pins : List (Addr × Obj)} {σ : St} {H : Hp} {s : Shared} {E : Value -> Shared -> Prop}
theorem Inv.wish (I : Inv X pins σ H s) (E : Value -> Shared -> Prop) : Inv (X.wish E) pins σ H s := ⟨I.ok.wish E, I.os, I.bare, I.base, I.loc, I.cell, I.free, I.freeC, I.pin, I.hok, I.len⟩
theorem Inv.unwish (I : Inv (X.wish E) pins σ H s) : Inv X pins σ H s := ⟨I.ok.unwish, I.os, I.bare, I.base, I.loc, I.cell, I.free, I.freeC, I.pin, I.hok, I.len⟩
theorem SP.unwish {D : Ends} {f : Flow} {s' : Shared} (h : SP (X.wish E) pins D f s') : SP X pins D f s' := by
 cases f with
 | next => obtain ⟨σ', H', I, q⟩ := h; exact ⟨σ', H', I.unwish, q⟩
 | brk => obtain ⟨σ', H', I, q⟩ := h; exact ⟨σ', H', I.unwish, q⟩
 | cont => obtain ⟨σ', H', I, q⟩ := h; exact ⟨σ', H', I.unwish, q⟩
 | ret u => obtain ⟨v, σ', H', I, r, q⟩ := h; exact ⟨v, σ', H', I.unwish, r, q⟩
theorem PSs.nox {st : List Stmt} {t : TS} (h : PSs X.nox st t) : PSs X st t := fun pins s σ H D I hw =>
 wpAny_mono (h pins s σ H D (I.wish _) hw) (fun _ _ q => q.unwish) fun _ _ z => False.elim z
end
section
variable {X : Cx} {st : Stmt} {rest : List Stmt} {t u : TS} {e : Expr} {te : TE} {pos : Pos}
def qz : TS := fun D σ H => D.nx σ H
def ke (t u : TS) : TS := fun D σ H => t { D with nx := u D } σ H
theorem kh : PSs X [] qz := fun _ _ σ H _ I h => wpAny_execs_nil ⟨σ, H, I, h⟩
theorem cT (h1 : PS X st t) (h2 : PSs X rest u) : PSs X (st :: rest) (ke t u) := by
 intro pins s σ H D I h
 refine wpAny_execs_cons (thn (h1 pins s σ H { D with nx := u D } I h) fun f s1 q => ?_)
 cases f with
 | next =>
  obtain ⟨σ', H', I', q⟩ := q
  exact h2 pins s1 σ' H' D I' q
 | ret v => exact q
 | brk => exact q
 | cont => exact q
theorem ki (h1 : PS X st t) : PSs X [st] t := by
 intro pins s σ H D I h
 refine wpAny_execs_cons (thn (h1 pins s σ H D I h) fun f s1 q => ?_)
 cases f with
 | next => exact wpAny_execs_nil q
 | ret v => exact q
 | brk => exact q
 | cont => exact q
theorem Inv.quiet {pins : List (Addr × Obj)} {σ : St} {H : Hp} {s : Shared} (I : Inv X pins σ H s) : interactive X.env = false := by simp [interactive, I.ok.kind]
def xk (te : TE) : TS := fun D σ H => te σ H fun _ H1 => D.nx σ H1
theorem uq (he : PE X e te) (hs : swapsWith e none pos.line X.env = pure false := by rfl) : PS X (.Expr e pos) (xk te) := by
 intro pins s σ H D I h
 exact wpAny_Expr_any (thn (he pins s σ H _ I h) fun v s1 zt1 => by obtain ⟨x, H1, I1, r1, q1⟩ := zt1; exact ⟨σ, H1, I1, q1⟩) I.quiet hs
def yF (te : TE) : TS := fun D σ H => te σ H D.rt
theorem qA (he : PE X e te) : PS X (.Return (some e) pos) (yF te) := by
 intro pins s σ H D I h
 exact wpAny_Return_some (thn (he pins s σ H _ I h) fun v s1 zt1 => by obtain ⟨x, H1, I1, r1, q1⟩ := zt1; exact ⟨x, σ, H1, I1, r1, q1⟩)
def yG (c : TT) (t u : TS) : TS := fun D σ H => c σ H fun b H1 => if b = true then t D σ H1 else u D σ H1
theorem xl {c : Expr} {a b : List Stmt} {tc : TT} (hc : PT X c tc) (ha : PSs X a t) (hb : PSs X b u) : PS X (.If c a b pos) (yG tc t u) := by
 intro pins s σ H D I h
 refine wpAny_If (thn (hc pins s σ H _ I h) fun d s1 zr1 => ?_)
 obtain ⟨H1, I1, q1⟩ := zr1
 cases d with
 | true => exact ha pins s1 σ H1 D I1 q1
 | false => exact hb pins s1 σ H1 D I1 q1
def gA : TS := fun _ _ _ => False
theorem qB : PS X st gA := fun _ _ _ _ _ _ h => h.elim
theorem gB {sts : List Stmt} : PSs X sts gA := fun _ _ _ _ _ _ h => h.elim
end
abbrev TG := V -> St -> Hp -> (St -> Hp -> Prop) -> Prop
abbrev TGs := List V -> St -> Hp -> (St -> Hp -> Prop) -> Prop
def PG (X : Cx) (target : Expr) (t : TG) : Prop :=
 ∀ (pins : List (Addr × Obj)) (s : Shared) (σ : St) (H : Hp) (v : V) (u : Value) (Q : St -> Hp -> Prop), Inv X pins σ H s -> RelV v u -> t v σ H Q ->
  wpAny (model X.prog X.w) X.A (assign target X.env u) (fun _ s' => ∃ σ' H', Inv X pins σ' H' s' /\ Q σ' H') X.xe s
def PGs (X : Cx) (ts : List Expr) (t : TGs) : Prop :=
 ∀ (pins : List (Addr × Obj)) (s : Shared) (σ : St) (H : Hp) (vs : List V) (us : List Value) (Q : St -> Hp -> Prop), Inv X pins σ H s -> Vals vs us -> t vs σ H Q ->
  wpAny (model X.prog X.w) X.A (assignInOrder ((assignEach ts X.env).map (·.2)) us) (fun _ s' => ∃ σ' H', Inv X pins σ' H' s' /\ Q σ' H') X.xe s
abbrev yH := V -> V -> V -> Hp -> (Hp -> Prop) -> Prop
def Bo (X : Cx) (t : yH) : Prop :=
 ∀ (pins : List (Addr × Obj)) (s : Shared) (σ : St) (H : Hp) (o i v : V) (ov iv u : Value) (Q : Hp -> Prop), Inv X pins σ H s -> RelV o ov -> RelV i iv -> RelV v u -> t o i v H Q ->
  wpAny (model X.prog X.w) X.A (setItem ov iv u) (fun _ s' => ∃ H', Inv X pins σ H' s' /\ Q H') X.xe s
section
variable {X : Cx} {pos : Pos}
def bL (i : Nat) : TG := fun v σ H Q => Q (σ.set i (some v)) H
theorem aw {i : Nat} {x : Str} (hN : X.N.Nodup) (hi : X.N[i]? = some x) (hx : Loc X.env.scope x) (hf : X.fn x = true \/ X.env.scope.names.lookup x = some .local := by first | exact .inl rfl | exact .inr rfl | assumption) : PG X (.Name x pos) (bL i) := by
 intro pins s σ H v u Q I r h
 exact wpAny_assign_Name (dG I hN hi hx r (fun s' I' => ⟨_, H, I', h⟩) hf)
def yI : TGs := fun vs σ H Q => vs = [] /\ Q σ H
def n9 (t : TG) (u : TGs) : TGs := fun vs σ H Q => ∃ v r, vs = v :: r /\ t v σ H fun σ' H' => u r σ' H' Q
theorem ur : PGs X [] yI := by
 intro pins s σ H vs us Q I r h
 obtain ⟨e, h⟩ := h
 subst e
 cases r
 exact assignInOrder_nil ⟨σ, H, I, h⟩
theorem qC {e : Expr} {es : List Expr} {t : TG} {u : TGs} (h1 : PG X e t) (h2 : PGs X es u)
  (hs : (assignEach (e :: es) X.env).map (·.2) = assign e X.env :: (assignEach es X.env).map (·.2) := by rfl) : PGs X (e :: es) (n9 t u) := by
 intro pins s σ H vs us Q I r h
 obtain ⟨v, vr, e1, h⟩ := h
 subst e1
 cases r with
 | cons r rr =>
  rw [hs]
  refine assignInOrder_cons (thn (h1 pins s σ H _ _ _ I r h) fun _ s1 zr1 => ?_)
  obtain ⟨σ1, H1, I1, q1⟩ := zr1
  exact h2 pins s1 σ1 H1 _ _ Q I1 rr q1
def yJ (K : PySem.W.Frag) (n : Nat) (t : TGs) : TG := fun v σ H Q => ∃ a xs, v = .ref a /\ SqT K H a xs /\ xs.length = n /\ t xs σ H Q
theorem yK {es : List Expr} {k : Nat} {t : TGs} {n : Nat} (hc : X.calm = true) (h : PGs X es t)
  (hn : (assignEach es X.env).length = n := by rfl) (hst : (assignEach es X.env).findIdx? (·.1) = none := by rfl) : PG X (.Tuple es k pos) (yJ X.K n t) := by
 intro pins s σ H v u Q I r hw
 obtain ⟨a, xs, e1, hq, hl, hw⟩ := hw
 subst e1
 cases r
 obtain ⟨its, rv, ht, hz⟩ := I.tuple hq
 refine assign_Tuple_tuple (I.ok.hd hc) ht (by simp [hn, <- hl, rv.length]) hst fun h' hx => ?_
 have I1 : Inv X pins σ H { s with heap := h' } := I.kept (t' := s.toks) fun b o e => hx b o (Nat.ne_of_lt (Heap.lt_size e)) e
 exact h pins _ σ H xs _ Q I1 (by simpa using rv) hw
def qD (to ti : TE) (t : yH) : TG := fun v σ H Q => to σ H fun o H1 => ti σ H1 fun i H2 => t o i v H2 fun H3 => Q σ H3
theorem qE {o i : Expr} {to ti : TE} {t : yH} (ho : PE X o to) (hi : PE X i ti) (hs : Bo X t)
  (ha : ∀ v, assign (.Subscript o i pos) X.env v = (do
   let ov <- holding [v] (eval o X.env)
   let iv <- holding [v, ov] (eval i X.env)
   standAt pos
   holding [v, ov, iv] (setItem ov iv v)
   release [v, ov, iv] []) := by intro _; rfl) : PG X (.Subscript o i pos) (qD to ti t) := by
 intro pins s σ H v u Q I r h
 rw [ha]
 refine wpAny_bind (wpAny_holding (thn (ho pins s σ H _ I h) fun ov s1 zr1 => ?_))
 obtain ⟨x, H1, I1, r1, q1⟩ := zr1
 refine wpAny_bind (wpAny_holding (thn (hi pins s1 σ H1 _ I1 q1) fun iv s2 zr1 => ?_))
 obtain ⟨y, H2, I2, r2, q2⟩ := zr1
 refine wpAny_bind (wpAny_standAt (wpAny_bind (wpAny_holding (thn (hs pins s2 σ H2 x y v ov iv u _ I2 r1 r2 r q2) fun _ s3 zr1 => ?_))))
 obtain ⟨H3, I3, q3⟩ := zr1
 exact wpAny_release ⟨σ, H3, I3, q3⟩
def dH (te : TE) (g : TG) : TS := fun D σ H => te σ H fun x H1 => g x σ H1 D.nx
theorem kj {tg e : Expr} {te : TE} {g : TG} (he : PE X e te) (hg : PG X tg g) (hs : swapsWithSole [tg] e pos.line X.env = pure false := by rfl) (hw : swappedStores [tg] e X.env = pure none := by rfl)
  (h1 : (assignEach [tg] X.env).map (·.2) = [assign tg X.env] := by rfl) : PS X (.Assign [tg] e pos) (dH te g) := by
 intro pins s σ H D I h
 refine wpAny_Assign_stores (thn (he pins s σ H _ I h) fun v s1 zr1 => ?_) hs hw
 obtain ⟨x, H1, I1, r1, q1⟩ := zr1
 rw [h1]
 exact thn (hg pins s1 σ H1 x v _ I1 r1 q1) fun _ s2 q => q
theorem dR {i : Nat} {x : Str} {e : Expr} {te : TE} {pos' : Pos} (hN : X.N.Nodup) (hi : X.N[i]? = some x) (hx : Loc X.env.scope x) (he : PE X e te) (hs : swapsWith e (some (.Name x pos')) pos.line X.env = pure false := by rfl) (hf : X.fn x = true \/ X.env.scope.names.lookup x = some .local := by first | exact .inl rfl | exact .inr rfl | assumption) :
  PS X (.Assign [.Name x pos'] e pos) (dH te (bL i)) := by
 intro pins s σ H D I h
 refine wpAny_Assign_Name (thn (he pins s σ H _ I h) fun v s1 zr1 => ?_) hs
 obtain ⟨y, H1, I1, r1, q1⟩ := zr1
 exact dG I1 hN hi hx r1 (fun s2 I2 => ⟨_, H1, I2, q1⟩) hf
def qF (i j : Nat) (ta : TA) : TS := fun D σ H => ta σ H fun vs H1 => ∃ v w, vs = [v, w] /\ D.nx ((σ.set i (some v)).set j (some w)) H1
theorem yL {i j : Nat} {x y : Str} {a b : Expr} {ta : TA} {px py pt : Pos} {kt k2 pt2} (hc : X.calm = true) (hN : X.N.Nodup) (hi : X.N[i]? = some x) (hj : X.N[j]? = some y) (hij : i ≠ j)
  (hx : X.env.scope.names.lookup x = some .local) (hy : X.env.scope.names.lookup y = some .local) (ha : PA X [a, b] ta)
  (hw : swappedStores [.Tuple [.Name x px, .Name y py] kt pt] (.Tuple [a, b] k2 pt2) X.env = pure (some [x, y]))
  (hs : swapsWithSole [.Tuple [.Name x px, .Name y py] kt pt] (.Tuple [a, b] k2 pt2) pos.line X.env = pure false := by rfl) :
  PS X (.Assign [.Tuple [.Name x px, .Name y py] kt pt] (.Tuple [a, b] k2 pt2) pos) (qF i j ta) := by
 intro pins s σ H D I h
 rw [exec_Assign_arm]
 refine wpAny_bind (wpAny_standAt ?_)
 rw [hs]
 refine wpAny_bind (wpAny_pure ?_)
 rw [if_neg (by decide)]
 refine wpAny_bind (Tuple_ (thn (ha _ pins s σ H _ I h) fun us s1 zr1 => ?_))
 obtain ⟨vs, H1, I1, r1, q1⟩ := zr1
 obtain ⟨v, w, e1, q1⟩ := q1
 subst e1
 obtain ⟨u1, u2, rfl, rv, rw'⟩ : ∃ u1 u2, us = [u1, u2] /\ RelV v u1 /\ RelV w u2 := by
  cases r1 with
  | cons p q =>
   cases q with
   | cons p' q' =>
    cases q'
    exact ⟨_, _, rfl, p, p'⟩
 refine wpAny_newObj_type ?_ (by show 2 <= sizeLine; decide)
 have I2 : Inv X pins σ H1 { s1 with heap := s1.heap.push { cls := .type "tuple", data := .seq [u1, u2].toArray } } := I1.kept (t' := s1.toks) fun b o e => Heap.get?_push_of_some _ e
 rw [hw]
 refine wpAny_bind (wpAny_pure ?_)
 show wpAny (model X.prog X.w) X.A (do rule "assign.swapped-stores"; let items <- unpackItems (.ref s1.heap.objs.size) 2 none; assignInOrder [fun v => bindName X.env y v, fun v => bindName X.env x v] items.reverse; pure Flow.next) _ _ _
 refine wpAny_bind (wpAny_rule (wpAny_bind (unpackItems_tuple (items := #[u1, u2]) (I.ok.hd hc) (IsTup.new s1.heap _) fun h' hx' => ?_)))
 have I3 := I2.kept (h' := h') (t' := s1.toks) fun b o e => hx' b o (Nat.ne_of_lt (Heap.lt_size e)) e
 show wpAny _ _ (assignInOrder [fun v => bindName X.env y v, fun v => bindName X.env x v] [u2, u1] >>= fun _ => pure Flow.next) _ _ _
 refine wpAny_bind (assignInOrder_cons (wpAny_bindName (dG I3 hN hj (.inl hy) rw' (fun s2 I4 => ?_) (.inr hy))))
 refine assignInOrder_cons (wpAny_bindName (dG I4 hN hi (.inl hx) rv (fun s3 I5 => assignInOrder_nil (wpAny_pure ?_)) (.inr hx)))
 rw [List.set_comm _ _ (Ne.symm hij)] at I5
 exact ⟨_, H1, I5, q1⟩
end
structure It where
 go : Nat -> Hp -> Prop
 yld : Nat -> Hp -> V -> Hp -> Prop
 stop : Nat -> Hp -> Prop
def eE (X : Cx) (pins : List (Addr × Obj)) (H : Hp) (b : Addr) : Prop :=
 H b = none /\ b ≠ X.env.locals /\ b ∉ X.fs /\ (b ∈ X.ex \/ X.s₀.heap.objs.size <= b) /\ (∀ x c, X.env.cells.lookup x = some c -> c ≠ b) /\ ∀ p ∈ X.pn ++ pins, p.1 ≠ b
theorem Inv.fpOk {X : Cx} {pins : List (Addr × Obj)} {σ : St} {H H' : Hp} {s : Shared} {b : Addr} (I : Inv X pins σ H s) (hb : s.heap.objs.size <= b) (hn : H' b = none) : eE X pins H' b := by
 refine ⟨hn, Nat.ne_of_gt (Nat.lt_of_lt_of_le I.lt hb), I.nofs hb, .inr (Nat.le_trans I.sz hb), fun x c e z => ?_, fun p hp z => ?_⟩
 ·obtain ⟨v, q⟩ := I.cell x c e
  exact absurd (Nat.lt_of_lt_of_le q.lt (by rw [z]; exact hb)) (Nat.lt_irrefl _)
 ·exact absurd (Nat.lt_of_lt_of_le (Heap.lt_size (I.pin p hp).1) (by rw [z]; exact hb)) (Nat.lt_irrefl _)
structure Turn (P : Program) (w : World) (K : PySem.W.Frag) (tg : Expr) (J : It) (fp : List Addr) (it : Addr) (tn : Nat -> Heap -> Prop) : Prop where
 mem : it ∈ fp
 obj : ∀ i h, tn i h -> ∀ b ∈ fp, ∃ o, h.get? b = some o /\ ∀ v, o.data ≠ .cell v
 keep : ∀ i h h', tn i h -> (∀ b ∈ fp, ∀ o, h.get? b = some o -> h'.get? b = some o) -> tn i h'
 item : ∀ (X : Cx), X.prog = P -> X.w = w -> X.K = K -> X.calm = true -> ∀ (i : Nat) (pins : List (Addr × Obj)) (s : Shared) (σ : St) (H : Hp) (E : Value -> Shared -> Prop), Inv X pins σ H s -> (∀ b ∈ fp, eE X pins H b) -> tn i s.heap -> J.go i H ->
  wpAny (model P w) X.A (pyNext (.ref it)) (fun r s1 => ∃ u, r = some u /\
   wpAny (model P w) X.A (letOwnedTupleGo tg (.ref it) u) (fun _ s2 => ∃ x H', Inv X pins σ H' s2 /\ RelV x u /\ J.yld i H x H' /\ tn (i + 1) s2.heap /\ ∀ b ∈ fp, H' b = none) E s1) E s
 done : ∀ (X : Cx), X.prog = P -> X.w = w -> X.K = K -> X.calm = true -> ∀ (i : Nat) (pins : List (Addr × Obj)) (s : Shared) (σ : St) (H : Hp) (E : Value -> Shared -> Prop), Inv X pins σ H s -> (∀ b ∈ fp, eE X pins H b) -> tn i s.heap -> J.stop i H ->
  wpAny (model P w) X.A (pyNext (.ref it)) (fun r s1 => r = none /\ Inv X pins σ H s1) E s
 self : ∀ (A : Around) (i : Nat) (s : Shared) (Q : Value -> Shared -> Prop) (E : Value -> Shared -> Prop), tn i s.heap -> Q (.ref it) s -> wpAny (model P w) A (pyIter (.ref it)) Q E s
abbrev TI := St -> Hp -> (It -> Hp -> Prop) -> Prop
def PIE (X : Cx) (pins : List (Addr × Obj)) (σ : St) (tg : Expr) (R : It -> Hp -> Prop) (itv : Value) (s2 : Shared) : Prop :=
 ∃ (it : Addr) (fp : List Addr) (tn : Nat -> Heap -> Prop) (J : It) (H' : Hp), itv = .ref it /\ Inv X pins σ H' s2 /\ Turn X.prog X.w X.K tg J fp it tn /\ tn 0 s2.heap /\ (∀ b ∈ fp, eE X pins H' b) /\ R J H'
def PI (X : Cx) (tg iter : Expr) (wi : TI) : Prop :=
 ∀ (pins : List (Addr × Obj)) (s : Shared) (σ : St) (H : Hp) (R : It -> Hp -> Prop), Inv X pins σ H s -> wi σ H R ->
  wpAny (model X.prog X.w) X.A (eval iter X.env) (fun v s1 => wpAny (model X.prog X.w) X.A (pyIter v) (PIE X pins σ tg R) X.xe s1) X.xe s
theorem qG {M : Model} {A : Around} {E : Value -> Shared -> Prop} {s : Shared} {tg : Expr} {it : Addr} {u : Value} {o : Obj} {n : String} {vs : Array Value} {Q : Unit -> Shared -> Prop} (ho : s.heap.get? it = some o) (hc : o.cls = .type n) (hd : o.data = .fields vs)
    (hn : ["enumerate", "zip", "dict_itemiterator", "dict_reverseitemiterator", "odict_iterator", "itertools.zip_longest", "itertools.pairwise"].contains n = false) (hQ : Q () s) : wpAny M A (letOwnedTupleGo tg (.ref it) u) Q E s := by
  unfold letOwnedTupleGo
  cases tg <;> first
    | exact wpAny_pure hQ
    | (cases u <;> first
        | exact wpAny_pure hQ
        | (refine wpAny_bind (wpAny_load ho ?_)
           rw [hc, hd]
           show wpAny M A (if (["enumerate", "zip", "dict_itemiterator", "dict_reverseitemiterator", "odict_iterator", "itertools.zip_longest", "itertools.pairwise"].contains n && vs[0]? == some (rawInt _)) = true then _ else _) Q E s
           rw [if_neg (by intro h; rw [hn, Bool.false_and] at h; cases h)]
           exact wpAny_pure hQ))
def Itl (K : PySem.W.Frag) (a : Addr) : It :=
 ⟨fun i H => ∃ xs x, SqL K H a xs /\ xs[i]? = some x, fun i H x H' => H' = H /\ ∀ xs, SqL K H a xs -> xs[i]? = some x, fun i H => ∃ xs, SqL K H a xs /\ xs.length <= i⟩
def Itr (lo : Int) (n : Nat) : It := ⟨fun i _ => i < n, fun i H x H' => H' = H /\ x = .int (lo + i), fun i _ => n <= i⟩
theorem pT {P : Program} {w : World} {K : PySem.W.Frag} {tg : Expr} (a it : Addr) : Turn P w K tg (Itl K a) [it] it (fun i h => h.IsListIter it a i) where
 mem := by simp
 obj := fun i h st b hb => by
  have e : b = it := by simpa using hb
  subst e
  obtain ⟨o, e, c, d⟩ := st
  exact ⟨o, e, fun v z => by rw [d] at z; cases z⟩
 keep := fun i h h' st k => st.at fun o e => k it (by simp) o e
 item := by
  intro X hP hw hK hc i pins s σ H E I hf st hg
  subst hP hw hK
  obtain ⟨xs, x, hq, hx⟩ := hg
  obtain ⟨its, rv, p, hz⟩ := I.list hq
  obtain ⟨u, hu, ru⟩ := rv.get hx
  obtain ⟨f0, f1, f2, f3, f4, f5⟩ := hf it (by simp)
  refine wpAny_pyNext_list_item st p.isList (x := u) (by simpa using hu) fun h' st' sb => ?_
  have I1 : Inv X pins σ H { s with heap := h' } := I.turned (t' := s.toks) (fun b o hb e => (sb.2 b hb).trans e) f0 f1 f3 f4 f5
  obtain ⟨o, e, c, d⟩ := id st'
  exact ⟨u, rfl, qG (s := { s with heap := h' }) e c d (by decide) ⟨x, H, I1, ru, ⟨rfl, fun ys hy => by rw [I.list_inj hy hq]; exact hx⟩, st', fun b hb => (hf b hb).1⟩⟩
 done := by
  intro X hP hw hK hc i pins s σ H E I hf st hg
  subst hP hw hK
  obtain ⟨xs, hq, hx⟩ := hg
  obtain ⟨its, rv, p, hz⟩ := I.list hq
  obtain ⟨f0, f1, f2, f3, f4, f5⟩ := hf it (by simp)
  have hl := rv.length
  exact wpAny_pyNext_list_end (I.ok.hd hc) st p.isList (by simp; omega) fun h' eb => ⟨rfl, I.turned (t' := s.toks) (fun b o hb e => eb b o hb e) f0 f1 f3 f4 f5⟩
 self := fun _ _ _ _ _ st h => wpAny_pyIter_listiter st h
theorem m5 {P : Program} {w : World} {K : PySem.W.Frag} {tg : Expr} (it : Addr) (lo : Int) (n : Nat) : Turn P w K tg (Itr lo n) [it] it (fun i h => IsRangeIter h it (lo + (i : Nat) * 1) ((n : Int) - (i : Nat)) 1) where
 mem := by simp
 obj := fun i h st b hb => by
  have e : b = it := by simpa using hb
  subst e
  exact ⟨_, st, fun v z => by
   have z' : Data.fields _ = Data.cell v := z
   cases z'⟩
 keep := fun i h h' st k => k it (by simp) _ st
 item := by
  intro X hP hw hK hc i pins s σ H E I hf st hg
  subst hP hw hK
  obtain ⟨f0, f1, f2, f3, f4, f5⟩ := hf it (by simp)
  have W := Walks.range (prog := X.prog) (w := X.w) (I.ok.hd hc) it lo 1 n
  refine W.item i s _ _ hg st fun v h' tk hv st' kk => ?_
  obtain ⟨t, rfl⟩ := hv
  have I1 : Inv X pins σ H { s with heap := h', toks := tk } := I.turned (fun b o hb e => kk b o (by simpa using hb) e) f0 f1 f3 f4 f5
  refine ⟨_, rfl, qG (s := { s with heap := h', toks := tk }) (n := "range_iterator") st' rfl rfl (by decide) ⟨.int (lo + i), H, I1, ⟨t, ?_⟩, ⟨rfl, rfl⟩, st', fun b hb => (hf b hb).1⟩⟩
  rw [Int.mul_one]
 done := by
  intro X hP hw hK hc i pins s σ H E I hf st hg
  subst hP hw hK
  obtain ⟨f0, f1, f2, f3, f4, f5⟩ := hf it (by simp)
  exact wpAny_pyNext_range_end (I.ok.hd hc) st (by have : n <= i := hg; omega) fun h' eb => ⟨rfl, I.turned (t' := s.toks) (fun b o hb e => eb b o hb e) f0 f1 f3 f4 f5⟩
 self := fun _ _ _ _ _ st h => wpAny_pyIter_rangeiter st h
end L2
namespace L2
open PySem PySem.Spec PyProof.Rows
section
variable {X : Cx} {tg : Expr}
def qH (K : PySem.W.Frag) (tl : TE) : TI := fun σ H R => tl σ H fun x H1 => ∃ a, x = .ref a /\ (∃ xs, SqL K H1 a xs) /\ R (Itl K a) H1
theorem oa {l : Expr} {tl : TE} (hl : PE X l tl) : PI X tg l (qH X.K tl) := by
 intro pins s σ H R I h
 refine thn (hl pins s σ H _ I h) fun v s1 zr1 => ?_
 obtain ⟨x, H1, I1, r1, q1⟩ := zr1
 obtain ⟨a, e, ⟨xs, hq⟩, q⟩ := q1
 subst e
 cases r1
 obtain ⟨its, rv, p, hz⟩ := I1.list hq
 refine wpAny_pyIter_list p.isList ?_
 refine ⟨s1.heap.objs.size, [s1.heap.objs.size], _, _, H1, rfl, I1.kept (t' := s1.toks) fun b o e => Heap.get?_push_of_some _ e, pT a _, ⟨_, Heap.get?_push_size _ rfl, rfl, rfl⟩, fun b hb => ?_, q⟩
 have e : b = s1.heap.objs.size := by simpa using hb
 subst e
 exact I1.fpOk (Nat.le_refl _) (I1.hok.fresh (Nat.le_refl _))
theorem qI {pins : List (Addr × Obj)} {σ : St} {H : Hp} {s : Shared} {R : It -> Hp -> Prop} {E : Value -> Shared -> Prop} {lo hi : Int} {t u v : Tok} {tk : Nat} (I : Inv X pins σ H s) (h1 : -(2 ^ 62) <= lo) (h2 : lo < 2 ^ 62) (h3 : -(2 ^ 62) <= hi) (h4 : hi < 2 ^ 62)
  (q : R (Itr lo (hi - lo).toNat) H) : wpAny (model X.prog X.w) X.A (pyIter (.ref s.heap.objs.size)) (PIE X pins σ tg R) E { s with heap := s.heap.push { cls := .type "range", data := .fields #[.int lo t, .int hi u, .int 1 v] }, toks := tk } := by
 refine wpAny_pyIter_range (IsRange.new ..) (small_one h1 h2 h3 h4) ?_
 have I1 : Inv X pins σ H { s with heap := s.heap.push { cls := .type "range", data := .fields #[.int lo t, .int hi u, .int 1 v] }, toks := tk } := I.kept fun b o e => Heap.get?_push_of_some _ e
 refine ⟨(s.heap.push { cls := .type "range", data := .fields #[.int lo t, .int hi u, .int 1 v] }).objs.size, [(s.heap.push { cls := .type "range", data := .fields #[.int lo t, .int hi u, .int 1 v] }).objs.size], _, _, H, rfl,
  I1.kept (t' := tk) fun b o e => Heap.get?_push_of_some _ e, m5 _ lo (hi - lo).toNat, ?_, fun b hb => ?_, q⟩
 ·have e1 : lo + ((0 : Nat) : Int) * 1 = lo := by simp
  have e2 : (((hi - lo).toNat : Nat) : Int) - ((0 : Nat) : Int) = Builtin.Range.rangeSize lo hi 1 := by rw [rangeSize_one]; split <;> omega
  show IsRangeIter _ _ (lo + ((0 : Nat) : Int) * 1) ((((hi - lo).toNat : Nat) : Int) - ((0 : Nat) : Int)) 1
  rw [e1, e2]
  exact Heap.get?_push_size _ rfl
 ·have e : b = (s.heap.push { cls := .type "range", data := .fields #[.int lo t, .int hi u, .int 1 v] }).objs.size := by simpa using hb
  subst e
  exact I1.fpOk (Nat.le_refl _) (I1.hok.fresh (Nat.le_refl _))
def xm (ta : TA) : TI := fun σ H R => ta σ H fun vs H1 => ∃ j : Int, vs = [.int j] /\ -(2 ^ 62) <= j /\ j < 2 ^ 62 /\ R (Itr 0 j.toNat) H1
theorem pU {a : Expr} {ta : TA} {p pos : Pos} (hg : Gl X "range") (hm : X.mg "range" = none) (ha : PA X [a] ta) (hs : starEach [a] X.env = [(false, eval a X.env)] := by rfl) : PI X tg (.Call (.Name "range" p) [a] [] pos) (xm ta) := by
 intro pins s σ H R I h
 refine Call_ (fu I hg hm boot_range (PyProof.Rows.callWith_type1 (thn (ha pos pins s σ H _ I h) fun us s1 zr1 => ?_) hs rfl))
 obtain ⟨vs, H1, I1, r1, q1⟩ := zr1
 obtain ⟨j, e, q1, q2, q⟩ := q1
 subst e
 cases r1 with
 | cons r rr =>
  cases rr
  obtain ⟨t, rfl⟩ := r
  exact call_range_1 (qI I1 (by omega) (by omega) q1 q2 (by simpa using q))
def yM (wi : TI) (g : TG) (tb : TS) : TS := fun D σ H => wi σ H fun J H1 => ∃ W : Nat -> Nat -> St -> Hp -> Prop, (∃ m, W 0 m σ H1) /\ ∀ i m σ H, W i m σ H ->
 (J.stop i H /\ D.nx σ H) \/ (J.go i H /\ ∃ N : St -> Hp -> Prop, (∀ σ' H', N σ' H' -> ∃ m', m' < m /\ W (i + 1) m' σ' H') /\ ∀ x H', J.yld i H x H' -> g x σ H' fun σ2 H2 => tb { D with nx := N, ct := N, bk := D.nx } σ2 H2)
def cK (fp : List Addr) (h : Heap) : List (Addr × Obj) := fp.filterMap fun b => (h.get? b).map fun o => (b, o)
theorem bh {fp : List Addr} {h : Heap} {b : Addr} {o : Obj} (hb : b ∈ fp) (e : h.get? b = some o) : (b, o) ∈ cK fp h := List.mem_filterMap.mpr ⟨b, hb, by rw [e]; rfl⟩
theorem gC {fp : List Addr} {h : Heap} {p : Addr × Obj} (hp : p ∈ cK fp h) : p.1 ∈ fp /\ h.get? p.1 = some p.2 := by
 obtain ⟨b, hb, e⟩ := List.mem_filterMap.mp hp
 cases q : h.get? b with
 | none => rw [q] at e; cases e
 | some o =>
  rw [q] at e
  have e' : (b, o) = p := Option.some.inj e
  subst e'
  exact ⟨hb, q⟩
theorem Inv.pinned {pins : List (Addr × Obj)} {σ : St} {H : Hp} {s : Shared} {fp : List Addr} (I : Inv X pins σ H s) (hf : ∀ b ∈ fp, eE X pins H b) (ho : ∀ b ∈ fp, ∃ o, s.heap.get? b = some o /\ ∀ v, o.data ≠ .cell v) : Inv X (pins ++ cK fp s.heap) σ H s :=
 I.pins_of fun p hp => (List.mem_append.mp hp).elim (fun z => I.pin p (List.mem_append_right _ z)) fun z => by
  obtain ⟨hb, e⟩ := gC z
  obtain ⟨f0, f1, f2, _⟩ := hf p.1 hb
  obtain ⟨o, e', d⟩ := ho p.1 hb
  rw [e] at e'; cases e'
  exact ⟨e, f0, f1, f2, d⟩
theorem Inv.unpinned {pins pl : List (Addr × Obj)} {σ : St} {H : Hp} {s : Shared} (I : Inv X (pins ++ pl) σ H s) : Inv X pins σ H s := I.pins_of fun p hp => I.pin p (List.mem_append_right _ (List.mem_append_left _ hp))
theorem qJ {iter : Expr} {body : List Stmt} {wi : TI} {g : TG} {tb : TS} {pos : Pos} (hp : PassesOwn (model X.prog X.w) X.A X.env X.xe) (hc : X.calm = true) (hi : PI X tg iter wi) (hg : PG X tg g) (hb : PSs X body tb)
  (hs : ∀ x, foldedSetIterable iter X.env x = pure x := by intro _; rfl) : PS X (.For tg iter body [] pos) (yM wi g tb) := by
 intro pins s σ H D I h
 refine wpAny_For (thn (hi pins s σ H _ I h) fun v s1 h1 => thn h1 fun itv s2 h2 => ?_) hs
 obtain ⟨it, fp, tn, J, H2, e, I2, T, st2, f2, W, ⟨m0, w0⟩, turn⟩ := h2
 subst e
 -- what stays true of the iterator's objects through the loop
 have stat : ∀ {H' : Hp}, (∀ b ∈ fp, H' b = none) -> ∀ b ∈ fp, eE X pins H' b := fun hn b hb => ⟨hn b hb, (f2 b hb).2⟩
 refine codeAny_forLoop_any (fun n s' => ∃ i σ' H', Inv X pins σ' H' s' /\ tn i s'.heap /\ (∀ b ∈ fp, H' b = none) /\ W i n σ' H') ?_ m0 ⟨0, σ, H2, I2, st2, fun b hb => (f2 b hb).1, w0⟩
 rintro n s3 ⟨i, σ3, H3, I3, st3, fr3, w3⟩
 rcases turn i n σ3 H3 w3 with ⟨stop, qn⟩ | ⟨go, N, hN, step⟩
 ·refine wpAny_passesOwn hp (thn (T.done X rfl rfl rfl hc i pins s3 σ3 H3 X.xe I3 (stat fr3) st3 stop) fun r s4 zr1 => ?_)
  obtain ⟨hr, I4⟩ := zr1
  subst hr
  exact wpAny_execs_nil ⟨σ3, H3, I4, qn⟩
 ·refine wpAny_passesOwn hp (thn (T.item X rfl rfl rfl hc i pins s3 σ3 H3 X.xe I3 (stat fr3) st3 go) fun r s4 zr1 => ?_)
  obtain ⟨u, hr, h4⟩ := zr1
  subst hr
  refine wpAny_passesOwn hp (thn h4 fun _ s5 zr1 => ?_)
  obtain ⟨x, H5, I5, r5, y5, st5, fr5⟩ := zr1
  have I5' := I5.pinned (stat fr5) (T.obj _ _ st5)
  refine wpAny_passesOwn hp (thn (hg _ s5 σ3 H5 x u _ I5' r5 (step x H5 y5)) fun _ s6 zr1 => ?_)
  obtain ⟨σ6, H6, I6, q6⟩ := zr1
  refine wpAny_passesOwn hp (thn (hb _ s6 σ6 H6 _ I6 q6) fun f s7 q7 => ?_)
  have again : ∀ {σ7 : St} {H7 : Hp}, Inv X (pins ++ cK fp s5.heap) σ7 H7 s7 -> N σ7 H7 -> ∃ m, m < n /\ ∃ i σ' H', Inv X pins σ' H' s7 /\ tn i s7.heap /\ (∀ b ∈ fp, H' b = none) /\ W i m σ' H' := fun {σ7 H7} I7 n7 => by
   obtain ⟨m', hm, w7⟩ := hN σ7 H7 n7
   refine ⟨m', hm, i + 1, σ7, H7, I7.unpinned, T.keep _ _ _ st5 fun b hb o e => (I7.pin (b, o) (List.mem_append_right _ (List.mem_append_right _ (bh hb e)))).1, fun b hb => ?_, w7⟩
   obtain ⟨o, e, d⟩ := T.obj _ _ st5 b hb
   exact (I7.pin (b, o) (List.mem_append_right _ (List.mem_append_right _ (bh hb e)))).2.1
  cases f with
  | next => obtain ⟨σ7, H7, I7, n7⟩ := q7; exact again I7 n7
  | cont => obtain ⟨σ7, H7, I7, n7⟩ := q7; exact again I7 n7
  | brk => obtain ⟨σ7, H7, I7, q7⟩ := q7; exact ⟨σ7, H7, I7.unpinned, q7⟩
  | ret v => obtain ⟨x7, σ7, H7, I7, r7, q7⟩ := q7; exact ⟨x7, σ7, H7, I7.unpinned, r7, q7⟩
end
end L2
namespace L2
open PySem PySem.Spec PyProof.Rows
abbrev R2 := V -> V -> Hp -> VK -> Prop
def OpR (X : Cx) (f : Value -> Value -> Sem Value) (r : R2) : Prop :=
 ∀ (pins : List (Addr × Obj)) (s : Shared) (σ : St) (H : Hp) (x y : V) (v u : Value) (Q : VK), Inv X pins σ H s -> RelV x v -> RelV y u -> r x y H Q ->
  wpAny (model X.prog X.w) X.A (f v u) (EP X pins σ Q) X.xe s
def cE (X : Cx) (f : Value) (r : List V -> Hp -> VK -> Prop) : Prop :=
 ∀ (pins : List (Addr × Obj)) (s : Shared) (σ : St) (H : Hp) (xs : List V) (us : List Value) (Q : VK), Inv X pins σ H s -> Vals xs us -> r xs H Q ->
  wpAny (model X.prog X.w) X.A (call f us) (EP X pins σ Q) X.xe s
def DT (X : Cx) (r : V -> Hp -> (Bool -> Hp -> Prop) -> Prop) : Prop :=
 ∀ (pins : List (Addr × Obj)) (s : Shared) (σ : St) (H : Hp) (x : V) (v : Value) (Q : Bool -> Hp -> Prop), Inv X pins σ H s -> RelV x v -> r x H Q ->
  wpAny (model X.prog X.w) X.A (truthy v) (TP X pins σ Q) X.xe s
def tOp (r : R2) (ta tb : TE) : TE := fun σ H Q => ta σ H fun x H1 => tb σ H1 fun y H2 => r x y H2 Q
def rI (C : Int -> Int -> Prop) (g : Int -> Int -> V) : R2 := fun x y H Q => ∃ i j, x = .int i /\ y = .int j /\ C i j /\ Q (g i j) H
def rI0 (g : Int -> Int -> V) : R2 := fun x y H Q => ∃ i j, x = .int i /\ y = .int j /\ Q (g i j) H
section
variable {X : Cx} {a b c : Expr} {ta tb tc : TE} {pos : Pos}
theorem yN (ha : PE X a ta) (hb : PE X b tb) {pins : List (Addr × Obj)} {s : Shared} {σ : St} {H : Hp} {R : V -> V -> Hp -> Prop} (I : Inv X pins σ H s)
  (h : ta σ H fun x H1 => tb σ H1 fun y H2 => R x y H2) {Q : Value -> Shared -> Prop} {f : Value -> Value -> Sem Value}
  (hf : ∀ v u s2 x y H2, Inv X pins σ H2 s2 -> RelV x v -> RelV y u -> R x y H2 -> wpAny (model X.prog X.w) X.A (f v u) Q X.xe s2) :
  wpAny (model X.prog X.w) X.A (eval a X.env) (fun v s₁ => wpAny (model X.prog X.w) X.A (eval b X.env) (fun u s₂ => wpAny (model X.prog X.w) X.A (f v u) Q X.xe s₂) X.xe s₁) X.xe s := by
 refine thn (ha pins s σ H _ I h) fun v s1 zr1 => ?_
 obtain ⟨x, H1, I1, r1, q1⟩ := zr1
 refine thn (hb pins s1 σ H1 _ I1 q1) fun u s2 zr1 => ?_
 obtain ⟨y, H2, I2, r2, q2⟩ := zr1
 exact hf v u s2 x y H2 I2 r1 r2 q2
theorem oe {op : Operator} {r : R2} (ho : OpR X (binaryOp op) r) (ha : PE X a ta) (hb : PE X b tb) : PE X (.BinOp a op b pos) (tOp r ta tb) := by
 intro pins s σ H Q I h
 exact wpAny_BinOp (yN ha hb I h fun v u s2 x y H2 I2 rx ry q => ho pins s2 σ H2 x y v u Q I2 rx ry q)
theorem opI {f : Value -> Value -> Sem Value} {C : Int -> Int -> Prop} {g : Int -> Int -> Int}
  (rule : ∀ (i j : Int) (t u : Tok) (s : Shared) (Q : Value -> Shared -> Prop) (E : Value -> Shared -> Prop), C i j -> Q (.int (g i j) s.toks) { s with toks := s.toks + 1 } -> wpAny (model X.prog X.w) X.A (f (.int i t) (.int j u)) Q E s) :
  OpR X f (rI C fun i j => .int (g i j)) := by
 intro pins s σ H x y v u Q I rx ry h
 obtain ⟨i, j, rfl, rfl, hc, q⟩ := h
 obtain ⟨t, rfl⟩ := rx
 obtain ⟨t', rfl⟩ := ry
 exact rule i j t t' s _ _ hc ⟨.int (g i j), H, I.tok _, ⟨_, rfl⟩, q⟩
theorem Bp {f : Value -> Value -> Sem Value} {g : Int -> Int -> Int}
  (rule : ∀ (i j : Int) (t u : Tok) (s : Shared) (Q : Value -> Shared -> Prop) (E : Value -> Shared -> Prop), Q (.int (g i j) s.toks) { s with toks := s.toks + 1 } -> wpAny (model X.prog X.w) X.A (f (.int i t) (.int j u)) Q E s) :
  OpR X f (rI0 fun i j => .int (g i j)) := by
 intro pins s σ H x y v u Q I rx ry h
 obtain ⟨i, j, rfl, rfl, q⟩ := h
 obtain ⟨t, rfl⟩ := rx
 obtain ⟨t', rfl⟩ := ry
 exact rule i j t t' s _ _ ⟨.int (g i j), H, I.tok _, ⟨_, rfl⟩, q⟩
theorem uu {f : Value -> Value -> Sem Value} {g : Int -> Int -> Bool}
  (rule : ∀ (i j : Int) (t u : Tok) (s : Shared) (Q : Value -> Shared -> Prop) (E : Value -> Shared -> Prop), Q (.bool (g i j)) s -> wpAny (model X.prog X.w) X.A (f (.int i t) (.int j u)) Q E s) :
  OpR X f (rI0 fun i j => .bl (g i j)) := by
 intro pins s σ H x y v u Q I rx ry h
 obtain ⟨i, j, rfl, rfl, q⟩ := h
 obtain ⟨t, rfl⟩ := rx
 obtain ⟨t', rfl⟩ := ry
 exact rule i j t t' s _ _ ⟨.bl (g i j), H, I, rfl, q⟩
def DU (i j : Int) : Prop := 0 < j /\ j < 1073741824
def DV (i j : Int) : Prop := 0 <= j /\ j <= 1000000 /\ i.natAbs < 2 ^ 64
def yO (i j : Int) : Prop := (-(2 ^ 64) < i /\ i < 2 ^ 64) \/ (-(2 ^ 64) < j /\ j < 2 ^ 64)
theorem yO.ok {i j : Int} (h : yO i j) : IntMulOk i j := by
 rcases h with ⟨h1, h2⟩ | ⟨h1, h2⟩
 ·exact .of_left (intBits_le_64 h1 h2)
 ·exact .of_right (intBits_le_64 h1 h2)
theorem bj : OpR X (binaryOp .Add) (rI0 fun i j => .int (i + j)) := Bp fun _ _ _ _ _ _ _ q => add_int q
theorem bZ : OpR X (binaryOp .Sub) (rI0 fun i j => .int (i - j)) := Bp fun _ _ _ _ _ _ _ q => sub_int q
theorem eF : OpR X (binaryOp .Mult) (rI yO fun i j => .int (i * j)) := opI fun _ _ _ _ _ _ _ hc q => mul_int q hc.ok
theorem og : OpR X (binaryOp .FloorDiv) (rI DU fun i j => .int (i / j)) := opI fun i j _ _ _ _ _ hc q => by
 have h1 : (0 : Int) < j := hc.1
 have h2 : j < 1073741824 := hc.2
 exact floordiv_int (by omega) (by rw [Int.fdiv_eq_ediv_of_nonneg i (by omega)]; exact q) (.inl (PyProof.noPylong_small (by omega)))
theorem cU : OpR X (binaryOp .Mod) (rI (fun _ j => 0 < j) fun i j => .int (i % j)) := opI fun i j _ _ _ _ _ hc q => by
 have h1 : (0 : Int) < j := hc
 exact mod_int' (by omega) (by rw [Int.fmod_eq_emod_of_nonneg i (by omega)]; exact q)
theorem fv : OpR X (binaryOp .Pow) (rI DV fun i j => .int (i ^ j.toNat)) := opI fun _ _ _ _ _ _ _ hc q => pow_int_small hc.1 hc.2.1 hc.2.2 q
end
def uv : V -> V -> Bool
 | .non, .non => true | .non, .int _ => true | .int _, .non => true | .non, .bl _ => true | .bl _, .non => true | .non, .str _ => true | .str _, .non => true
 | .int _, .int _ => true | .bl _, .bl _ => true | .str _, .str _ => true | .byt _, .byt _ => true
 | .int _, .str _ => true | .str _, .int _ => true | .bl _, .str _ => true | .str _, .bl _ => true
 | _, _ => false
def rEq : R2 := fun x y H Q => uv x y = true /\ Q (.bl (decide (x = y))) H
def rNe : R2 := fun x y H Q => uv x y = true /\ Q (.bl (!decide (x = y))) H
theorem oh {i j : Int} : decide (V.int i = V.int j) = (i == j) := by
 rw [Bool.eq_iff_iff]
 simp
theorem qK {i j : Bool} : decide (V.bl i = V.bl j) = (i == j) := by
 rw [Bool.eq_iff_iff]
 simp
theorem oi {i j : Str} : decide (V.str i = V.str j) = (i == j) := by
 rw [Bool.eq_iff_iff]
 simp
theorem om {i j : Array UInt8} : decide (V.byt i = V.byt j) = (i.toList == j.toList) := by
 rw [Bool.eq_iff_iff]
 cases i
 cases j
 simp
section
variable {X : Cx} {a b c : Expr} {ta tb tc : TE} {pos : Pos}
theorem aR {pins : List (Addr × Obj)} {σ : St} {H : Hp} {s : Shared} {Q : VK} {k k' : Bool} (I : Inv X pins σ H s) (q : Q (.bl k) H) (e : k = k') : EP X pins σ Q (.bool k') s := by
 subst e
 exact ⟨.bl k, H, I, rfl, q⟩
theorem dq : OpR X (compareOp .Eq) rEq := by
 intro pins s σ H x y v u Q I rx ry h
 obtain ⟨hs, q⟩ := h
 cases x with
 | non =>
  cases rx
  cases y with
  | non => cases ry; exact PySem.EqNone.eq_none_none (aR I q (by simp))
  | bl j => cases ry; exact PySem.EqNone.eq_none_bool (aR I q (by simp))
  | int j => obtain ⟨t', rfl⟩ := ry; exact PySem.EqNone.eq_none_int (aR I q (by simp))
  | str j => obtain ⟨t', rfl⟩ := ry; exact PySem.EqNone.eq_none_str (aR I q (by simp))
  | _ => exact absurd (show false = true from hs) Bool.false_ne_true
 | bl i =>
  cases rx
  cases y with
  | non => cases ry; exact PySem.EqNone.eq_bool_none (aR I q (by simp))
  | bl j => cases ry; exact eq_bool (aR I q qK)
  | str j => obtain ⟨t', rfl⟩ := ry; exact PySem.EqMixed.eq_bool_str (aR I q (by simp))
  | _ => exact absurd (show false = true from hs) Bool.false_ne_true
 | int i =>
  obtain ⟨t, rfl⟩ := rx
  cases y with
  | non => cases ry; exact PySem.EqNone.eq_int_none (aR I q (by simp))
  | int j => obtain ⟨t', rfl⟩ := ry; exact eq_int (aR I q oh)
  | str j => obtain ⟨t', rfl⟩ := ry; exact PySem.EqMixed.eq_int_str (aR I q (by simp))
  | _ => exact absurd (show false = true from hs) Bool.false_ne_true
 | str i =>
  obtain ⟨t, rfl⟩ := rx
  cases y with
  | non => cases ry; exact PySem.EqNone.eq_str_none (aR I q (by simp))
  | bl j => cases ry; exact PySem.EqMixed.eq_str_bool (aR I q (by simp))
  | int j => obtain ⟨t', rfl⟩ := ry; exact PySem.EqMixed.eq_str_int (aR I q (by simp))
  | str j => obtain ⟨t', rfl⟩ := ry; exact eq_str (aR I q oi)
  | _ => exact absurd (show false = true from hs) Bool.false_ne_true
 | byt i =>
  obtain ⟨t, rfl⟩ := rx
  cases y with
  | byt j => obtain ⟨t', rfl⟩ := ry; exact PySem.W.eq_bytes (aR I q om)
  | _ => exact absurd (show false = true from hs) Bool.false_ne_true
 | _ => cases y <;> exact absurd (show false = true from hs) Bool.false_ne_true
theorem gY : OpR X (compareOp .NotEq) rNe := by
 intro pins s σ H x y v u Q I rx ry h
 obtain ⟨hs, q⟩ := h
 cases x with
 | non =>
  cases rx
  cases y with
  | non => cases ry; exact PySem.EqNone.ne_none_none (aR I q (by simp))
  | bl j => cases ry; exact PySem.EqNone.ne_none_bool (aR I q (by simp))
  | int j => obtain ⟨t', rfl⟩ := ry; exact PySem.EqNone.ne_none_int (aR I q (by simp))
  | str j => obtain ⟨t', rfl⟩ := ry; exact PySem.EqNone.ne_none_str (aR I q (by simp))
  | _ => exact absurd (show false = true from hs) Bool.false_ne_true
 | bl i =>
  cases rx
  cases y with
  | non => cases ry; exact PySem.EqNone.ne_bool_none (aR I q (by simp))
  | bl j => cases ry; exact ne_bool (aR I q (congrArg not qK))
  | str j => obtain ⟨t', rfl⟩ := ry; exact PySem.EqMixed.ne_bool_str (aR I q (by simp))
  | _ => exact absurd (show false = true from hs) Bool.false_ne_true
 | int i =>
  obtain ⟨t, rfl⟩ := rx
  cases y with
  | non => cases ry; exact PySem.EqNone.ne_int_none (aR I q (by simp))
  | int j => obtain ⟨t', rfl⟩ := ry; exact ne_int (aR I q (congrArg not oh))
  | str j => obtain ⟨t', rfl⟩ := ry; exact PySem.EqMixed.ne_int_str (aR I q (by simp))
  | _ => exact absurd (show false = true from hs) Bool.false_ne_true
 | str i =>
  obtain ⟨t, rfl⟩ := rx
  cases y with
  | non => cases ry; exact PySem.EqNone.ne_str_none (aR I q (by simp))
  | bl j => cases ry; exact PySem.EqMixed.ne_str_bool (aR I q (by simp))
  | int j => obtain ⟨t', rfl⟩ := ry; exact PySem.EqMixed.ne_str_int (aR I q (by simp))
  | str j => obtain ⟨t', rfl⟩ := ry; exact ne_str (aR I q (congrArg not oi))
  | _ => exact absurd (show false = true from hs) Bool.false_ne_true
 | byt i =>
  obtain ⟨t, rfl⟩ := rx
  cases y with
  | byt j => obtain ⟨t', rfl⟩ := ry; exact PySem.W.ne_bytes (aR I q (congrArg not om))
  | _ => exact absurd (show false = true from hs) Bool.false_ne_true
 | _ => cases y <;> exact absurd (show false = true from hs) Bool.false_ne_true
theorem oo : OpR X (compareOp .Lt) (rI0 fun i j => .bl (decide (i < j))) := uu fun _ _ _ _ _ _ _ q => lt_int q
theorem oq : OpR X (compareOp .LtE) (rI0 fun i j => .bl (decide (i <= j))) := uu fun _ _ _ _ _ _ _ q => le_int q
theorem fh : OpR X (compareOp .Gt) (rI0 fun i j => .bl (decide (j < i))) := uu fun _ _ _ _ _ _ _ q => gt_int q
theorem xo : OpR X (compareOp .GtE) (rI0 fun i j => .bl (decide (j <= i))) := uu fun _ _ _ _ _ _ _ q => ge_int q
theorem gE : OpR X (compareOp .In) (fun x y H Q => ∃ i j, x = .str i /\ y = .str j /\ Q (.bl (!(Builtin.Str.occurrences j i 0 j.length 1).isEmpty)) H) := by
 intro pins s σ H x y v u Q I rx ry h
 obtain ⟨i, j, rfl, rfl, q⟩ := h
 obtain ⟨t, rfl⟩ := rx
 obtain ⟨t', rfl⟩ := ry
 exact in_str (aR I q rfl)
theorem yP : OpR X (compareOp .Is) (fun x y H Q => y = .non /\ Q (.bl (decide (x = .non))) H) := by
 intro pins s σ H x y v u Q I rx ry h
 obtain ⟨rfl, q⟩ := h
 cases ry
 refine is_none_gen (aR I q ?_)
 cases x <;> first
  | (cases rx; rfl)
  | (obtain ⟨t, rfl⟩ := rx; rfl)
theorem uw : OpR X (compareOp .IsNot) (fun x y H Q => y = .non /\ Q (.bl (!decide (x = .non))) H) := by
 intro pins s σ H x y v u Q I rx ry h
 obtain ⟨rfl, q⟩ := h
 cases ry
 refine isnot_none_gen (aR I q ?_)
 cases x <;> first
  | (cases rx; rfl)
  | (obtain ⟨t, rfl⟩ := rx; rfl)
theorem aH (b : Expr) {op : CmpOp} (h : op ≠ .In := by decide) (h2 : op ≠ .NotIn := by decide) : behindInMarks op b = false := by
 have e1 : (op == CmpOp.In) = false := by cases op <;> first | rfl | exact absurd rfl h
 have e2 : (op == CmpOp.NotIn) = false := by cases op <;> first | rfl | exact absurd rfl h2
 cases b <;> simp [behindInMarks, e1, e2]
theorem ux {op : CmpOp} {r : R2} (ho : OpR X (compareOp op) r) (ha : PE X a ta) (hb : PE X b tb) (hm : behindInMarks op b = false) : PE X (.Compare a [op] [b] pos) (tOp r ta tb) := by
 intro pins s σ H Q I h
 exact wpAny_Compare1 (yN ha hb I h fun v u s2 x y H2 I2 rx ry q => ho pins s2 σ H2 x y v u Q I2 rx ry q) hm
def lI (t : TE) : TT := fun σ H Q => t σ H fun x H' => ∃ k, x = .bl k /\ Q k H'
theorem uy {op : CmpOp} {r : R2} (ho : OpR X (compareOp op) r) (ha : PE X a ta) (hb : PE X b tb) (hm : behindInMarks op b = false) : PT X (.Compare a [op] [b] pos) (lI (tOp r ta tb)) := by
 intro pins s σ H Q I h
 refine wpAny_isTrue_Compare1 (thn (ha pins s σ H _ I h) fun v s1 ⟨x, H1, I1, r1, q1⟩ => thn (hb pins s1 σ H1 _ I1 q1) fun u s2 ⟨y, H2, I2, r2, q2⟩ =>
  thn (ho pins s2 σ H2 x y v u _ I2 r1 r2 q2) fun c s3 ⟨z, H3, I3, r3, k, e, q3⟩ => ?_) hm
 subst e
 cases r3
 exact wpAny_truthy_bool ⟨H3, I3, q3⟩
def m6 (r r' : R2) (ta tb tc : TE) : TE := fun σ H Q => ta σ H fun x H1 => tb σ H1 fun y H2 => r x y H2 fun z H3 => ∃ k, z = .bl k /\
 (if k = true then tc σ H3 fun w' H4 => r' y w' H4 Q else Q (.bl false) H3)
theorem qL {op op' : CmpOp} {r r' : R2} (ho : OpR X (compareOp op) r) (ho' : OpR X (compareOp op') r') (ha : PE X a ta) (hb : PE X b tb) (hc : PE X c tc)
  (hm : lastMarks [op, op'] [b, c] = false := by with_unfolding_all rfl) : PT X (.Compare a [op, op'] [b, c] pos) (lI (m6 r r' ta tb tc)) := by
 intro pins s σ H Q I h
 refine isTrue_chain (thn (ha pins s σ H _ I h) fun v s1 ⟨x, H1, I1, r1, q1⟩ => test_link (thn (hb pins s1 σ H1 _ I1 q1) fun u s2 ⟨y, H2, I2, r2, q2⟩ =>
  thn (ho pins s2 σ H2 x y v u _ I2 r1 r2 q2) fun d s3 ⟨z, H3, I3, r3, k, e, q3⟩ => ?_)) hm
 subst e
 cases r3
 refine wpAny_truthy_bool ?_
 cases k with
 | false =>
  obtain ⟨k', e', q'⟩ := q3
  cases e'
  exact ite_ff ⟨H3, I3, q'⟩
 | true =>
  refine ite_tt (test_last (thn (hc pins s3 σ H3 _ I3 q3) fun w' s4 ⟨z', H4, I4, r4, q4⟩ => thn (ho' pins s4 σ H4 y z' u w' _ I4 r2 r4 q4) fun d' s5 zr1 => ?_))
  obtain ⟨z2, H5, I5, r5, k2, e2, q5⟩ := zr1
  subst e2
  cases r5
  exact wpAny_truthy_bool ⟨H5, I5, q5⟩
def TruV (K : PySem.W.Frag) (x : V) (H : Hp) (k : Bool) : Prop :=
 match x with
 | .non => k = false
 | .bl b => k = b
 | .int i => k = (i != 0)
 | .str y => y.length <= sizeLine /\ k = ((y.length : Int) != 0)
 | .byt y => y.size <= sizeLine /\ k = ((y.size : Int) != 0)
 | .ref p => (∃ xs, SqL K H p xs /\ k = !xs.isEmpty) \/ (∃ xs, SqT K H p xs /\ k = !xs.isEmpty) \/ ∃ kvs, H p = some (.dK kvs) /\ k = !kvs.isEmpty
 | _ => False
theorem m7 {κ : Type} {kvs : List (κ × V)} {vs : List (κ × Value)} (r : KV kvs vs) : (!vs.isEmpty) = !kvs.isEmpty := by
 cases r <;> rfl
theorem iH {xs : List V} {its : List Value} (r : Vals xs its) : (!its.toArray.isEmpty) = !xs.isEmpty := by
 cases r <;> simp
theorem fw : (sizeLine : Nat) < 2 ^ 63 := by rw [sizeLine_eq]; decide
theorem yQ : DT X (fun x H Q => ∃ k, TruV X.K x H k /\ Q k H) := by
 intro pins s σ H x v Q I rx h
 obtain ⟨k, e, q⟩ := h
 have hl := fw
 have hs : sizeLine = 16777216 := sizeLine_eq
 cases x with
 | non =>
  cases rx
  have e' : k = false := e
  subst e'
  exact truthy_none ⟨H, I, q⟩
 | bl b =>
  cases rx
  have e' : k = b := e
  subst e'
  exact wpAny_truthy_bool ⟨H, I, q⟩
 | int i =>
  obtain ⟨t, rfl⟩ := rx
  have e' : k = (i != 0) := e
  subst e'
  exact PySem.P.truthy_int ⟨H, I, q⟩
 | str y =>
  obtain ⟨t, rfl⟩ := rx
  obtain ⟨hy, e'⟩ : y.length <= sizeLine /\ k = ((y.length : Int) != 0) := e
  subst e'
  exact PySem.P.truthy_str (by omega) ⟨H, I.tok _, q⟩
 | byt y =>
  obtain ⟨t, rfl⟩ := rx
  obtain ⟨hy, e'⟩ : y.size <= sizeLine /\ k = ((y.size : Int) != 0) := e
  subst e'
  exact PySem.W.truthy_bytes (by omega) ⟨H, I.tok _, q⟩
 | ref p =>
  cases rx
  have e' : (∃ xs, SqL X.K H p xs /\ k = !xs.isEmpty) \/ (∃ xs, SqT X.K H p xs /\ k = !xs.isEmpty) \/ ∃ kvs, H p = some (.dK kvs) /\ k = !kvs.isEmpty := e
  rcases e' with ⟨xs, hx, e'⟩ | ⟨xs, hx, e'⟩ | ⟨kvs, hx, e'⟩
  ·subst e'
   obtain ⟨its, r, pl, hz⟩ := I.list hx
   have hlen := r.length
   exact wpAny_truthy_list pl.isList (by simp only [List.size_toArray]; omega) ⟨H, I.tok _, by rw [iH r]; exact q⟩
  ·subst e'
   obtain ⟨its, r, pl, hz⟩ := I.tuple hx
   have hlen := r.length
   exact truthy_tuple pl (by simp only [List.size_toArray]; omega) ⟨H, I.tok _, by rw [iH r]; exact q⟩
  ·subst e'
   obtain ⟨hz, hS, vs, r, m⟩ : kvs.length <= sizeLine /\ (p == sysModules) = false /\ ∃ vs, KV kvs vs /\ s.heap.DictOf (j9 X.prog X.w) p vs := I.hok p _ hx
   have hlen : kvs.length = vs.length := Paired.length r
   exact wpAny_truthy_dict hS m (by omega) ⟨H, I.tok _, by rw [m7 r]; exact q⟩
 | _ => exact (show False from e).elim
theorem qM (ha : PE X a ta) (he : ∀ whole, isTrue a X.env whole = (do let v <- whole; standAt a.pos; holding [v] (truthy v))) :
  PT X a (fun σ H Q => ta σ H fun x H' => ∃ k, TruV X.K x H' k /\ Q k H') := by
 intro pins s σ H Q I h
 exact isTrue_plain (thn (ha pins s σ H _ I h) fun v s1 zt1 => by obtain ⟨x, H1, I1, r1, q1⟩ := zt1; exact yQ pins s1 σ H1 x v Q I1 r1 q1) (he _)
theorem aA : OpR X (binaryOp .Add) (fun x y H Q => ∃ i j, x = .str i /\ y = .str j /\ i.length + j.length <= sizeLine /\ Q (.str (i ++ j)) H) := by
 intro pins s σ H x y v u Q I rx ry h
 obtain ⟨i, j, rfl, rfl, hz, q⟩ := h
 obtain ⟨t, rfl⟩ := rx
 obtain ⟨t', rfl⟩ := ry
 exact add_str (fun t' tk => ⟨.str (i ++ j), H, I.tok _, ⟨_, rfl⟩, q⟩) hz
theorem vals1 {x : V} {us : List Value} (r : Vals [x] us) : ∃ u, us = [u] /\ RelV x u := by
 cases r with
 | cons r1 r2 => cases r2; exact ⟨_, rfl, r1⟩
theorem vals2 {x y : V} {us : List Value} (r : Vals [x, y] us) : ∃ u w', us = [u, w'] /\ RelV x u /\ RelV y w' := by
 cases r with
 | cons r1 r2 =>
  cases r2 with
  | cons r3 r4 => cases r4; exact ⟨_, _, rfl, r1, r3⟩
theorem fH : cE X (.builtin "abs") (fun xs H Q => ∃ i, xs = [.int i] /\ Q (.int (if i < 0 then -i else i)) H) := by
 intro pins s σ H xs us Q I r h
 obtain ⟨i, rfl, q⟩ := h
 obtain ⟨u, rfl, t, rfl⟩ := vals1 r
 exact call_abs_int fun u tk => ⟨.int (if i < 0 then -i else i), H, I.tok _, ⟨_, rfl⟩, q⟩
theorem cQ : cE X (.type "str") (fun xs H Q => ∃ i, xs = [.int i] /\ i.natAbs.log2 < 1920 /\ Q (.str (toString i)) H) := by
 intro pins s σ H xs us Q I r h
 obtain ⟨i, rfl, hz, q⟩ := h
 obtain ⟨u, rfl, t, rfl⟩ := vals1 r
 exact PySem.P.str_of_int hz ⟨.str _, H, I.tok _, ⟨_, rfl⟩, q⟩
end
end L2
namespace L2
open PySem PySem.Spec PyProof.Rows
structure ObjM (h : Heap) (x dx C : Addr) (mA : Str -> Option Value) : Prop where
 obj : h.get? x = some (PySem.W.instObj C dx)
 ns : h.Ns1 dx mA
 ne : dx ≠ x
theorem pV {h : Heap} {dx : Addr} {mA : Str -> Option Value} (n : h.Ns1 dx mA) : ∃ od, h.get? dx = some od /\ ∀ name, PySem.W.lookIn name od = some (mA name) := by
 obtain ⟨o, es, ep, ho, hd, hk, _, hm⟩ := n
 refine ⟨o, ho, fun name => ?_⟩
 have e := hm name
 unfold nsFind findBy at e
 rw [<- Array.find?_toList] at e
 unfold PySem.W.lookIn
 rw [hd]
 dsimp only
 split
 ·rename_i y q
  rw [q] at e
  exact congrArg some e
 ·rename_i q
  rw [q] at e
  have a : es.toList.any (·.refKey) = false := by
   rw [List.any_eq_false]
   intro y hy
   obtain ⟨z, t, hkey⟩ := hk y (Array.mem_toList_iff.mp hy)
   simp [DictEntry.refKey, hkey]
  have a' : ¬ es.toList.any (·.refKey) = true := by rw [a]; exact Bool.false_ne_true
  rw [if_neg a']
  exact congrArg some e
theorem ObjM.look {h : Heap} {x dx C : Addr} {mA : Str -> Option Value} (I : ObjM h x dx C mA) : ∃ od, PySem.W.InstAt h x (PySem.W.instObj C dx) C (some od) /\ ∀ name, PySem.W.lookIn name od = some (mA name) :=
 let ⟨od, ho, hl⟩ := pV I.ns
 ⟨od, ⟨I.obj, rfl, rfl, ho⟩, hl⟩
section
variable {P : Program} {w : World} {H H' : Hp} {h h' : Heap} {a C dx : Addr} {fs fs' : List (Str × V)}
theorem uz (hok : HOk P w H h) (e : H a = some (.ins C dx fs)) : ∃ mA, ObjM h a dx C mA /\ (∀ f, RelO (fs.lookup f) (mA f)) /\ PySem.Within mA (fs.map (·.1)) /\ fs.length <= 1000 /\ H dx = some (.own a) := by
 obtain ⟨d, z, ne, ob, mA, n, r, q⟩ := (show bu P w H h a (.ins C dx fs) from hok a _ e)
 exact ⟨mA, ⟨ob, n, ne⟩, r, q, z, d⟩
end
structure Cls (K : PySem.W.Frag) (C : Addr) : Prop where
 pg : PySem.W.plainGet K C Str.empty = true
 hd : PySem.W.hasDictIn K C = true
 po : PySem.W.plainOver K C = true
 sa : PySem.W.findIn K (.ref C) "__setattr__" = some (some (.builtin "object.__setattr__"))
theorem Cls.get {K : PySem.W.Frag} {C : Addr} (c : Cls K C) (f : Str) : PySem.W.plainGet K C f = true := c.pg
section
variable {X : Cx} {pins : List (Addr × Obj)} {σ : St} {H : Hp} {s : Shared} {A : Around} {E : Value -> Shared -> Prop} {Q : Value -> Shared -> Prop} {c : Value} {b : Bool}
inductive ia (K : PySem.W.Frag) (H : Hp) : V -> Value -> Prop where
 | non : ia K H .non (.type "NoneType")
 | bl (x : Bool) : ia K H (.bl x) (.type "bool")
 | int (i : Int) : ia K H (.int i) (.type "int")
 | str (x : Str) : ia K H (.str x) (.type "str")
 | flt (x : UInt64) : ia K H (.flt x) (.type "float")
 | lst {a : Addr} {xs : List V} (e : H a = some (.lst xs)) : ia K H (.ref a) (.type "list")
 | frz {a : Addr} {o : Obj} {xs : List V} (e : H a = some (.frz o (.lst xs))) : ia K H (.ref a) (.type "list")
 | tup {a : Addr} {xs : List V} (e : H a = some (.tup xs)) : ia K H (.ref a) (.type "tuple")
 | dK {a : Addr} {kvs : List (Key × V)} (e : H a = some (.dK kvs)) : ia K H (.ref a) (.type "dict")
 | dT {a : Addr} {kvs : List (List Key × V)} (e : H a = some (.dT kvs)) : ia K H (.ref a) (.type "dict")
 | ins {a C dx : Addr} {fs : List (Str × V)} (e : H a = some (.ins C dx fs)) (cl : Cls K C) (ha : PySem.W.findIn K (.ref C) "__class__" = some (some (.builtin "object.__class__")))
   (hn : PySem.W.specialIn K (.builtin "object.__class__") "__get__" = some (some (.builtin "getset_descriptor.__get__"))) (htk : PySem.W.takesIn K (.builtin "object.__class__") = some true)
   (hm : PySem.W.mroIn K C (.type "object") = some true) : ia K H (.ref a) (.ref C)
theorem cR {x : V} {u t : Value} (I : Inv X pins σ H s) (rx : RelV x u) (ty : ia X.K H x t) (e : PySem.W.kitOne X.K t c = some b) (h : ∀ tk, Q (.bool b) { s with toks := tk }) :
  wpAny (model X.prog X.w) A (call (.builtin "isinstance") [u, c]) Q E s := by
 cases ty with
 | non => cases (show u = Value.none from rx); exact PySem.W.kia_one PySem.W.kitx_none I.kIn True.intro e (fun z => nomatch z) h
 | bl y => cases (show u = Value.bool y from rx); exact PySem.W.kia_one PySem.W.kitx_bool I.kIn True.intro e (fun z => nomatch z) h
 | int i => obtain ⟨t, q⟩ := (show ∃ t, u = Value.int i t from rx); cases q; exact PySem.W.kia_one PySem.W.kitx_int I.kIn True.intro e (fun z => nomatch z) h
 | str y => obtain ⟨t, q⟩ := (show ∃ t, u = Value.str y t from rx); cases q; exact PySem.W.kia_one PySem.W.kitx_str I.kIn True.intro e (fun z => nomatch z) h
 | flt y => obtain ⟨t, q⟩ := (show ∃ t, u = Value.float y t from rx); cases q; exact PySem.W.kia_one PySem.W.kitx_float I.kIn True.intro e (fun z => nomatch z) h
 | @lst a xs ea =>
  cases (show u = Value.ref a from rx)
  obtain ⟨_, _, n, _, h1⟩ := (show bu X.prog X.w H s.heap a (.lst xs) from I.hok a _ ea)
  exact PySem.W.kia_one PySem.W.kitx_list I.kIn ⟨_, h1, rfl⟩ e (fun z => nomatch z) h
 | @frz a ob xs ea =>
  cases (show u = Value.ref a from rx)
  obtain ⟨_, _, _, n, _, h1⟩ := (show bu X.prog X.w H s.heap a (.frz ob (.lst xs)) from I.hok a _ ea)
  exact PySem.W.kia_one PySem.W.kitx_list I.kIn ⟨_, h1, rfl⟩ e (fun z => nomatch z) h
 | @tup a xs ea =>
  cases (show u = Value.ref a from rx)
  obtain ⟨_, _, _, p⟩ := (show bu X.prog X.w H s.heap a (.tup xs) from I.hok a _ ea)
  obtain ⟨o, h1, h2, _⟩ := p
  exact PySem.W.kia_one PySem.W.kitx_tuple I.kIn ⟨o, h1, h2⟩ e (fun z => nomatch z) h
 | @dK a kvs ea =>
  cases (show u = Value.ref a from rx)
  obtain ⟨_, _, vs, _, p⟩ := (show bu X.prog X.w H s.heap a (.dK kvs) from I.hok a _ ea)
  obtain ⟨o, es, ep, h1, h2, _⟩ := p
  exact PySem.W.kia_one PySem.W.kitx_dict I.kIn ⟨o, h1, h2.1⟩ e (fun z => nomatch z) h
 | @dT a kvs ea =>
  cases (show u = Value.ref a from rx)
  obtain ⟨_, _, xs, _, o, es, ep, h1, h2, _⟩ := (show bu X.prog X.w H s.heap a (.dT kvs) from I.hok a _ ea)
  exact PySem.W.kia_one PySem.W.kitx_dict I.kIn ⟨o, h1, h2.1⟩ e (fun z => nomatch z) h
 | @ins a C dx fs ea cl ha hn htk hm =>
  cases (show u = Value.ref a from rx)
  obtain ⟨mA, O, _⟩ := uz I.hok ea
  obtain ⟨od, J, _⟩ := O.look
  exact PySem.W.kia_one (PySem.W.kitx_own (cl.get _) cl.hd ha hn htk hm) I.kIn J e (fun z => nomatch z) h
end
end L2
namespace L2
open PySem PySem.Spec PyProof.Rows
structure b7 (k : Nat) (A : Around) : Prop where
 hd : A.handled = none
 dp : A.depth + 3 * k + 5 < recursionLimit
 un : A.units + 16 * k + 200 < cLine
 gd : A.guards = some []
theorem b7.mono {j k : Nat} {A : Around} (r : b7 k A) (h : j <= k) : b7 j A := ⟨r.hd, by have := r.dp; omega, by have := r.un; omega, r.gd⟩
theorem b7.deeper {k : Nat} {A : Around} (r : b7 (k + 1) A) (env : Env) : b7 k (A.deeper env) :=
 ⟨r.hd, by have := r.dp; show A.depth + 1 + 3 * k + 5 < _; omega, by have := r.un; show A.units + 3 + 16 * k + 200 < _; omega, r.gd⟩
theorem b7.depth {k : Nat} {A : Around} (r : b7 k A) : A.depth < recursionLimit := by have := r.dp; omega
theorem b7.units {k : Nat} {A : Around} (r : b7 k A) : A.units + 64 < cLine := by have := r.un; omega
def gF : TA := fun _ H Q => Q [] H
def cF (ta : TE) (tr : TA) : TA := fun σ H Q => ta σ H fun x H1 => tr σ H1 fun xs H2 => Q (x :: xs) H2
section
variable {X : Cx} {e : Expr} {es : List Expr} {te : TE} {t : TA} {pos : Pos}
theorem dw : PA X [] gF := fun _ _ _ _ H Q I h => Calls.spliced_nil ⟨[], H, I, .nil, h⟩
theorem bK (ha : PE X e te) (hr : PA X es t) (hs : starEach (e :: es) X.env = (false, eval e X.env) :: starEach es X.env := by rfl) : PA X (e :: es) (cF te t) := by
 intro pos pins s σ H Q I h
 rw [hs]
 show wpAny _ _ (spliced ((false, eval e X.env) :: backTo pos (starEach es X.env))) _ _ s
 refine Calls.spliced_cons (thn (ha pins s σ H _ I h) fun u s1 zr1 => ?_)
 obtain ⟨x, H1, I1, r1, q1⟩ := zr1
 exact thn (hr pos pins s1 σ H1 _ I1 q1) fun us s2 zt1 => by obtain ⟨xs, H2, I2, r2, q2⟩ := zt1; exact ⟨x :: xs, H2, I2, .cons r1 r2, q2⟩
def uA (t : TA) : TE := fun σ H Q => t σ H fun xs H1 => xs.length <= sizeLine /\ ∀ p, H1 p = none -> Q (.ref p) (upd H1 p (.tup xs))
def Bq (t : TA) : TE := fun σ H Q => t σ H fun xs H1 => xs.length <= sizeLine /\ ∀ p, H1 p = none -> Q (.ref p) (upd H1 p (.lst xs))
theorem m8 {x1} (h : PA X es t) : PE X (.Tuple es x1 pos) (uA t) := by
 intro pins s σ H Q I hq
 refine wpAny_Tuple_spliced (thn (h pos pins s σ H _ I hq) fun us s1 ⟨xs, H1, I1, r, z, q⟩ => ⟨by rw [<- r.length]; exact z, ?_⟩)
 have hf : H1 s1.heap.objs.size = none := I1.hok.fresh (Nat.le_refl _)
 refine ⟨.ref s1.heap.objs.size, upd H1 s1.heap.objs.size (.tup xs), I1.laid (t' := s1.toks) (fun b u e => Heap.get?_push_of_some _ e) (Nat.le_refl _) ?_, rfl, q _ hf⟩
 exact ⟨z, us, r, ⟨_, Heap.get?_push_size _ rfl, rfl, _, rfl⟩⟩
theorem yR (h : PA X es t) : PE X (.List es pos) (Bq t) := by
 intro pins s σ H Q I hq
 refine wpAny_List_spliced (thn (h pos pins s σ H _ I hq) fun us s1 ⟨xs, H1, I1, r, z, q⟩ => ⟨by rw [<- r.length]; exact z, ?_⟩)
 have hf : H1 s1.heap.objs.size = none := I1.hok.fresh (Nat.le_refl _)
 refine ⟨.ref s1.heap.objs.size, upd H1 s1.heap.objs.size (.lst xs), I1.laid (t' := s1.toks) (fun b u e => Heap.get?_push_of_some _ e) (Nat.le_refl _) ?_, rfl, q _ hf⟩
 exact ⟨z, us, 0, r, Heap.get?_push_size _ rfl⟩
end
abbrev Sp := List V -> Hp -> VK -> XK -> Prop
abbrev CXT := List Env -> Hp -> Shared -> XK -> Value -> Shared -> Prop
structure Env0 (P : Program) (w : World) (K : PySem.W.Frag) (mg : Str -> Option Value) (base : Heap) (A : Around) (outer : List Env) (s : Shared) (H : Hp) : Prop where
 frames : A.frames = some outer
 mod : Mod K mg base
 bs : ∀ b o, base.get? b = some o -> s.heap.get? b = some o /\ H b = none
 bsz : base.objs.size <= s.heap.objs.size
 funs : s.heap.FunFrames base outer
 frf : ∀ b ∈ frs outer, H b = none
 hok : HOk P w H s.heap
 bare : AllBare s.gens
def CE (outer : List Env) (P : Program) (w : World) (H : Hp) (s : Shared) (Q : VK) (u : Value) (s' : Shared) : Prop :=
 ∃ v H', s'.os = s.os /\ AllBare s'.gens /\ Un (frs outer) [] H H' s.heap s'.heap /\ HOk P w H' s'.heap /\ RelV v u /\ Q v H'
def CR (CX : CXT) (outer : List Env) (P : Program) (w : World) (H : Hp) (s : Shared) (Q : VK) (E : XK) (r : Result) (s' : Shared) : Prop :=
 match r with
 | .ok (.ret u) => CE outer P w H s Q u s'
 | .ok _ => False
 | .error e => CX outer H s E e s'
structure ib (P : Program) (w : World) (K : PySem.W.Frag) (mg : Str -> Option Value) (base : Heap) (CX : CXT) (k : Nat) (f : Addr) (fd : FuncData) (ps : List Str) (sp : Sp) : Prop where
 len : ∀ vs H Q E, sp vs H Q E -> vs.length = ps.length
 run : ∀ (A : Around) (outer : List Env) (s : Shared) (H : Hp) (args : Args) (us : List Value) (vs : List V) (Q : VK) (E : XK), b7 k A -> Env0 P w K mg base A outer s H -> BindsTo s fd args (ps.zip us) -> Vals vs us -> sp vs H Q E ->
  codeAny (model P w) A (.call (.ref f) args) (CR CX outer P w H s Q E) s
section
variable {X : Cx} {pins : List (Addr × Obj)} {σ : St} {H : Hp} {s s' : Shared}
theorem Inv.env0 (I : Inv X pins σ H s) : Env0 X.prog X.w X.K X.mg X.base X.A X.stack s H :=
 ⟨I.ok.frames, I.ok.mod, I.bs, Nat.le_trans I.ok.bsz I.sz, I.stack, I.stkFree, I.hok, I.bare⟩
theorem Inv.after {Q : VK} {u : Value} (I : Inv X pins σ H s) (h : CE X.stack X.prog X.w H s Q u s') : EP X pins σ Q u s' := by
 obtain ⟨v, H', os, bare, un, hok, r, q⟩ := h
 obtain ⟨hh, g, d, t, os'⟩ := s'
 obtain rfl : os' = s.os := os
 exact ⟨v, H', I.call (h' := hh) (g' := g) (d' := d) (t' := t) (ch := []) un hok bare (fun b z => absurd z (by simp)), r, q⟩
end
def jI (sp : Sp) (dvs : List V) (E : XK) (t : TA) : TE := fun σ H Q => t σ H fun vs H1 => sp (vs ++ dvs) H1 Q E
def Binds (K : PySem.W.Frag) (fd : FuncData) (ps : List Str) (ds : List Value) : Prop :=
 ∀ (s : Shared) (us : List Value), K.In s.heap -> (us ++ ds).length = ps.length -> BindsTo s fd ⟨us, []⟩ (ps.zip (us ++ ds))
theorem Binds.all {K : PySem.W.Frag} {fd : FuncData} {ps : List Str} (h : ∀ us : List Value, us.length = ps.length -> bindArgs fd ⟨us, []⟩ = pure (ps.zip us)) : Binds K fd ps [] := fun s us _ hl => by
 rw [List.append_nil] at hl ⊢
 exact .of_eq (h us hl)
def m9 (CX : CXT) (X : Cx) (E : XK) : Prop := ∀ (pins : List (Addr × Obj)) (σ : St) (H : Hp) (s : Shared) (e : Value) (s' : Shared), Inv X pins σ H s -> CX X.stack H s E e s' -> X.xe e s'
section
variable {X : Cx} {CX : CXT} {k : Nat} {f C : Addr} {fd : FuncData} {ps : List Str} {sp : Sp} {dvs : List V} {ds : List Value} {E : XK} {x m : Str} {p pos apos : Pos} {e o : Expr} {es : List Expr} {ta : TE} {t : TA}
theorem yS {pins : List (Addr × Obj)} {σ : St} {H : Hp} {s : Shared} {Q : VK} {us : List Value} {vs : List V} (F : ib X.prog X.w X.K X.mg X.base CX k f fd ps sp) (hr : b7 k X.A) (hb : Binds X.K fd ps ds) (hd : Vals dvs ds) (hx : m9 CX X E)
  (I : Inv X pins σ H s) (r : Vals vs us) (h : sp (vs ++ dvs) H Q E) : wpAny (model X.prog X.w) X.A (call (.ref f) us) (EP X pins σ Q) X.xe s := by
 have r2 : Vals (vs ++ dvs) (us ++ ds) := r.append hd
 have hl : (us ++ ds).length = ps.length := by rw [<- r2.length]; exact F.len _ _ _ _ h
 refine wpAny_call (codeAny_mono (F.run X.A X.stack s H ⟨us, []⟩ (us ++ ds) (vs ++ dvs) Q E hr I.env0 (hb s us I.kIn hl) r2 h) fun r s' hq => ?_)
 cases r with
 | error e => exact hx pins σ H s e s' I hq
 | ok fl =>
  cases fl with
  | ret u => exact I.after hq
  | next => exact False.elim hq
  | brk => exact False.elim hq
  | cont => exact False.elim hq
theorem ot (F : ib X.prog X.w X.K X.mg X.base CX k f fd ps sp) (hr : b7 k X.A) (hg : Gl X x) (hm : X.mg x = some (.ref f)) (hk : PySem.W.keepIn X.K (.ref f) = true) (hb : Binds X.K fd ps ds) (hd : Vals dvs ds) (hx : m9 CX X E)
  (ha : PA X (e :: es) t) (hdb : (x == ("__debug__" : Str)) = false := by decide) (he : starEach (e :: es) X.env = (false, eval e X.env) :: starEach es X.env := by rfl) (hpl : (backTo pos (starEach es X.env)).any (·.1) = false := by rfl) :
  PE X (.Call (.Name x p) (e :: es) [] pos) (jI sp dvs E t) := by
 intro pins s σ H Q I h
 refine wpAny_Call_Name_kw (fG I hg hm ?_ hdb)
 refine PySem.W.callWith_K (h₀ := X.base) I.ok.mod.kin hk (thn (ha pos pins s σ H _ I h) fun us s1 ⟨vs, H1, I1, r, q⟩ => ⟨I1.kIn, ?_⟩) he hpl
 exact yS F hr hb hd hx I1 r q
end
structure aS (N P : List Str) (sc : Scope) : Prop where
 kind : sc.kind = .function
 co : sc.isCoroutine = false
 gen : sc.isGenerator = false
 nd : N.Nodup
 pre : N.take P.length = P
 par : ∀ x ∈ P, sc.names.lookup x = some .local \/ sc.names.lookup x = some .cell
 nofree : ∀ y ∈ sc.names, y.2 ≠ .free
theorem jJ {kindOf : Str -> Option NameKind} {x : Str} : ∀ {binds : List (Str × Value)} {m : Str -> Option Value}, (∀ v, (x, v) ∉ binds) -> bindL kindOf binds m x = m x
 | [], _, _ => rfl
 | (n, v) :: r, m, h => by
  unfold bindL
  rw [jJ fun w hw => h w (List.mem_cons_of_mem _ hw)]
  split
  ·have : x ≠ n := by rintro rfl; exact h v List.mem_cons_self
   simp [this]
  ·rfl
theorem jK {kindOf : Str -> Option NameKind} {x : Str} : ∀ {binds : List (Str × Value)} {m : Str -> Option Value}, (∀ v, (x, v) ∉ binds) -> bindC kindOf binds m x = m x
 | [], _, _ => rfl
 | (n, v) :: r, m, h => by
  unfold bindC
  rw [jK fun w hw => h w (List.mem_cons_of_mem _ hw)]
  split
  ·rfl
  ·have : x ≠ n := by rintro rfl; exact h v List.mem_cons_self
   simp [this]
theorem jL {kindOf : Str -> Option NameKind} {x : Str} {v : Value} : ∀ {P : List Str} {vs : List Value} {i : Nat} {m : Str -> Option Value}, P.Nodup -> P[i]? = some x -> vs[i]? = some v -> kindOf x = some .local ->
  bindL kindOf (P.zip vs) m x = some v
 | [], _, _, _, _, h, _, _ => by simp at h
 | _ :: _, [], _, _, _, _, h, _ => by simp at h
 | p :: P, w :: vs, 0, m, nd, h1, h2, hk => by
  simp at h1 h2; subst h1; subst h2
  show bindL kindOf ((p, w) :: P.zip vs) m p = _
  unfold bindL
  rw [jJ fun v hv => (List.nodup_cons.mp nd).1 (List.of_mem_zip hv).1, if_pos hk]
  simp
 | p :: P, w :: vs, i + 1, m, nd, h1, h2, hk => by
  show bindL kindOf ((p, w) :: P.zip vs) m x = _
  unfold bindL
  exact jL (i := i) (List.nodup_cons.mp nd).2 (by simpa using h1) (by simpa using h2) hk
theorem jM {kindOf : Str -> Option NameKind} {x : Str} {v : Value} : ∀ {P : List Str} {vs : List Value} {i : Nat} {m : Str -> Option Value}, P.Nodup -> P[i]? = some x -> vs[i]? = some v -> kindOf x ≠ some .local ->
  bindC kindOf (P.zip vs) m x = some v
 | [], _, _, _, _, h, _, _ => by simp at h
 | _ :: _, [], _, _, _, _, h, _ => by simp at h
 | p :: P, w :: vs, 0, m, nd, h1, h2, hk => by
  simp at h1 h2; subst h1; subst h2
  show bindC kindOf ((p, w) :: P.zip vs) m p = _
  unfold bindC
  rw [jK fun v hv => (List.nodup_cons.mp nd).1 (List.of_mem_zip hv).1, if_neg hk]
  simp
 | p :: P, w :: vs, i + 1, m, nd, h1, h2, hk => by
  show bindC kindOf ((p, w) :: P.zip vs) m x = _
  unfold bindC
  exact jM (i := i) (List.nodup_cons.mp nd).2 (by simpa using h1) (by simpa using h2) hk
def start (N : List Str) (vs : List V) : St := vs.map some ++ List.replicate (N.length - vs.length) none
def ig (CX : CXT) (P : Program) (w : World) (K : PySem.W.Frag) (mg : Str -> Option Value) (base : Heap) (N : List Str) (qual : Str) (scope : Scope) (f : Addr) (cd : Value) (A : Around) (outer : List Env) (s : Shared) (H : Hp) (E : XK) : Cx where
 prog := P
 w := w
 K := K
 mg := mg
 base := base
 A := A.deeper (envOfC qual scope s.heap.objs.size f cd)
 N := N
 s₀ := s
 H₀ := H
 env := envOfC qual scope s.heap.objs.size f cd
 outer := outer
 stack := envOfC qual scope s.heap.objs.size f cd :: outer
 ex := []
 calm := true
 fn := fun _ => true
 pn := []
 xe := fun e s' => wpAny (model P w) (A.deeper (envOfC qual scope s.heap.objs.size f cd)) (leaving (envOfC qual scope s.heap.objs.size f cd) e) (fun _ s'' => CX outer H s E e s'') (fun e' s'' => CX outer H s E e' s'') s'
theorem lJ {sc : Scope} {n : Nat} {x : Str} (h : sc.names.lookup x = some .cell) : ∃ c, (cellsFrom n sc.names []).lookup x = some c := by
 have q := PySem.W.cellsFrom_some sc.names n [] (.inl h)
 exact Option.isSome_iff_exists.mp q
theorem pW {CX : CXT} {P : Program} {w : World} {K : PySem.W.Frag} {mg : Str -> Option Value} {base : Heap} {N ps : List Str} {qual : Str} {scope : Scope} {f : Addr} {cd : Value} {A : Around} {outer : List Env} {s s1 : Shared} {H : Hp} {E : XK} {us : List Value} {vs : List V}
  (S : aS N ps scope) (hd : A.handled = none) (e0 : Env0 P w K mg base A outer s H) (hl : vs.length = ps.length) (r : Vals vs us)
  (x : InCallC s s.heap.objs.size (bindL (envOfC qual scope s.heap.objs.size f cd).kindOf (ps.zip us) fun _ => none) (cellsFrom (s.heap.objs.size + 1) scope.names []) (bindC (envOfC qual scope s.heap.objs.size f cd).kindOf (ps.zip us) fun _ => none) s1) :
  Inv (ig CX P w K mg base N qual scope f cd A outer s H E) [] (start N vs) H s1 := by
 have hpl : ps.length <= N.length := by have := congrArg List.length S.pre; rw [List.length_take] at this; omega
 obtain ⟨h1, tk, rfl, hk⟩ := x.done
 have noA : ∀ b : Addr, b ∉ (ig CX P w K mg base N qual scope f cd A outer s H E).ex := fun b z => absurd (show b ∈ ([] : List Addr) from z) (by simp)
 refine ⟨⟨e0.mod, S.kind, rfl, rfl, Nat.le_refl _, fun y z c h1 h2 => ?_, fun y hy => ?_, fun y c _ h => ?_, fun _ => hd, Around.frames_deeper e0.frames, .inr ⟨rfl, rfl⟩, fun b z => absurd z (noA b), e0.bs, e0.bsz, fun b _ _ => noA b, fun b z => absurd z (noA b), e0.funs, e0.frf⟩,
  rfl, e0.bare, Un.kept hk, ⟨_, x.toInCall.ns, fun i y v h1 h2 h3 => ?_⟩, fun y c h => ⟨_, x.cell y c h⟩, e0.hok.fresh (Nat.le_refl _), fun y c h => ?_, fun p hp => absurd (show p ∈ ([] : List (Addr × Obj)) from hp) (by simp), e0.hok.kept hk, ?_⟩
 ·exact name_of_addr x.apart (PySem.mem_of_lookup h1) (PySem.mem_of_lookup h2)
 ·have hy : scope.names.lookup y = some .cell \/ scope.names.lookup y = some .free := hy
  rcases hy with hy | hy
  ·exact lJ hy
  ·exact absurd rfl (S.nofree _ (PySem.mem_of_lookup hy))
 ·exact Nat.le_of_lt (x.above y c (PySem.mem_of_lookup h))
 ·have hi : i < vs.length := by
   unfold start at h2
   by_cases hi : i < vs.length
   ·exact hi
   ·rw [List.getElem?_append_right (by simpa using hi)] at h2
    rw [List.getElem?_replicate] at h2
    split at h2 <;> cases h2
  have ha : vs[i]? = some v := by
   unfold start at h2
   rw [List.getElem?_append_left (by simpa using hi), List.getElem?_map] at h2
   cases e : vs[i]? with
   | none => rw [e] at h2; cases h2
   | some a => rw [e] at h2; cases h2; rfl
  obtain ⟨u, hu, rv⟩ := r.get ha
  have hp : ps[i]? = some y := by
   rw [<- S.pre, List.getElem?_take_of_lt (by omega)]; exact h1
  have ndP : ps.Nodup := by rw [<- S.pre]; exact S.nd.sublist (List.take_sublist _ _)
  refine ⟨u, rv, ?_⟩
  rcases S.par y (List.mem_of_getElem? hp) with k | k
  ·exact .inl ⟨k, jL ndP hp hu k⟩
  ·obtain ⟨c, e⟩ := lJ (n := s.heap.objs.size + 1) k
   refine .inr ⟨.inl k, c, e, ?_⟩
   have q := x.cell y c e
   rw [jM ndP hp hu (by show scope.names.lookup y ≠ _; rw [k]; decide)] at q
   exact q
 ·exact e0.hok.fresh (Nat.le_of_lt (x.above y c (PySem.mem_of_lookup h)))
 ·unfold start
  show _ = N.length
  rw [List.length_append, List.length_map, List.length_replicate]
  omega
theorem xp {CX : CXT} {P : Program} {w : World} {K : PySem.W.Frag} {mg : Str -> Option Value} {base : Heap} {k : Nat} {f : Addr} {name qual : Str} {params : Arguments} {body : List Stmt} {scope : Scope} {dV kV doc pm cdv ct oc : Value} {an od : Option Addr}
  {osl : Array (Option Value)} {N ps : List Str} {sp : Sp} (lk : K.lookup f = some ⟨oc, od, .func (PySem.W.fnOf name qual params body scope dV kV doc pm an cdv ct), osl⟩) (hcd : PySem.W.codeIn K cdv qual = true) (S : aS N ps scope)
  (len : ∀ vs H Q E, sp vs H Q E -> vs.length = ps.length)
  (hbody : ∀ (A : Around) (outer : List Env) (s : Shared) (H : Hp) (vs : List V) (Q : VK) (E : XK), b7 k (A.deeper (envOfC qual scope s.heap.objs.size f cdv)) -> sp vs H Q E ->
   ∃ t, PSs (ig CX P w K mg base N qual scope f cdv A outer s H E) body t /\ t { nx := fun _ H' => Q .non H', rt := Q } (start N vs) H) :
  ib P w K mg base CX (k + 1) f (PySem.W.fnOf name qual params body scope dV kV doc pm an cdv ct) ps sp := by
 refine ⟨len, fun A outer s H args us vs Q E hr e0 hb r hsp => ?_⟩
 have hl := len _ _ _ _ hsp
 have KX : K.In s.heap := e0.mod.kin.keeps fun b o e => (e0.bs b o e).1
 have lim : s.heap.NoLimit := e0.mod.nolimit.keeps fun b o e => (e0.bs b o e).1
 have hkind : ∀ y ∈ ps.zip us, scope.names.lookup y.1 = some .local \/ (scope.names.lookup y.1 = some .cell /\ ((cellsFrom (s.heap.objs.size + 1) scope.names []).lookup y.1).isSome = true) := fun ⟨n, v⟩ hy => by
  rcases S.par n (List.of_mem_zip hy).1 with q | q
  ·exact .inl q
  ·exact .inr ⟨q, PySem.W.cellsFrom_some _ _ _ (.inl q)⟩
 refine codeAny_call_function hr.depth (KX _ _ lk) rfl S.co S.gen rfl (PySem.W.codeRec_of KX hcd) (hb _ _ _ _ ?_)
 refine wpAny_newFunctionEnv_cells S.kind hkind fun env he s1 x => ?_
 subst he
 refine ⟨lim.keeps x.toInCall.keep, codeAny_func ?_⟩
 obtain ⟨t, ht, hq⟩ := hbody A outer s H vs Q E (hr.deeper _) hsp
 have I : Inv (ig CX P w K mg base N qual scope f cdv A outer s H E) [] (start N vs) H s1 := pW S hr.hd e0 hl r x
 refine wpAny_mono (ht [] s1 (start N vs) H _ I hq) (fun fl s' hs => ?_) fun e s' hs => hs
 have fin : ∀ {σ' : St} {H' : Hp} {v : V} {u : Value}, Inv (ig CX P w K mg base N qual scope f cdv A outer s H E) [] σ' H' s' -> RelV v u -> Q v H' -> CE outer P w H s Q u s' :=
  fun {σ' H' v u} J rv q => ⟨v, H', J.os, J.bare, J.base, J.hok, rv, q⟩
 cases fl with
 | ret u =>
  obtain ⟨v, σ', H', J, rv, q⟩ := hs
  exact fin J rv q
 | next =>
  obtain ⟨σ', H', J, q⟩ := hs
  exact fin (v := V.non) (u := Value.none) J rfl q
 | brk =>
  obtain ⟨_, _, _, q⟩ := hs
  exact False.elim q
 | cont =>
  obtain ⟨_, _, _, q⟩ := hs
  exact False.elim q
end L2
namespace L2
open PySem PySem.Spec PyProof.Rows
section
variable {X : Cx} {x : Str} {p pos : Pos} {e : Expr} {es : List Expr} {t : TA} {id T : String} {r : List V -> Hp -> VK -> Prop}
def tCB (r : List V -> Hp -> VK -> Prop) (t : TA) : TE := fun σ H Q => t σ H fun vs H1 => r vs H1 Q
theorem fI (hc : cE X (.builtin id) r) (hg : Gl X x) (hm : X.mg x = none) (hv : bootBuiltins x = some (.builtin id)) (ha : PA X (e :: es) t) (hn : x ≠ "__name__" := by decide) (hdb : (x == ("__debug__" : Str)) = false := by decide)
  (he : starEach (e :: es) X.env = (false, eval e X.env) :: starEach es X.env := by rfl) (hpl : (backTo pos (starEach es X.env)).any (·.1) = false := by rfl) : PE X (.Call (.Name x p) (e :: es) [] pos) (tCB r t) := by
 intro pins s σ H Q I h
 refine wpAny_Call_Name_kw (fu I hg hm hv ?_ hn hdb)
 exact PyProof.Rows.callWith_builtin1 (thn (ha pos pins s σ H _ I h) fun us s1 zt1 => by obtain ⟨vs, H1, I1, r1, q1⟩ := zt1; exact hc pins s1 σ H1 vs us Q I1 r1 q1) he hpl
theorem pX (hc : cE X (.type T) r) (hg : Gl X x) (hm : X.mg x = none) (hv : bootBuiltins x = some (.type T)) (ha : PA X (e :: es) t) (hn : x ≠ "__name__" := by decide) (hdb : (x == ("__debug__" : Str)) = false := by decide)
  (he : starEach (e :: es) X.env = (false, eval e X.env) :: starEach es X.env := by rfl) (hpl : (backTo pos (starEach es X.env)).any (·.1) = false := by rfl) : PE X (.Call (.Name x p) (e :: es) [] pos) (tCB r t) := by
 intro pins s σ H Q I h
 refine wpAny_Call_Name_kw (fu I hg hm hv ?_ hn hdb)
 exact PyProof.Rows.callWith_type1 (thn (ha pos pins s σ H _ I h) fun us s1 zt1 => by obtain ⟨vs, H1, I1, r1, q1⟩ := zt1; exact hc pins s1 σ H1 vs us Q I1 r1 q1) he hpl
end
end L2
namespace HT
open PySem PyProof.Rows
def lexLt : List Int -> List Int -> Bool
 | [], [] => false
 | [], _ :: _ => true
 | _ :: _, [] => false
 | x :: xs, y :: ys => if x = y then lexLt xs ys else decide (x < y)
theorem b9 (x y : Int) (xs ys : List Int) : lexLt (x :: xs) (y :: ys) = if x = y then lexLt xs ys else decide (x < y) := rfl
theorem jD : lexLt [] [] = false := rfl
theorem iI (y : Int) (ys : List Int) : lexLt [] (y :: ys) = true := rfl
theorem iJ (x : Int) (xs : List Int) : lexLt (x :: xs) [] = false := rfl
theorem qN (A : Around) (s : Shared) (a : Int) (t : Tok) (c : Int) (u : Tok) : ∃ e, SeqAt.EqAt A s (.int a t) (.int c u) e /\ (e = true ↔ a = c) :=
 ⟨(a == c), SeqAt.EqAt.int_int a t c u, by simp⟩
theorem qO (A : Around) (s : Shared) (a : Int) (t : Tok) (c : Int) (u : Tok) (prog : Program) (w : World) (E : Value -> Shared -> Prop) (Q : Value -> Shared -> Prop) (h : Q (.bool (decide (a < c))) s) :
  wpAny (model prog w) A (richCompare .Lt (.int a t) (.int c u)) Q E s :=
 (PyProof.Rows.lt_int h : wpAny (model prog w) A (compareOp .Lt (.int a t) (.int c u)) Q E s)
section
open PySem.SeqAt
open PySem.AutoSeq1 (wpAny_loadPart')
open PySem.MeetsSeq PySem.MeetsSeq2 PySem.MeetsSeq3
theorem jE (l b : Addr) (items items2 : Array Value) (n n2 : Nat) (dd dd2 : Option Addr) (sl sl2 : Array (Option Value)) (ns ms : List Int) (hi : IntsAre items.toList ns) (hj : IntsAre items2.toList ms) :
  Meets (Builtin.«tuple.__lt__» ⟨[.ref l, .ref b], []⟩)
   (fun _ R s => s.heap.get? l = some { cls := .type "tuple", dict := dd, data := .seq items n, slots := sl } /\ s.heap.get? b = some { cls := .type "tuple", dict := dd2, data := .seq items2 n2, slots := sl2 } /\
    R (.ok (.ret (.bool (lexLt ns ms)))) s) :=
 .of_wp fun prog w A R s h => by
  obtain ⟨hp, g, d, tk, os⟩ := s; obtain ⟨hl, hb, h⟩ := h
  have f2 := AutoSeq1.sub_tuple_tuple
  have z1 : items.size = ns.length := by rw [<- hi.length]; simp
  have z2 : items2.size = ms.length := by rw [<- hj.length]; simp
  wp_walk using wpAny_loadPart' hl, wpAny_loadPart' hb, wpAny_forIn_list _ (fun rest b s' => b.1 = none /\ s' = ⟨hp, g, d, tk, os⟩ /\ ∃ (vs ws : List Value) (ns' ms' : List Int), rest = vs.zip ws /\
   IntsAre vs ns' /\ IntsAre ws ms' /\ ns'.length + items2.size = ms'.length + items.size /\ R (.ok (.ret (.bool (lexLt ns' ms')))) ⟨hp, g, d, tk, os⟩) _
  case turn =>
   rintro ⟨y, x⟩ rest b s' ⟨hb', rfl, vs, ws, ns', ms', hz, hvi, hwi, hlen, hR⟩
   cases hvi with
   | nil => rw [List.zip_nil_left] at hz; cases hz
   | cons a t hvi' =>
    cases hwi with
    | nil => rw [List.zip_nil_right] at hz; cases hz
    | cons c u hwi' =>
     rw [List.zip_cons_cons] at hz
     injection hz with hyx hrest
     injection hyx with hy hx
     subst hy hx
     rw [b9] at hR
     simp only [List.length_cons] at hlen
     obtain ⟨e, he, hiff⟩ := qN A.in1 ⟨hp, g, d, tk, os⟩ a t c u
     refine wpAny_bind (he prog w _ _ ?_)
     cases e with
     | true =>
      rw [if_pos (hiff.mp rfl)] at hR
      wp_walk
      exact ⟨rfl, rfl, _, _, _, _, hrest, hvi', hwi', by omega, hR⟩
     | false =>
      rw [if_neg (fun q => absurd (hiff.mpr q) Bool.false_ne_true)] at hR
      have hri := qO A.in1 ⟨hp, g, d, tk, os⟩ a t c u prog w
      wp_walk using hri
      exact ⟨_, rfl, by simpa using hR⟩
  case fin =>
   rintro ⟨b1, b2⟩ s' ⟨hb', rfl, vs, ws, ns', ms', hz, hvi, hwi, hlen, hR⟩
   simp only at hb'
   subst hb'
   have hv : lexLt ns' ms' = decide (items.size < items2.size) := by
    cases hvi with
    | nil =>
     cases hwi with
     | nil =>
      simp only [List.length_nil] at hlen
      rw [jD]
      exact (decide_eq_false (by omega)).symm
     | cons c u hw =>
      simp only [List.length_nil, List.length_cons] at hlen
      rw [iI]
      exact (decide_eq_true (by omega)).symm
    | cons a t hv =>
     cases hwi with
     | nil =>
      simp only [List.length_nil, List.length_cons] at hlen
      rw [iJ]
      exact (decide_eq_false (by omega)).symm
     | cons c u hw =>
      rw [List.zip_cons_cons] at hz
      cases hz
   rw [hv] at hR
   wp_walk
   exact ⟨_, rfl, by simpa [Builtin.Tuple.tupleCompareSizes] using hR⟩
  case h =>
   exact ⟨rfl, rfl, items.toList, items2.toList, ns, ms, rfl, hi, hj, by omega, h⟩
end
section
variable {prog : Program} {w : World} {A : Around} {E : Value -> Shared -> Prop} {s : Shared}
theorem ng {l b : Addr} {items items2 : Array Value} {ns ms : List Int} {Q : Value -> Shared -> Prop} (hl : IsTup s.heap l items) (hb : IsTup s.heap b items2) (hi : IntsAre items.toList ns) (hj : IntsAre items2.toList ms)
  (hu : A.units < cLine) (h : Q (.bool (lexLt ns ms)) s) : wpAny (model prog w) A (compareOp .Lt (.ref l) (.ref b)) Q E s := by
 obtain ⟨⟨cls, dd, data, sl⟩, ho, hc, n, hd⟩ := id hl
 obtain ⟨⟨cls2, dd2, data2, sl2⟩, ho2, hc2, n2, hd2⟩ := id hb
 simp only at hc hd hc2 hd2
 subst hc hd hc2 hd2
 exact richCompare_meets_room (op := .Lt) ⟨_, ho, rfl⟩ ⟨_, ho2, rfl⟩ PySem.F.slot_tuple_lt PySem.F.entry_tuple_lt (PySem.F.args_tuple_lt_2 _ _) (jE l b items items2 n n2 dd dd2 sl sl2 ns ms hi hj)
  ⟨ho, ho2, show Value.bool (lexLt ns ms) ≠ Value.notImplemented /\ Q (.bool (lexLt ns ms)) s from ⟨(fun x => nomatch x), h⟩⟩ hu
def sIx (n d : Nat) : Option Int -> Nat
 | none => d
 | some v => if v < 0 then (v + (n : Int)).toNat else min v.toNat n
theorem qP (n d : Nat) : sIx n d none = d := rfl
theorem uB (n d k : Nat) : sIx n d (some (k : Int)) = min k n := by
 show (if (k : Int) < 0 then ((k : Int) + (n : Int)).toNat else min (k : Int).toNat n) = min k n
 rw [if_neg (by omega), Int.toNat_natCast]
end
end HT
namespace L2
open PySem PySem.Spec PyProof.Rows
abbrev TO := St -> Hp -> (Option Int -> Hp -> Prop) -> Prop
def PO (X : Cx) (e : Option Expr) (t : TO) : Prop :=
 ∀ (pins : List (Addr × Obj)) (s : Shared) (σ : St) (H : Hp) (Q : Option Int -> Hp -> Prop), Inv X pins σ H s -> t σ H Q ->
  wpAny (model X.prog X.w) X.A (evalPart e X.env) (fun u s' => ∃ o H', Inv X pins σ H' s' /\ IsPart u o /\ Q o H') X.xe s
def ou : TO := fun _ H Q => Q none H
def xq (t : TE) : TO := fun σ H Q => t σ H fun x H1 => ∃ i, x = .int i /\ Q (some i) H1
theorem intsAre_of {ns : List Int} : ∀ {us : List Value}, Vals (ns.map V.int) us -> IntsAre us ns := by
 induction ns with
 | nil => intro us r; rw [List.map_nil] at r; cases r; exact .nil
 | cons n ns ih =>
  intro us r
  rw [List.map_cons] at r
  cases r with
  | cons r1 r2 =>
   obtain ⟨t, e⟩ := r1
   subst e
   exact .cons n t (ih r2)
section
variable {X : Cx} {e : Expr} {te : TE} {lo hi : Option Expr} {tl th : TO} {pos p2 : Pos}
theorem uC : PO X none ou := by
 intro pins s σ H Q I h
 rw [evalPart_none]
 exact wpAny_pure ⟨none, H, I, .none, h⟩
theorem uD (h : PE X e te) : PO X (some e) (xq te) := by
 intro pins s σ H Q I hw
 rw [evalPart_some]
 refine thn (h pins s σ H _ I hw) fun u s1 zr1 => ?_
 obtain ⟨x, H1, I1, r1, q1⟩ := zr1
 obtain ⟨i, rfl, q⟩ := q1
 obtain ⟨t, rfl⟩ := r1
 exact ⟨some i, H1, I1, .int i t, q⟩
def SlR (X : Cx) (r : V -> Option Int -> Option Int -> Hp -> VK -> Prop) : Prop :=
 ∀ (pins : List (Addr × Obj)) (s : Shared) (σ : St) (H : Hp) (x : V) (v vl vu : Value) (lo hi : Option Int) (sl : Addr) (Q : VK), Inv X pins σ H s -> RelV x v -> s.heap.IsSliceOf sl vl vu .none -> IsPart vl lo -> IsPart vu hi -> r x lo hi H Q ->
  ∃ T id, typeLookup (.type T) "__getitem__" = pure (some (.builtin id)) /\ s.TypeIs v T /\ wpAny (model X.prog X.w) X.A (getItem v (.ref sl)) (EP X pins σ Q) X.xe s
def tSl (r : V -> Option Int -> Option Int -> Hp -> VK -> Prop) (te : TE) (tl th : TO) : TE := fun σ H Q => te σ H fun x H1 => tl σ H1 fun l H2 => th σ H2 fun u H3 => r x l u H3 Q
theorem lK {r : V -> Option Int -> Option Int -> Hp -> VK -> Prop} (hr : SlR X r) (he : PE X e te) (hl : PO X lo tl) (hu : PO X hi th) : PE X (.Subscript e (.Slice lo hi none p2) pos) (tSl r te tl th) := by
 intro pins s σ H Q I h
 refine Subscript_ (thn (he pins s σ H _ I h) fun v s1 zr1 => ?_)
 obtain ⟨x, H1, I1, r1, q1⟩ := zr1
 refine wpAny_Slice (thn (hl pins s1 σ H1 _ I1 q1) fun vl s2 ⟨l, H2, I2, pl, q2⟩ => thn (hu pins s2 σ H2 _ I2 q2) fun vu s3 zr1 => ?_)
 obtain ⟨u, H3, I3, pu, q3⟩ := zr1
 rw [evalPart_none]
 refine wpAny_pure ?_
 have I4 : Inv X pins σ H3 { s3 with heap := s3.heap.push { cls := .type "slice", data := .fields #[vl, vu, .none] } } := I3.kept (t' := s3.toks) fun b ob q => Heap.get?_push_of_some _ q
 obtain ⟨T, id, hT, ht, hg⟩ := hr pins { s3 with heap := s3.heap.push { cls := .type "slice", data := .fields #[vl, vu, .none] } } σ H3 x v vl vu l u s3.heap.objs.size Q I4 r1 (Heap.IsSliceOf.new ..) pl pu q3
 show wpAny (model X.prog X.w) X.A (subscriptTail e (.Slice lo hi none p2) v (.ref s3.heap.objs.size)) (EP X pins σ Q) X.xe { s3 with heap := s3.heap.push { cls := .type "slice", data := .fields #[vl, vu, .none] } }
 exact tail_any (ops := [.ref s3.heap.objs.size, v]) ht hT hg (by with_unfolding_all rfl)
def pY (xs : List V) (lo hi : Option Int) : List V := (xs.drop (HT.sIx xs.length 0 lo)).take (HT.sIx xs.length xs.length hi - HT.sIx xs.length 0 lo)
theorem lL (xs : List V) (lo hi : Option Int) : (pY xs lo hi).length <= xs.length := by
 unfold pY
 rw [List.length_take, List.length_drop]
 omega
def yT (K : PySem.W.Frag) : R2 := fun x y H Q => ∃ a b ns ms, x = .ref a /\ y = .ref b /\ SqT K H a (ns.map V.int) /\ SqT K H b (ms.map V.int) /\ Q (.bl (HT.lexLt ns ms)) H
theorem yU (hu : X.A.units < cLine) : OpR X (compareOp .Lt) (yT X.K) := by
 intro pins s σ H x y v u Q I rx ry h
 obtain ⟨a, b, ns, ms, rfl, rfl, ha, hb, q⟩ := h
 cases rx
 cases ry
 obtain ⟨its, r1, p1, _⟩ := I.tuple ha
 obtain ⟨its2, r2, p2, _⟩ := I.tuple hb
 have i1 : IntsAre its.toArray.toList ns := intsAre_of r1
 have i2 : IntsAre its2.toArray.toList ms := intsAre_of r2
 exact HT.ng p1 p2 i1 i2 hu ⟨.bl (HT.lexLt ns ms), H, I, rfl, q⟩
end
end L2
namespace L2
open PySem PySem.Spec PyProof.Rows
def ixN (n : Nat) (i : Int) : Option Nat := if 0 <= i then (if i < n then some i.toNat else none) else if -(n : Int) <= i then some (i + n).toNat else none
def atI {α : Type} (xs : List α) (i : Int) : Option α := (ixN xs.length i).bind fun j => xs[j]?
theorem ow {n : Nat} {i : Int} {j : Nat} (h : ixN n i = some j) : seqIndex? i n = some j /\ j < n /\ -(n : Int) <= i /\ i < n := by
 unfold ixN at h
 by_cases h0 : 0 <= i
 ·rw [if_pos h0] at h
  by_cases h1 : i < n
  ·rw [if_pos h1] at h
   have e : i.toNat = j := Option.some.inj h
   exact ⟨by rw [seqIndex_of h0 h1, e], by omega, by omega, h1⟩
  ·rw [if_neg h1] at h; cases h
 ·rw [if_neg h0] at h
  by_cases h1 : -(n : Int) <= i
  ·rw [if_pos h1] at h
   have e : (i + n).toNat = j := Option.some.inj h
   exact ⟨by rw [seqIndex_neg (by omega) h1, e], by omega, h1, by omega⟩
  ·rw [if_neg h1] at h; cases h
theorem km {α : Type} {xs : List α} {i : Int} {v : α} (h : atI xs i = some v) : ∃ j, seqIndex? i xs.length = some j /\ xs[j]? = some v /\ j < xs.length /\ -(xs.length : Int) <= i /\ i < xs.length := by
 unfold atI at h
 cases e : ixN xs.length i with
 | none => rw [e] at h; cases h
 | some j =>
  rw [e] at h
  obtain ⟨h1, h2, h3, h4⟩ := ow e
  exact ⟨j, h1, h, h2, h3, h4⟩
theorem ip {α : Type} {xs : List α} {j : Nat} {v : α} (h : xs[j]? = some v) : atI xs (j : Int) = some v := by
 have hj : j < xs.length := (List.getElem?_eq_some_iff.mp h).1
 have e : ixN xs.length (j : Int) = some j := by
  unfold ixN
  rw [if_pos (by omega), if_pos (by omega)]; simp
 unfold atI; rw [e]; exact h
def eU (b : Expr) : Prop := ∀ o i, subscripted b false o i = operate [o, i] (getItem o i)
def IxR (X : Cx) (r : R2) : Prop :=
 ∀ (value slice : Expr) (pins : List (Addr × Obj)) (s : Shared) (σ : St) (H : Hp) (x y : V) (v u : Value) (Q : VK), Inv X pins σ H s -> RelV x v -> RelV y u -> r x y H Q ->
  subscripted slice false v u = operate [v, u] (getItem v u) -> wpAny (model X.prog X.w) X.A (subscriptTail value slice v u) (EP X pins σ Q) X.xe s
def MtR (X : Cx) (id : String) (r : V -> List V -> Hp -> VK -> Prop) : Prop :=
 ∀ (pins : List (Addr × Obj)) (s : Shared) (σ : St) (H : Hp) (x : V) (xs : List V) (v : Value) (us : List Value) (Q : VK), Inv X pins σ H s -> RelV x v -> Vals xs us -> r x xs H Q ->
  wpAny (model X.prog X.w) X.A (call (.builtin id) (v :: us)) (EP X pins σ Q) X.xe s
section
variable {X : Cx} {a b : Expr} {ta tb : TE} {pos : Pos}
theorem IxR.or {r r' : R2} (h : IxR X r) (h' : IxR X r') : IxR X (fun x y H Q => r x y H Q \/ r' x y H Q) := by
 intro value slice pins s σ H x y v u Q I rx ry q hs
 rcases q with q | q
 ·exact h value slice pins s σ H x y v u Q I rx ry q hs
 ·exact h' value slice pins s σ H x y v u Q I rx ry q hs
theorem lM {r : R2} (hr : IxR X r) (ha : PE X a ta) (hb : PE X b tb) (hs : eU b) : PE X (.Subscript a b pos) (tOp r ta tb) := by
 intro pins s σ H Q I h
 exact Subscript_ (yN ha hb I h fun v u s2 x y H2 I2 rx ry q => hr a b pins s2 σ H2 x y v u Q I2 rx ry q (hs _ _))
def uE (K : PySem.W.Frag) : R2 := fun x y H Q => ∃ p xs i v, x = .ref p /\ y = .int i /\ SqL K H p xs /\ atI xs i = some v /\ Q v H
def Br (K : PySem.W.Frag) : R2 := fun x y H Q => ∃ p xs i v, x = .ref p /\ y = .int i /\ SqT K H p xs /\ atI xs i = some v /\ Q v H
def Bs : R2 := fun x y H Q => ∃ z i c, x = .str z /\ y = .int i /\ z.length <= sizeLine /\ atI z.cps.toList i = some c /\ Q (.str ⟨#[c]⟩) H
theorem ox : IxR X (uE X.K) := by
 intro value slice pins s σ H x y v u Q I rx ry h hs
 obtain ⟨p, xs, i, z, rfl, rfl, hq, he, q⟩ := h
 cases rx
 obtain ⟨t, rfl⟩ := ry
 obtain ⟨its, r, pl, hz⟩ := I.list hq
 obtain ⟨j, h1, h2, h3, h4, h5⟩ := km he
 obtain ⟨w, ew, rw'⟩ := r.get h2
 have hl := r.length
 have hn := fw
 have fin : EP X pins σ Q w s := ⟨z, H, I, rw', q⟩
 by_cases h0 : 0 <= i
 ·have hj : i.toNat = j := by
   rw [seqIndex_of h0 h5] at h1
   exact Option.some.inj h1
  exact item_listR pl.isList h0 (by omega) (by rw [hj]; simpa using ew) fin hs
 ·have hj : (i + (its.toArray.size : Int)).toNat = j := by
   rw [seqIndex_neg (by omega) h4] at h1
   rw [List.size_toArray, <- hl]
   exact Option.some.inj h1
  exact subscriptTail_builtinR (x := w) pl.isList.typeIs slot_list_getitem.lookup
   (wpAny_getItem_list_neg (Q := fun r s' => r = w /\ EP X pins σ Q r s') pl.isList (by omega) (by rw [List.size_toArray] <;> omega) (by omega) (by rw [hj]; simpa using ew) ⟨rfl, fin⟩) hs
theorem yV : IxR X (Br X.K) := by
 intro value slice pins s σ H x y v u Q I rx ry h hs
 obtain ⟨p, xs, i, z, rfl, rfl, hq, he, q⟩ := h
 cases rx
 obtain ⟨t, rfl⟩ := ry
 obtain ⟨its, r, pl, hz⟩ := I.tuple hq
 obtain ⟨j, h1, h2, h3, h4, h5⟩ := km he
 obtain ⟨w, ew, rw'⟩ := r.get h2
 have hl := r.length
 have hn := fw
 have fin : EP X pins σ Q w s := ⟨z, H, I, rw', q⟩
 exact subscriptTail_builtinR (x := w) pl.typeIs slot_tuple_getitem.lookup
  (getItem_tuple (j := j) (Q := fun r s' => r = w /\ EP X pins σ Q r s') pl (by omega) (by omega) (by rw [List.size_toArray, <- hl]; exact h1) (by simpa using ew) ⟨rfl, fin⟩) hs
theorem yW : IxR X Bs := by
 intro value slice pins s σ H x y v u Q I rx ry h hs
 obtain ⟨z, i, c, rfl, rfl, hz, he, q⟩ := h
 obtain ⟨t, rfl⟩ := rx
 obtain ⟨t', rfl⟩ := ry
 obtain ⟨j, h1, h2, h3, h4, h5⟩ := km he
 have hl : z.cps.toList.length = z.length := by simp [Str.length]
 rw [hl] at h1 h4 h5
 have hn := fw
 exact tail_any (typeIs_str s z t) slot_str_getitem.lookup (getItem_str (c := c) (by
  have e1 : decide (i < -(2 ^ 63 : Int)) = false := decide_eq_false (by omega)
  have e2 : decide (i >= 2 ^ 63) = false := decide_eq_false (by omega)
  rw [e1, e2, Bool.or_false]) (by rw [h1]; simpa using h2) ⟨.str ⟨#[c]⟩, H, I.tok _, ⟨_, rfl⟩, q⟩) hs
def rIx (K : PySem.W.Frag) : R2 := fun x y H Q => uE K x y H Q \/ Br K x y H Q \/ Bs x y H Q
theorem kn : IxR X (rIx X.K) := ox.or (yV.or yW)
theorem nh (its : List Value) (n j : Nat) (u : Value) : Obj.mapSeq (·.setIfInBounds j u) { cls := .type "list", data := .seq its.toArray n } = { cls := .type "list", data := .seq (its.set j u).toArray n } := by
 simp [Obj.mapSeq]
theorem Inv.lst {pins : List (Addr × Obj)} {σ : St} {H : Hp} {s : Shared} {p : Addr} {xs : List V} (I : Inv X pins σ H s) (h : H p = some (.lst xs)) :
  ∃ (its : List Value) (n : Nat), Vals xs its /\ s.heap.get? p = some { cls := .type "list", data := .seq its.toArray n } /\ xs.length <= sizeLine := by
 obtain ⟨z, its, n, r, e⟩ := I.hok p _ h
 exact ⟨its, n, r, e, z⟩
theorem Inv.lstUpd {pins : List (Addr × Obj)} {σ : St} {H : Hp} {s : Shared} {p : Addr} {xs ys : List V} {its its' : List Value} {n n' : Nat} {f : Obj -> Obj} (I : Inv X pins σ H s) (h : H p = some (.lst xs))
  (ho : s.heap.get? p = some { cls := .type "list", data := .seq its.toArray n }) (hf : f { cls := .type "list", data := .seq its.toArray n } = { cls := .type "list", data := .seq its'.toArray n' }) (r : Vals ys its') (hz : ys.length <= sizeLine) (t : Nat) :
  Inv X pins σ (upd H p (.lst ys)) { s with heap := s.heap.update p f, toks := t } := by
 have e : (s.heap.update p f).get? p = some { cls := .type "list", data := .seq its'.toArray n' } := by
  rw [Heap.get?_update_self f ho (by rw [hf] <;> rfl), hf]
 refine I.write (x := p) (e := p) (by rw [h]; trivial) (.inl rfl) (fun b u hb q => (Heap.get?_update_other _ _ (Ne.symm hb)).trans q) ⟨_, e⟩ ?_
 exact ⟨hz, its', n', r, e⟩
def lN : V -> V -> V -> Hp -> (Hp -> Prop) -> Prop := fun o i v H Q => ∃ p xs k j, o = .ref p /\ i = .int k /\ H p = some (.lst xs) /\ ixN xs.length k = some j /\ Q (upd H p (.lst (xs.set j v)))
theorem set_list : Bo X lN := by
 intro pins s σ H o i v ov iv u Q I ro ri rv h
 obtain ⟨p, xs, k, j, rfl, rfl, hp, hj, q⟩ := h
 cases ro
 obtain ⟨t, rfl⟩ := ri
 obtain ⟨its, n, r, ho, hz⟩ := I.lst hp
 obtain ⟨h1, h2, h3, h4⟩ := ow hj
 have hl := r.length
 have hn := fw
 have I' : Inv X pins σ (upd H p (.lst (xs.set j v))) { s with heap := s.heap.update p (Obj.mapSeq (·.setIfInBounds j u)) } :=
  I.lstUpd hp ho (nh its n j u) (r.set rv j) (by rw [List.length_set]; exact hz) s.toks
 by_cases h0 : 0 <= k
 ·have hk : k.toNat = j := by
   rw [seqIndex_of h0 h4] at h1
   exact Option.some.inj h1
  exact PySem.W.ki_setAt ho h0 (by omega) (by rw [List.size_toArray, <- hl]; exact h4) (by rw [hk]; exact ⟨_, I', q⟩)
 ·have hk : (k + (its.toArray.size : Int)).toNat = j := by
   rw [seqIndex_neg (by omega) h3] at h1
   rw [List.size_toArray, <- hl]
   exact Option.some.inj h1
  exact PySem.W.ki_setBack ho (by omega) (by rw [List.size_toArray, <- hl]; exact h3) (by omega) (by rw [hk]; exact ⟨_, I', q⟩)
theorem ko (lo hi : Option Int) (n : Nat) : (sliceBounds lo hi none n).1 = ((HT.sIx n 0 lo : Nat) : Int) /\ (sliceBounds lo hi none n).2.1 = ((HT.sIx n n hi : Nat) : Int) /\ (sliceBounds lo hi none n).2.2 = 1 := by
 refine ⟨?_, ?_, rfl⟩
 ·cases lo with
  | none => simp [sliceBounds, HT.sIx]
  | some i =>
   simp only [sliceBounds, HT.sIx, Option.getD_none, show (1 : Int) > 0 by decide, if_true]
   by_cases h : i < 0
   ·simp only [h, if_true] <;> omega
   ·simp only [h, if_false] <;> omega
 ·cases hi with
  | none => simp [sliceBounds, HT.sIx]
  | some i =>
   simp only [sliceBounds, HT.sIx, Option.getD_none, show (1 : Int) > 0 by decide, if_true]
   by_cases h : i < 0
   ·simp only [h, if_true] <;> omega
   ·simp only [h, if_false] <;> omega
theorem jF (its : List Value) (lo hi : Option Int) : slicePick its.toArray lo hi none = ((its.drop (HT.sIx its.length 0 lo)).take (HT.sIx its.length its.length hi - HT.sIx its.length 0 lo)).toArray := by
 obtain ⟨h1, h2, h3⟩ := ko lo hi its.toArray.size
 unfold slicePick
 rw [h1, h2, h3]
 simp only [sliceRange_one, pick_run, List.size_toArray] <;> rfl
def Bt (K : PySem.W.Frag) : V -> Option Int -> Option Int -> Hp -> VK -> Prop := fun x lo hi H Q => ∃ a xs, x = .ref a /\ SqL K H a xs /\ ∀ p, H p = none -> Q (.ref p) (upd H p (.lst (pY xs lo hi)))
theorem uF : SlR X (Bt X.K) := by
 intro pins s σ H x v vl vu lo hi sl Q I rx hs pl pu h
 obtain ⟨a, xs, rfl, hx, q⟩ := h
 cases rx
 obtain ⟨its, r, ht, hz⟩ := I.list hx
 have hlen := r.length
 refine ⟨"list", _, slot_list_getitem.lookup, ht.isList.typeIs, ?_⟩
 refine wpAny_getItem_list_slice ht.isList hs pl pu .none (by simp) ?_ (by rw [List.size_toArray] <;> omega)
 rw [jF, <- hlen]
 refine ⟨.ref s.heap.objs.size, _, I.laid (t' := s.toks) (o := .lst (pY xs lo hi)) (fun b ob q => Heap.get?_push_of_some _ q) (Nat.le_refl _) ?_, rfl, q _ (I.hok.fresh (Nat.le_refl _))⟩
 exact ⟨Nat.le_trans (lL xs lo hi) hz, _, 0, (r.drop (HT.sIx xs.length 0 lo)).take (HT.sIx xs.length xs.length hi - HT.sIx xs.length 0 lo), Heap.get?_push_size _ rfl⟩
theorem fJ : OpR X (compareOp .NotIn) (fun x y H Q => ∃ i j, x = .str i /\ y = .str j /\ Q (.bl (!(!(Builtin.Str.occurrences j i 0 j.length 1).isEmpty))) H) := by
 intro pins s σ H x y v u Q I rx ry h
 obtain ⟨i, j, rfl, rfl, q⟩ := h
 obtain ⟨t, rfl⟩ := rx
 obtain ⟨t', rfl⟩ := ry
 exact notIn_str ⟨.bl _, H, I, rfl, q⟩
theorem kq : cE X (.builtin "len") (fun xs H Q => ∃ p ys, xs = [.ref p] /\ (SqL X.K H p ys \/ SqT X.K H p ys) /\ Q (.int ys.length) H) := by
 intro pins s σ H xs us Q I r h
 obtain ⟨p, ys, rfl, hq, q⟩ := h
 obtain ⟨u, rfl, rx⟩ := vals1 r
 cases rx
 have hn := fw
 rcases hq with hq | hq
 ·obtain ⟨its, r', pl, hz⟩ := I.list hq
  have hlen := r'.length
  exact Calls.call_len_list pl.isList (by simp only [List.size_toArray] <;> omega) ⟨.int ys.length, H, I.tok _, ⟨s.toks + 1, by rw [List.size_toArray, hlen]⟩, q⟩
 ·obtain ⟨its, r', pl, hz⟩ := I.tuple hq
  have hlen := r'.length
  exact len_tuple pl (by simp only [List.size_toArray] <;> omega) ⟨.int ys.length, H, I.tok _, ⟨s.toks + 1, by rw [List.size_toArray, hlen]⟩, q⟩
theorem bq : cE X (.builtin "len") (fun xs H Q => ∃ z, xs = [.str z] /\ z.length <= sizeLine /\ Q (.int z.length) H) := by
 intro pins s σ H xs us Q I r h
 obtain ⟨z, rfl, hz, q⟩ := h
 obtain ⟨u, rfl, t, rfl⟩ := vals1 r
 have hn := fw
 exact len_str (by omega) ⟨.int z.length, H, I.tok _, ⟨_, rfl⟩, q⟩
def tyV (K : PySem.W.Frag) (T : String) (x : V) (H : Hp) : Prop := match x with
 | .str _ => T = "str"
 | .int _ => T = "int"
 | .ref p => (T = "list" /\ ∃ xs, SqL K H p xs) \/ (T = "tuple" /\ ∃ o, K.lookup p = some o /\ o.cls = .type "tuple" /\ o.dict = none) \/
   (T = "dict" /\ ((∃ kvs, H p = some (.dK kvs)) \/ ∃ kvs, H p = some (.dT kvs))) \/ (T = "set" /\ ∃ S n, H p = some (.set S n))
 | _ => False
theorem yX {pins : List (Addr × Obj)} {σ : St} {H : Hp} {s : Shared} {T : String} {x : V} {v : Value} (I : Inv X pins σ H s) (r : RelV x v) (ty : tyV X.K T x H) :
  s.TypeIs v T /\ ∀ a, v = .ref a -> ∃ ob, s.heap.get? a = some ob /\ ob.dict = none := by
 cases x with
 | str z =>
  obtain ⟨t, rfl⟩ := r
  cases (show T = "str" from ty)
  exact ⟨typeIs_str s z t, fun _ e => nomatch e⟩
 | int i =>
  obtain ⟨t, rfl⟩ := r
  cases (show T = "int" from ty)
  exact ⟨typeIs_int s i t, fun _ e => nomatch e⟩
 | ref p =>
  cases r
  rcases ty with ⟨rfl, xs, hq⟩ | ⟨rfl, o, hk, hc, hd⟩ | ⟨rfl, hk⟩ | ⟨rfl, S, n, hk⟩
  ·obtain ⟨its, _, pl, _⟩ := I.list hq
   refine ⟨pl.isList.typeIs, fun a e => ?_⟩
   cases e
   obtain ⟨o, n, e, c, hd, _⟩ := pl
   exact ⟨o, e, hd⟩
  ·refine ⟨⟨o, I.kIn p o hk, hc⟩, fun a e => ?_⟩
   cases e
   exact ⟨o, I.kIn _ o hk, hd⟩
  ·have z : ∃ o, s.heap.get? p = some o /\ o.ExactDict := by
    rcases hk with ⟨kvs, hk⟩ | ⟨kvs, hk⟩
    ·obtain ⟨_, _, _, _, o, _, _, e, ex, _⟩ := I.hok p _ hk
     exact ⟨o, e, ex⟩
    ·obtain ⟨_, _, _, _, o, _, _, e, ex, _⟩ := I.hok p _ hk
     exact ⟨o, e, ex⟩
   obtain ⟨o, e, ex⟩ := z
   refine ⟨⟨o, e, ex.1⟩, fun a e2 => ?_⟩
   cases e2
   exact ⟨o, e, ex.2.1⟩
  ·obtain ⟨o, _, _, _, e, ex, _⟩ := I.hok p _ hk
   refine ⟨⟨o, e, ex.1⟩, fun a e2 => ?_⟩
   cases e2
   exact ⟨o, e, ex.2.1⟩
 | _ => exact False.elim ty
def tBM (K : PySem.W.Frag) (T : String) (r : V -> List V -> Hp -> VK -> Prop) (to : TE) (t : TA) : TE := fun σ H Q => to σ H fun x H1 => tyV K T x H1 /\ t σ H1 fun xs H2 => r x xs H2 Q
variable {o e : Expr} {es : List Expr} {to : TE} {t : TA} {name : Str} {apos cpos : Pos} {T id : String} {r : V -> List V -> Hp -> VK -> Prop}
theorem jN (pa : PlainAttrs T) (slot : Slot T name id) (hty : typeOf (.builtin id) = pure (.type "method_descriptor")) (hm : MtR X id r) (ho : PE X o to) (ha : PA X (e :: es) t)
  (hbase : attributeBase o name X.env (eval o X.env) = eval o X.env := by rfl)
  (hfew : ((backTo cpos (starEach (e :: es) X.env)).all (fun x => !x.1) && (backToKw cpos (keywordEach [] X.env)).all (fun x => x.1.isSome)
   && decide ((e :: es).length + ([] : List Keyword).length + (if ([] : List Keyword).isEmpty then 0 else 1) < 30)) = true := by rfl)
  (hline : (apos.endLine == cpos.line) = true := by rfl) (hs : starEach (e :: es) X.env = (false, eval e X.env) :: starEach es X.env := by rfl) (hplain : (backTo cpos (starEach es X.env)).any (·.1) = false := by rfl) :
  PE X (.Call (.Attribute o name apos) (e :: es) [] cpos) (tBM X.K T r to t) := by
 intro pins s σ H Q I h
 refine wpAny_Call_method_late hbase hfew hline rfl (thn (ho pins s σ H _ I h) fun v s1 zr1 => ?_)
 obtain ⟨x, H1, I1, r1, ty, q1⟩ := zr1
 obtain ⟨h1, h2⟩ := yX I1 r1 ty
 refine ⟨T, id, pa, slot, hty, h1, h2, ?_⟩
 have hA := ha cpos pins s1 σ H1 _ I1 q1
 rw [hs] at hA ⊢
 refine Calls.callWith_builtin (by show (false || (backTo cpos (starEach es X.env)).any (·.1)) = false; rw [hplain] <;> rfl) (Calls.evalArgs_plain ?_)
 exact thn hA fun us s2 zt1 => by obtain ⟨vs, H2, I2, r2, q2⟩ := zt1; exact hm pins s2 σ H2 x vs v us Q I2 r1 r2 q2
end
end L2
namespace L2
open PySem PySem.Spec PyProof.Rows
def MtM (X : Cx) (id : String) (r : V -> List V -> Hp -> VK -> Prop) : Prop :=
 ∀ (pins : List (Addr × Obj)) (s : Shared) (σ : St) (H : Hp) (x : V) (xs : List V) (v : Value) (us : List Value) (Q : VK), Inv X pins σ H s -> RelV x v -> Vals xs us -> r x xs H Q ->
  wpAny (model X.prog X.w) X.A (call (.builtin id) (v :: us)) (EP X pins σ Q) X.xe s
theorem Vals.one : ∀ {x : V} {us : List Value}, Vals [x] us -> ∃ u, us = [u] /\ RelV x u := by
 intro x us h
 cases h with
 | cons r h => cases h; exact ⟨_, rfl, r⟩
theorem Vals.rep {xs : List V} {us : List Value} (h : Vals xs us) : ∀ k : Nat, Vals (List.replicate k xs).flatten (List.replicate k us).flatten
 | 0 => .nil
 | k + 1 => by
  rw [List.replicate_succ, List.replicate_succ, List.flatten_cons, List.flatten_cons]
  exact Vals.append h (Vals.rep h k)
theorem foldl_rep (its : List Value) : ∀ (k : Nat) (acc : List Value),
  List.foldl (fun x1 x2 => x1 ++ x2) acc.toArray (List.replicate k its.toArray) = (acc ++ (List.replicate k its).flatten).toArray
 | 0, acc => by simp
 | k + 1, acc => by
  have e : acc.toArray ++ its.toArray = (acc ++ its).toArray := by simp
  have e2 : (acc ++ its) ++ (List.replicate k its).flatten = acc ++ (List.replicate (k + 1) its).flatten := by
   rw [List.replicate_succ, List.flatten_cons, List.append_assoc]
  rw [<- e2, <- foldl_rep its k (acc ++ its), <- e, List.replicate_succ, List.foldl_cons]
section
variable {X : Cx} {pins : List (Addr × Obj)} {σ : St} {H : Hp} {s : Shared} {l b : Addr} {xs ys zs : List V}
theorem Inv.lset {its its' : List Value} {n : Nat} {f : Array Value -> Array Value} {t' : Nat} (I : Inv X pins σ H s) (hH : H l = some (.lst xs))
  (e : s.heap.get? l = some { cls := .type "list", data := .seq its.toArray n }) (hf : f its.toArray = its'.toArray) (hv : Vals ys its') (hz : ys.length <= sizeLine) :
  Inv X pins σ (upd H l (.lst ys)) { s with heap := s.heap.update l (Obj.mapSeq f), toks := t' } := by
 have q := PySem.IsL.update e f
 rw [hf] at q
 refine I.write (x := l) (e := l) (by rw [hH]; exact trivial) (.inl rfl) (fun b' u hb hu => (Heap.get?_update_other s.heap (Obj.mapSeq f) (Ne.symm hb)).trans hu) ⟨_, q⟩ ?_
 exact ⟨hz, its', _, hv, q⟩
theorem Inv.lnew {its : List Value} {t' : Nat} (I : Inv X pins σ H s) (hv : Vals ys its) (hz : ys.length <= sizeLine) :
  Inv X pins σ (upd H s.heap.objs.size (.lst ys)) { s with heap := s.heap.push { cls := .type "list", data := .seq its.toArray }, toks := t' } :=
 I.laid (fun _ _ q => Heap.get?_push_of_some _ q) (Nat.le_refl _) ⟨hz, its, 0, hv, Heap.get?_push_size _ rfl⟩
theorem Inv.fresh (I : Inv X pins σ H s) : H s.heap.objs.size = none := I.hok.fresh (Nat.le_refl _)
theorem Inv.lstM (I : Inv X pins σ H s) (hH : H l = some (.lst xs)) : xs.length <= sizeLine /\ ∃ (its : List Value) (n : Nat), Vals xs its /\ xs.length = its.length /\ s.heap.get? l = some { cls := .type "list", data := .seq its.toArray n } := by
 obtain ⟨z, its, n, r, e⟩ := I.hok l _ hH
 exact ⟨z, its, n, r, r.length, e⟩
theorem qQ {n : Nat} (h : n <= sizeLine) : Builtin.List.listTooLong n = false := by
 unfold Builtin.List.listTooLong
 exact decide_eq_false (by omega)
end
section
variable {X : Cx}
def iq : V -> List V -> Hp -> VK -> Prop := fun x vs H Q => ∃ l xs y, x = .ref l /\ vs = [y] /\ H l = some (.lst xs) /\ xs.length < sizeLine /\ Q .non (upd H l (.lst (xs ++ [y])))
theorem pZ : MtM X "list.append" iq := by
 intro pins s σ H x vs v us Q I rx rv h
 obtain ⟨l, xs, y, rfl, rfl, hH, hz, q⟩ := h
 cases rx
 obtain ⟨u, rfl, ru⟩ := rv.one
 obtain ⟨z, its, n, r, hl, e⟩ := I.lstM hH
 refine call_meets F.slot_list_append ⟨_, e, rfl⟩ F.entry_list_append (F.args_list_append_2 _ _) (PySem.list_append l its.toArray n u (by rw [List.size_toArray]; omega)) ⟨e, ?_⟩
 refine ⟨.non, _, I.lset (its' := its ++ [u]) hH e (by simp) (r.append (.cons ru .nil)) ?_, rfl, q⟩
 rw [List.length_append, List.length_singleton]
 omega
def yY : R2 := fun x y H Q => ∃ l b xs zs, x = .ref l /\ y = .ref b /\ H l = some (.lst xs) /\ H b = some (.lst zs) /\ xs.length + zs.length <= sizeLine /\ ∀ p, H p = none -> Q (.ref p) (upd H p (.lst (xs ++ zs)))
theorem qR : OpR X (binaryOp .Add) yY := by
 intro pins s σ H x y v u Q I rx ry h
 obtain ⟨l, b, xs, zs, rfl, rfl, hH, hB, hz, q⟩ := h
 cases rx
 cases ry
 obtain ⟨z, its, n, r, hl, e⟩ := I.lstM hH
 obtain ⟨z2, its2, n2, r2, hl2, e2⟩ := I.lstM hB
 refine PySem.P.add_list e e2 ?_ (by rw [List.size_toArray, List.size_toArray]; omega)
 have ea : its.toArray ++ its2.toArray = (its ++ its2).toArray := by simp
 rw [ea]
 exact ⟨.ref _, _, I.lnew (t' := s.toks) (r.append r2) (by rw [List.length_append]; omega), rfl, q _ I.fresh⟩
def Bu : R2 := fun x y H Q => ∃ l k xs, x = .ref l /\ y = .int k /\ H l = some (.lst xs) /\ -(2 ^ 63) <= k /\ k < 2 ^ 63 /\ xs.length * k.toNat <= sizeLine /\
 ∀ p, H p = none -> Q (.ref p) (upd H p (.lst (List.replicate k.toNat xs).flatten))
theorem len_rep {α : Type} (xs : List α) (k : Nat) : (List.replicate k xs).flatten.length = k * xs.length := by
 induction k with
 | zero => simp
 | succ k ih => rw [List.replicate_succ, List.flatten_cons, List.length_append, ih, Nat.succ_mul, Nat.add_comm]
theorem yZ : OpR X (binaryOp .Mult) Bu := by
 intro pins s σ H x y v u Q I rx ry h
 obtain ⟨l, k, xs, rfl, rfl, hH, h1, h2, hz, q⟩ := h
 cases rx
 obtain ⟨t, rfl⟩ := ry
 obtain ⟨z, its, n, r, hl, e⟩ := I.lstM hH
 have hlen : its.toArray.size * k.toNat <= sizeLine := by rw [List.size_toArray, <- hl]; exact hz
 have hcap : ¬ its.toArray.size * k.toNat > (2 ^ 63 - 1) / 8 := by
  have : (sizeLine : Nat) <= (2 ^ 63 - 1) / 8 := by decide
  omega
 have hfit : ¬ (!Builtin.List.listFitsIndex k) = true := by
  rw [fitsIndex_both h1 h2]
  exact Bool.false_ne_true
 have hlong : ¬ Builtin.List.listTooLong (its.toArray.size * k.toNat) = true := by
  rw [qQ hlen]
  exact Bool.false_ne_true
 have hnew : List.foldl (fun x1 x2 => x1 ++ x2) #[] (List.replicate (if its.toArray.isEmpty = true then 0 else k.toNat) its.toArray) = (List.replicate k.toNat its).flatten.toArray := by
  have f0 : ∀ m : Nat, List.foldl (fun x1 x2 => x1 ++ x2) #[] (List.replicate m its.toArray) = (List.replicate m its).flatten.toArray := fun m => by
   have := foldl_rep its m []
   rw [List.nil_append] at this
   exact this
  rw [f0]
  cases its with
  | nil => simp
  | cons a r' => rw [if_neg (by simp)]
 refine wpAny_binaryOp_repeat_ref (T := "list") (U := "int") (by decide) ⟨_, e, rfl⟩ (fun s' => typeIs_int s' k t) noFill_list_mul F.fills_int_mul F.slot_int_rmul repeat_list F.slot_int_index.lookup
  (call_meets F.slot_int_rmul (typeIs_int s k t) F.entry_int_rmul (F.args_int_rmul_2 _ _) (int___rmul___int_list k t l its.toArray n)
   ⟨e, rfl, ⟨_, e, rfl⟩, call_meets F.slot_list_mul ⟨_, e, rfl⟩ F.entry_list_mul (F.args_list_mul_2 _ _) (AutoListH.list___mul___list_int_3 l its.toArray n k t hfit hcap hlong) ⟨e, ?_⟩⟩)
 rw [hnew]
 exact ⟨.ref _, _, I.lnew (t' := s.toks) (r.rep k.toNat) (by rw [len_rep, Nat.mul_comm]; exact hz), rfl, q _ I.fresh⟩
end
end L2
namespace Att
open PySem PySem.W PySem.Calls PyProof.Rows
theorem ij {P : Params} {h : Heap} : ∀ (ns : List Int) (vs : List Value), WellAll P h vs (ns.map WData.int) -> IntsAre vs ns := by
 intro ns
 induction ns with
 | nil =>
  intro vs w
  rw [List.map_nil] at w
  cases w
  exact .nil
 | cons n ns ih =>
  intro vs w
  rw [List.map_cons] at w
  cases w with
  | cons a b =>
   cases a
   exact .cons _ _ (ih _ b)
theorem p6 {l : OpenLaw} {n : Nat} (hn : l.most = some n) {P : Params} {h : Heap} {args : List WData} {vals : List Value}
  (hpre : l.row.toRowW.claim.pre args = true) (hwl : WellAll P h vals args) :
  ∃ a vs ns, vals = [Value.ref a] /\ args = [WData.list (ns.map WData.int)] /\ h.get? a = some { cls := .type "list", data := .seq vs.toArray } /\ IntsAre vs ns /\ ns.length <= n := by
 have hsh : WShape.hasAll [] args [.list .int] = true := (pre_splitW hpre).1
 have hc : l.pre.holds [] { args := args } = true := (pre_splitW hpre).2
 obtain ⟨d, r, rfl, h1, h2⟩ := hasAllW_cons hsh
 obtain rfl := hasAllW_nil h2
 obtain ⟨xs, rfl, h3⟩ := hasW_list h1
 obtain ⟨ns, rfl⟩ := items_int h3
 have hlen : ns.length <= n := by
  unfold OpenLaw.pre at hc
  have h4 : (WTm.not (.lt (.lit (.int (n : Int))) (.len (.arg 0)))).holds [] { args := [.list (ns.map .int)] } = true := by
   have h4 := (holds_andW hc).1
   rw [hn] at h4
   exact h4
  have h5 := condW_of h4 (w_not (w_lt w_lit (w_len_list (w_arg rfl))))
  rw [List.length_map] at h5
  refine Nat.le_of_not_lt fun q => ?_
  have q' : (n : Int) < ((ns.length : Nat) : Int) := by omega
  first
   | (rw [decide_eq_true q'] at h5; exact absurd h5 (by decide))
   | (simp at h5; omega)
 cases hwl with
 | cons w1 w2 =>
  cases w2
  cases w1 with
  | list ho hall => exact ⟨_, _, ns, rfl, rfl, ho, ij ns _ hall, hlen⟩
theorem p8 (l : OpenLaw) (args : List WData) : l.row.toRowW.claim.post args (.bool true) args = true :=
 postW_of (r := l.row.toRowW) (X := (true == true))
  (show WShape.has [] (.bool true) .bool = true by first | rfl | decide | simp [WShape.has, WShape.arms, WShape.armsAll])
  (show (WTm.eq .res (.lit (.bool true))).value [] { args := args, res := some (.bool true), after := args } = some (.bool (true == true)) from w_eq_bool (w_res rfl) w_lit) rfl
theorem lO {l : OpenLaw} {n : Nat} {q : Program} {loose : List Str} {XP : (Str -> Option Value) -> Heap -> Prop} {YP : World -> Heap -> Prop} {d : DefRec}
  (hn : l.most = some n) (hdf : d.params.defaults = [])
  (call : ∀ (w : World) (s₀ s₁ : Shared) (mg mb : Str -> Option Value) (fa : Addr) (o : Obj) (pm cd doc : Value) (a : Addr) (vs : List Value) (ns : List Int),
   Ground q loose [] XP w s₀ mg mb s₁.heap -> YP w s₁.heap ->
   s₁.heap.get? fa = some o -> o.data = .func (docDef d.name d.params d.body d.scope pm cd doc) -> s₁.heap.CodeRec cd d.name -> mg d.name = some (.ref fa) ->
   s₁.heap.get? a = some { cls := .type "list", data := .seq vs.toArray } -> IntsAre vs ns -> ns.length <= n -> s₁.gens = #[] ->
   codeAny (model l.prog w) callerA (.call (.ref fa) ⟨[.ref a], []⟩) (fun r s' => r = .ok (.ret (.bool true)) /\ OldK s₁.heap s'.heap /\ s'.os = s₁.os /\ AllBare s'.gens) s₁) :
  WalkO q loose XP YP l.row.toRowW d [] (fun f vs => PySem.call f vs) := by
 intro w s₀ s₁ mg mb G Y fa o pm cd doc dV kV ho hd hcd hD hmg hg args vals as hpre hlay hrd hwl hlo
 obtain rfl : dV = .none := Dflts.none hD hdf
 obtain rfl : kV = .none := Dflts.noKw hD
 obtain ⟨a, vs, ns, rfl, rfl, hobj, hints, hlen⟩ := p6 hn hpre hwl
 refine enter_call (codeAny_mono (call w s₀ s₁ mg mb fa o pm cd doc a vs ns G Y ho (fd_plain hd) hcd hmg hobj hints hlen hg) fun r s' hq => ?_)
 obtain ⟨rfl, h2, h3, h4⟩ := hq
 exact ⟨.inl ⟨.bool true, .bool true, [], rfl, fun _ => rfl, .bool true, p8 l _, fun _ => ⟨List.Pairwise.nil, fun _ hm => (nomatch hm)⟩⟩, h2, h3, h4⟩
end Att
namespace L2
open PySem PySem.Spec PyProof.Rows
theorem jO : ∀ {vs : List Value} {ns : List Int}, IntsAre vs ns -> Vals (ns.map V.int) vs
 | _, _, .nil => .nil
 | _, _, .cons n t h => .cons ⟨t, rfl⟩ (jO h)
def Only (H : Hp) : Prop := ∀ b, H b = none \/ ∃ o xs, H b = some (.frz o (.lst xs))
theorem qS {P : Program} {w : World} {K : PySem.W.Frag} {mg mb : Str -> Option Value} {CX : CXT} {k : Nat} {fa a : Addr} {fd : FuncData} {x : Str} {sp : Sp} {s₁ : Shared} {vs : List Value} {ns : List Int}
  (KX : K.In s₁.heap) (hns : s₁.heap.Ns mainGlobals mg) (hb : s₁.heap.Ns builtinsNs mb) (hbb : ∀ x : Str, x ≠ "__name__" -> mb x = bootBuiltins x) (hlim : s₁.heap.NoLimit) (hg : s₁.gens = #[])
  (ha : s₁.heap.get? a = some { cls := .type "list", data := .seq vs.toArray }) (hi : IntsAre vs ns) (hl : ns.length <= sizeLine) (hr : b7 k callerA)
  (F : ∀ base : Heap, K.In base -> base.Ns mainGlobals mg -> ib P w K mg base CX k fa fd [x] sp) (hbind : ∀ (s : Shared) (u : Value), BindsTo s fd ⟨[u], []⟩ [(x, u)])
  (hsp : ∀ H : Hp, Only H -> SqL K H a (ns.map V.int) -> sp [.ref a] H (fun v _ => v = .bl true) fun _ _ _ => False)
  (hCX : ∀ H e s', CX [] H s₁ (fun _ _ _ => False) e s' -> False) :
  codeAny (model P w) callerA (.call (.ref fa) ⟨[.ref a], []⟩) (fun r s' => r = .ok (.ret (.bool true)) /\ OldK s₁.heap s'.heap /\ s'.os = s₁.os /\ AllBare s'.gens) s₁ := by
 have rv := jO hi
 have lenV := hi.length
 -- from an abstract heap in which nothing but the script may be tracked
 have core : ∀ H : Hp, Only H -> SqL K H a (ns.map V.int) -> HOk P w H s₁.heap -> (∀ b, H b ≠ none -> b = a) -> (H a ≠ none -> K.lookup a = none) ->
   codeAny (model P w) callerA (.call (.ref fa) ⟨[.ref a], []⟩) (fun r s' => r = .ok (.ret (.bool true)) /\ OldK s₁.heap s'.heap /\ s'.os = s₁.os /\ AllBare s'.gens) s₁ := by
  intro H hO hS hok hA hK
  have base_of : ∀ {b : Addr} {o : Obj}, s₁.heap.get? b = some o -> H b = none -> (ka s₁.heap H).get? b = some o := fun e n => qx e n
  have noA : ∀ {b : Addr} {o : Obj} {es : Array DictEntry} {ep : Nat}, s₁.heap.get? b = some o -> o.data = .dict es ep -> H b = none := fun {b o es ep} e d => by
   cases q : H b with
   | none => rfl
   | some u =>
    have e' : b = a := hA b (by rw [q]; simp)
    subst e'
    rw [ha] at e; cases e
    have d' : Data.seq vs.toArray _ = Data.dict es ep := d
    cases d'
  have nsK : ∀ {b : Addr} {m : Str -> Option Value}, s₁.heap.Ns b m -> (ka s₁.heap H).Ns b m := fun {b m} zt1 => by obtain ⟨o, es, ep, e, d, r⟩ := zt1; exact ⟨o, es, ep, base_of e (noA e d), d, r⟩
  have hKb : K.In (ka s₁.heap H) := fun b o e => base_of (KX b o e) (by
   cases q : H b with
   | none => rfl
   | some u =>
    have e' : b = a := hA b (by rw [q]; simp)
    subst e'
    rw [hK (by rw [q]; simp)] at e; cases e)
  have hM : Mod K mg (ka s₁.heap H) := ⟨hKb, nsK hns, ⟨mb, nsK hb, hbb⟩, let ⟨mc, h1, h2⟩ := hlim; ⟨mc, nsK h1, h2⟩⟩
  have e0 : Env0 P w K mg (ka s₁.heap H) callerA [] s₁ H := ⟨rfl, hM, fun b o e => um e, Nat.le_of_eq (pS _ _), trivial, fun b hb => absurd (show b ∈ ([] : List Addr) from hb) (by simp), hok, .of_eq hg⟩
  refine codeAny_mono ((F _ hKb (nsK hns)).run callerA [] s₁ H ⟨[.ref a], []⟩ [.ref a] [.ref a] _ _ hr e0 (hbind s₁ (.ref a)) (.cons rfl .nil) (hsp H hO hS)) fun r s' h => ?_
  cases r with
  | error e => exact (hCX H e s' h).elim
  | ok fl =>
   cases fl with
   | next => exact False.elim h
   | brk => exact False.elim h
   | cont => exact False.elim h
   | ret u =>
    obtain ⟨v, H', os, bare, un, hok', r', q⟩ := h
    have q' : v = .bl true := q
    subst q'
    obtain rfl : u = Value.bool true := r'
    refine ⟨rfl, OldK.of_keep fun b o e => ?_, os, bare⟩
    cases q : H b with
    | none => exact un.keep b o e q (by intro z; exact absurd (show b ∈ ([] : List Addr) from z) (by simp)) (by simp)
    | some u =>
     rcases hO b with z | ⟨ob, xs, z⟩
     ·rw [q] at z; cases z
     ·have z2 := un.frzs b ob _ z
      obtain ⟨e1, _⟩ := hok b _ z
      obtain ⟨e2, _⟩ := hok' b _ z2
      rw [e] at e1; cases e1
      exact e2
 cases hk : K.lookup a with
 | some o =>
  -- the script is one of the module's own objects
  have e := KX a o hk
  rw [ha] at e
  cases e
  refine core (fun _ => none) (fun _ => .inl rfl) (.inr ⟨_, vs.toArray, _, hk, rfl, rfl, rfl, by rw [List.size_toArray, lenV]; exact hl, by simpa using rv⟩) (fun b u z => by have z' : (none : Option HO) = some u := z; cases z') (fun b z => absurd rfl z) fun z => absurd rfl z
 | none =>
  refine core (fun b => if b = a then some (.frz { cls := .type "list", data := .seq vs.toArray } (.lst (ns.map V.int))) else none) (fun b => ?_) (.inl (.inr ⟨{ cls := .type "list", data := .seq vs.toArray }, if_pos rfl⟩)) (fun b u z => ?_) (fun b z => ?_) fun _ => hk
  ·by_cases hb : b = a
   ·exact .inr ⟨_, _, if_pos hb⟩
   ·exact .inl (if_neg hb)
  ·by_cases hb : b = a
   ·have z' := (if_pos hb).symm.trans z
    cases z'
    subst hb
    exact ⟨ha, by rw [List.length_map]; exact hl, vs, _, rv, ha⟩
   ·have z' := (if_neg hb).symm.trans z
    cases z'
  ·by_cases hb : b = a
   ·exact hb
   ·exact absurd (if_neg hb) z
end L2
namespace L2
open PySem PySem.Spec PyProof.Rows
theorem uG {l : PySem.W.OpenLaw} {n k : Nat} {q : Program} {loose : List Str} {XP : (Str -> Option Value) -> Heap -> Prop} {YP : World -> Heap -> Prop} {d : DefRec} {K : Params -> PySem.W.Frag} {CX : World -> CXT} {sp : World -> Sp} {x : Str}
  (hn : l.most = some n) (hn2 : n <= sizeLine) (hdf : d.params.defaults = []) (hr : b7 k callerA)
  (hY : ∀ (w : World) (h : Heap), YP w h -> (K w.params).In h)
  (F : ∀ (w : World) (mg : Str -> Option Value) (fa : Addr) (h : Heap), (K w.params).In h -> h.Ns mainGlobals mg -> mg d.name = some (.ref fa) ->
   ∃ fd : FuncData, (∀ (s : Shared) (u : Value), BindsTo s fd ⟨[u], []⟩ [(x, u)]) /\
    ∀ base : Heap, (K w.params).In base -> base.Ns mainGlobals mg -> ib l.prog w (K w.params) mg base (CX w) k fa fd [x] (sp w))
  (hsp : ∀ (w : World) (H : Hp) (a : Addr) (ns : List Int), ns.length <= n -> Only H -> SqL (K w.params) H a (ns.map V.int) -> sp w [.ref a] H (fun v _ => v = .bl true) fun _ _ _ => False)
  (hCX : ∀ (w : World) (H : Hp) (s : Shared) (e : Value) (s' : Shared), CX w [] H s (fun _ _ _ => False) e s' -> False) :
  PySem.W.WalkO q loose XP YP l.row.toRowW d [] (fun f vs => PySem.call f vs) := by
 refine Att.lO hn hdf fun w s₀ s₁ mg mb fa o pm cd doc a vs ns G Y ho hd hcd hmg hobj hints hlen hg => ?_
 have KX := hY w _ Y
 obtain ⟨fd, hb, hF⟩ := F w mg fa _ KX G.T.g hmg
 exact qS KX G.T.g G.T.b G.T.builtins G.T.nolimit hg hobj hints (Nat.le_trans hlen hn2) hr hF hb (fun H hO hS => hsp w H a ns hlen hO hS) fun H e s' => hCX w H s₁ e s'
end L2
namespace L2
open PySem PySem.Spec PyProof.Rows
def cz (s : Stmt) : Arguments := match s with
 | .FunctionDef _ a _ _ _ _ _ _ _ _ => a
 | _ => { posonlyargs := [], args := [], vararg := none, kwonlyargs := [], kw_defaults := [], kwarg := none, defaults := [] }
def bG (s : Stmt) : List Stmt := match s with
 | .FunctionDef _ _ b _ _ _ _ _ _ _ => b
 | _ => []
def aj (s : Stmt) : Scope := match s with
 | .FunctionDef _ _ _ _ _ _ sc _ _ _ => sc
 | _ => { kind := .function, names := [], isGenerator := false, isCoroutine := false }
abbrev CX0 : CXT := fun _ _ _ _ _ _ => False
abbrev E0 : XK := fun _ _ _ => False
theorem Bv {X : Cx} : m9 CX0 X E0 := fun _ _ _ _ _ _ _ h => h.elim
structure Fun (K : PySem.W.Frag) (x qual : Str) (st : Stmt) (f : Addr) (fd : FuncData) : Prop where
 ex : ∃ (oc : Value) (od : Option Addr) (kV doc pm : Value) (an : Option Addr) (cdv ct : Value) (osl : Array (Option Value)),
  fd = PySem.W.fnOf x qual (cz st) (bG st) (aj st) .none kV doc pm an cdv ct /\ K.lookup f = some ⟨oc, od, .func fd, osl⟩ /\ PySem.W.codeIn K cdv qual = true
 kp : PySem.W.keepIn K (.ref f) = true
section
variable {P : Program} {w : World} {K : PySem.W.Frag} {mg : Str -> Option Value} {base : Heap}
theorem Fun.ok {x qual : Str} {st : Stmt} {f : Addr} {fd : FuncData} {N ps : List Str} {k : Nat} {sp : Sp} (F : Fun K x qual st f fd) (S : aS N ps (aj st)) (len : ∀ vs H Q E, sp vs H Q E -> vs.length = ps.length)
  (hbody : ∀ (cdv : Value) (A : Around) (outer : List Env) (s : Shared) (H : Hp) (vs : List V) (Q : VK) (E : XK), b7 k (A.deeper (envOfC qual (aj st) s.heap.objs.size f cdv)) -> sp vs H Q E ->
   ∃ t, PSs (ig CX0 P w K mg base N qual (aj st) f cdv A outer s H E).nox (bG st) t /\ t { nx := fun _ H' => Q .non H', rt := Q } (start N vs) H) : ib P w K mg base CX0 (k + 1) f fd ps sp := by
 obtain ⟨oc, od, kV, doc, pm, an, cdv, ct, osl, rfl, lk, hcd⟩ := F.ex
 refine xp lk hcd S len fun A outer s H vs Q E hr hsp => ?_
 obtain ⟨t, h, q⟩ := hbody cdv A outer s H vs Q E hr hsp
 exact ⟨t, h.nox, q⟩
theorem Fun.binds {x qual : Str} {st : Stmt} {f : Addr} {fd : FuncData} {ps : List Str} (F : Fun K x qual st f fd)
  (h : ∀ (kV doc pm : Value) (an : Option Addr) (cdv ct : Value) (us : List Value), us.length = ps.length -> bindArgs (PySem.W.fnOf x qual (cz st) (bG st) (aj st) .none kV doc pm an cdv ct) ⟨us, []⟩ = pure (ps.zip us)) : Binds K fd ps [] := by
 obtain ⟨oc, od, kV, doc, pm, an, cdv, ct, osl, rfl, lk, hcd⟩ := F.ex
 exact .all (h kV doc pm an cdv ct)
theorem y8 {x qual : Str} {st : Stmt} {f : Addr} {oc : Value} {od an : Option Addr} {osl : Array (Option Value)} {kV doc pm cdv ct : Value} (l : K.lookup f = some ⟨oc, od, .func (PySem.W.fnOf x qual (cz st) (bG st) (aj st) .none kV doc pm an cdv ct), osl⟩)
  (c : PySem.W.codeIn K cdv qual = true) (k : PySem.W.keepIn K (.ref f) = true) : Fun K x qual st f (PySem.W.fnOf x qual (cz st) (bG st) (aj st) .none kV doc pm an cdv ct) := ⟨⟨oc, od, kV, doc, pm, an, cdv, ct, osl, rfl, l, c⟩, k⟩
end
section
variable {X : Cx}
theorem pv (i : Nat) {x : Str} {pos : Pos} (hN : X.N[i]? = some x := by rfl) (hv : Vis X.env.scope x := by first | exact Or.inl rfl | exact Or.inr (Or.inl rfl) | exact Or.inr (Or.inr rfl)) (hd : (x == ("__debug__" : Str)) = false := by decide)
  (hcd : (x == ("__classdict__" : Str)) = false := by decide) : PE X (.Name x pos) (cS i) := mZ hN hv hd hcd
end
end L2
section
namespace L2
open PySem PySem.Spec PyProof.Rows
theorem kr : bootBuiltins "int" = some (.type "int") := by decide +kernel
theorem uH : bootBuiltins "bool" = some (.type "bool") := by decide +kernel
theorem oy : bootBuiltins "list" = some (.type "list") := by decide +kernel
theorem qT : bootBuiltins "tuple" = some (.type "tuple") := by decide +kernel
theorem bH : bootBuiltins "len" = some (.builtin "len") := by decide +kernel
theorem ku : bootBuiltins "abs" = some (.builtin "abs") := by decide +kernel
theorem aZ : bootBuiltins "isinstance" = some (.builtin "isinstance") := by decide +kernel
def Has (P : Program) (w : World) (K : PySem.W.Frag) (mg : Str -> Option Value) (base : Heap) (k : Nat) (x : Str) (ps : List Str) (sp : Sp) : Prop :=
 ∃ (f : Addr) (fd : FuncData), ib P w K mg base CX0 k f fd ps sp /\ mg x = some (.ref f) /\ PySem.W.keepIn K (.ref f) = true /\ Binds K fd ps [] /\ ∃ (oc : Value) (od : Option Addr) (osl : Array (Option Value)), K.lookup f = some ⟨oc, od, .func fd, osl⟩
theorem qU {X : Cx} {j k : Nat} {x : Str} {ps : List Str} {sp : Sp} {e : Expr} {es : List Expr} {t : TA} {p pos : Pos} (E : Has X.prog X.w X.K X.mg X.base k x ps sp) (hr : b7 j X.A) (ha : PA X (e :: es) t)
  (hk : k <= j := by decide) (hg : Gl X x := by rfl) (hdb : (x == ("__debug__" : Str)) = false := by decide) (he : starEach (e :: es) X.env = (false, eval e X.env) :: starEach es X.env := by rfl)
  (hpl : (backTo pos (starEach es X.env)).any (·.1) = false := by rfl) : PE X (.Call (.Name x p) (e :: es) [] pos) (jI sp [] E0 t) := by
 obtain ⟨f, fd, F, hm, kp, hb, _⟩ := E
 exact ot F (hr.mono hk) hg hm kp hb .nil Bv ha hdb he hpl
def Src (K : PySem.W.Frag) (mg : Str -> Option Value) (x : Str) (st : Stmt) : Prop := ∃ (f : Addr) (fd : FuncData), Fun K x x st f fd /\ mg x = some (.ref f)
theorem Src.has {P : Program} {w : World} {K : PySem.W.Frag} {mg : Str -> Option Value} {base : Heap} {x : Str} {st : Stmt} {N ps : List Str} {k : Nat} {sp : Sp} (S : Src K mg x st) (sc : aS N ps (aj st))
  (hb : ∀ (kV doc pm : Value) (an : Option Addr) (cdv ct : Value) (us : List Value), us.length = ps.length -> bindArgs (PySem.W.fnOf x x (cz st) (bG st) (aj st) .none kV doc pm an cdv ct) ⟨us, []⟩ = pure (ps.zip us))
  (len : ∀ vs H Q E, sp vs H Q E -> vs.length = ps.length)
  (hbody : ∀ (f : Addr) (cdv : Value) (A : Around) (outer : List Env) (s : Shared) (H : Hp) (vs : List V) (Q : VK) (E : XK), b7 k (A.deeper (envOfC x (aj st) s.heap.objs.size f cdv)) -> sp vs H Q E ->
   ∃ t, PSs (ig CX0 P w K mg base N x (aj st) f cdv A outer s H E).nox (bG st) t /\ t { nx := fun _ H' => Q .non H', rt := Q } (start N vs) H) : Has P w K mg base (k + 1) x ps sp := by
 obtain ⟨f, fd, F, hm⟩ := S
 exact ⟨f, fd, F.ok sc len fun cdv A outer s H vs Q E hr h => hbody f cdv A outer s H vs Q E hr h, hm, F.kp, F.binds hb, by obtain ⟨oc, od, kV, doc, pm, an, cdv, ct, osl, _, lk, _⟩ := F.ex; exact ⟨oc, od, osl, lk⟩⟩
theorem bw {K : PySem.W.Frag} {h : Heap} {mg : Str -> Option Value} {x : Str} {st : Stmt} {f : Addr} {oc : Value} {od an : Option Addr} {osl : Array (Option Value)} {kV doc pm cdv ct : Value} (X : K.In h) (G : h.Ns mainGlobals mg)
  (a : PySem.W.nsIn K mainGlobals x = some (some (.ref f))) (l : K.lookup f = some ⟨oc, od, .func (PySem.W.fnOf x x (cz st) (bG st) (aj st) .none kV doc pm an cdv ct), osl⟩)
  (c : PySem.W.codeIn K cdv x = true) (k : PySem.W.keepIn K (.ref f) = true) : Src K mg x st := ⟨f, _, y8 l c k, PySem.W.mg_of X G a⟩
theorem uI {P : Program} {w : World} {K : PySem.W.Frag} {mg : Str -> Option Value} {k : Nat} {st : Stmt} {fa : Addr} {x : Str} {sp : Sp} (S : Src K mg "law" st) (hfa : mg "law" = some (.ref fa))
  (hb : ∀ (kV doc pm : Value) (an : Option Addr) (cdv ct : Value) (v : Value), bindArgs (PySem.W.fnOf "law" "law" (cz st) (bG st) (aj st) .none kV doc pm an cdv ct) ⟨[v], []⟩ = pure [(x, v)])
  (all : ∀ base : Heap, Has P w K mg base k "law" [x] sp) :
  ∃ fd : FuncData, (∀ (s : Shared) (v : Value), BindsTo s fd ⟨[v], []⟩ [(x, v)]) /\ ∀ base : Heap, K.In base -> base.Ns mainGlobals mg -> ib P w K mg base CX0 k fa fd [x] sp := by
 obtain ⟨f, fd, F, hm⟩ := S
 have e := hfa.symm.trans hm
 cases e
 obtain ⟨oc, od, kV, doc, pm, an, cdv, ct, osl, rfl, lk, _⟩ := F.ex
 refine ⟨_, fun s v => .of_eq (hb kV doc pm an cdv ct v), fun base _ _ => ?_⟩
 obtain ⟨f', fd', G', hm', _, _, oc', od', osl', lk'⟩ := all base
 have e := hm.symm.trans hm'
 cases e
 rw [lk] at lk'
 injection lk' with e1
 injection e1 with _ _ e2 _
 injection e2 with e3
 rw [e3]
 exact G'
def tH (ms : List Int) : Int := reduceHash (Builtin.Tuple.tupleHashOf (ms.map hashInt))
def DW (x : List Int × Addr × Value) : DictEntry := ⟨tH x.1, .ref x.2.1, x.2.2⟩
abbrev EV : List (List Int × Addr × V) -> List (List Int × Addr × Value) -> Prop := Paired fun p q => p.1 = q.1 /\ p.2.1 = q.2.1 /\ RelV p.2.2 q.2.2
def nj (a : Addr) (es : List (List Int × Addr × V)) (h : Heap) : Prop :=
 es.length <= sizeLine /\ (a == sysModules) = false /\ (es.map (·.1)).Nodup /\ ∃ xs, EV es xs /\ ∃ o ds ep, h.get? a = some o /\ o.ExactDict /\ o.data = .dict ds ep /\ ds.toList = xs.map DW
def kx (a : Addr) (ob : Obj) (es : List (List Int × Addr × V)) : HO := .ext fun h => nj a es h /\ h.get? a = some ob
theorem nj.ok {P : Program} {w : World} {H : Hp} {h : Heap} {a : Addr} {ob : Obj} {es : List (List Int × Addr × V)} (d : nj a es h) (q : h.get? a = some ob) : bu P w H h a (kx a ob es) :=
 ⟨⟨d, q⟩, ⟨ob, q⟩, fun _ _ zt1 k => by obtain ⟨⟨z, m, nd, xs, ev, o, ds, ep, e, r⟩, q⟩ := zt1; exact ⟨⟨z, m, nd, xs, ev, o, ds, ep, k o e, r⟩, k ob q⟩⟩
theorem uJ {X : Cx} {pins : List (Addr × Obj)} {σ : St} {H : Hp} {s : Shared} {a : Addr} {ob : Obj} {es : List (List Int × Addr × V)} (I : Inv X pins σ H s) (e : H a = some (kx a ob es)) : nj a es s.heap /\ s.heap.get? a = some ob :=
 (show bu X.prog X.w H s.heap a (.ext fun h => nj a es h /\ h.get? a = some ob) from I.hok a _ e).1
theorem uK {X : Cx} {pins : List (Addr × Obj)} {σ : St} {H : Hp} {s : Shared} {a : Addr} {ob : Obj} {es : List (List Int × Addr × V)} (I : Inv X pins σ H s) (e : H a = some (kx a ob es)) : nj a es s.heap := (uJ I e).1
inductive TyO (K : PySem.W.Frag) (H : Hp) : V -> String -> Prop where
 | non : TyO K H .non "NoneType"
 | bl (x : Bool) : TyO K H (.bl x) "bool"
 | int (i : Int) : TyO K H (.int i) "int"
 | str (x : Str) : TyO K H (.str x) "str"
 | lst {a : Addr} {xs : List V} (e : SqL K H a xs) : TyO K H (.ref a) "list"
 | tup {a : Addr} {xs : List V} (e : SqT K H a xs) : TyO K H (.ref a) "tuple"
 | dK {a : Addr} {kvs : List (Key × V)} (e : H a = some (.dK kvs)) : TyO K H (.ref a) "dict"
 | dT {a : Addr} {kvs : List (List Key × V)} (e : H a = some (.dT kvs)) : TyO K H (.ref a) "dict"
 | dE {a : Addr} {ob : Obj} {es : List (List Int × Addr × V)} (e : H a = some (kx a ob es)) : TyO K H (.ref a) "dict"
def p9 (t c : String) : Option Bool := PySem.W.kitOne [] (.type t) (.type c)
theorem qV {K : PySem.W.Frag} {t c : String} : PySem.W.kitOne K (.type t) (.type c) = p9 t c := rfl
theorem ky : p9 "int" "int" = some true := by decide +kernel
theorem jG : p9 "int" "bool" = some false := by decide +kernel
def y9 (K : PySem.W.Frag) : List V -> Hp -> VK -> Prop := fun xs H Q => ∃ x t c b, xs = [x, .ty c] /\ TyO K H x t /\ p9 t c = some b /\ Q (.bl b) H
theorem qW {X : Cx} : cE X (.builtin "isinstance") (y9 X.K) := by
 intro pins s σ H xs us Q I r h
 obtain ⟨x, t, c, b, rfl, ty, e, q⟩ := h
 obtain ⟨u, w', rfl, rx, rc⟩ := vals2 r
 obtain rfl : w' = Value.type c := rc
 have e' : PySem.W.kitOne X.K (.type t) (.type c) = some b := by rw [qV]; exact e
 have fin : ∀ tk, EP X pins σ Q (.bool b) { s with toks := tk } := fun tk => ⟨.bl b, H, I.tok tk, rfl, q⟩
 cases ty with
 | non => exact cR I rx (.non) e' fin
 | bl y => exact cR I rx (.bl y) e' fin
 | int i => exact cR I rx (.int i) e' fin
 | str y => exact cR I rx (.str y) e' fin
 | dK ea => exact cR I rx (.dK ea) e' fin
 | dT ea => exact cR I rx (.dT ea) e' fin
 | @dE a ob es ea =>
  cases rx
  obtain ⟨_, _, _, _, _, o, _, _, h1, h2, _⟩ := uK I ea
  exact PySem.W.kia_one PySem.W.kitx_dict I.kIn ⟨o, h1, h2.1⟩ e' (fun z => nomatch z) fin
 | lst ea =>
  cases rx
  obtain ⟨its, _, pl, _⟩ := I.list ea
  obtain ⟨o, h1, h2, _⟩ := pl.isList
  exact PySem.W.kia_one PySem.W.kitx_list I.kIn ⟨o, h1, h2⟩ e' (fun z => nomatch z) fin
 | tup ea =>
  cases rx
  obtain ⟨its, _, p, _⟩ := I.tuple ea
  obtain ⟨o, h1, h2, _⟩ := p
  exact PySem.W.kia_one PySem.W.kitx_tuple I.kIn ⟨o, h1, h2⟩ e' (fun z => nomatch z) fin
section
variable {X : Cx}
def ik (K : PySem.W.Frag) (H : Hp) (ps : List Addr) (mss : List (List Int)) : Prop := Paired (fun p ms => SqT K H p (List.map V.int ms)) ps mss
end
end L2
end
variable {H : L2.Hp} {vs : List L2.V} {es : List (List Int × PySem.Addr × L2.V)} {σ : L2.St} {pins : List (PySem.Addr × PySem.Obj)} {ix : List Nat} {v : L2.V} {K : PySem.W.Frag} {ns : List Int} {ms : List Int} {mss : List (List Int)} {tg : List PySem.Str} {cs : List PySem.Str} {bo : List Int}
section
namespace L2
open PySem PySem.Spec PyProof.Rows
def b6 (env : Env) : List (Str × NameKind) -> List (Str × Addr) -> List (Str × Addr)
 | [], acc => acc
 | (n, k) :: r, acc => b6 env r (if (k == NameKind.free) = true then (match env.cells.lookup n with | some c => (n, c) :: acc | none => acc) else acc)
theorem eG {env : Env} : ∀ {l : List (Str × NameKind)} {acc : List (Str × Addr)} {n : Str} {c : Addr}, (n, c) ∈ b6 env l acc -> (n, c) ∈ acc \/ env.cells.lookup n = some c
 | [], _, _, _, h => .inl h
 | (m, k) :: r, acc, n, c, h => by
  unfold b6 at h
  rcases eG h with h | h
  ·split at h
   ·split at h
    ·rename_i c' e
     rcases List.mem_cons.mp h with h | h
     ·cases h; exact .inr e
     ·exact .inl h
    ·exact .inl h
   ·exact .inl h
  ·exact .inr h
theorem jP {env : Env} : ∀ {l : List (Str × NameKind)} {acc : List (Str × Addr)} {p : Str × Addr}, p ∈ acc -> p ∈ b6 env l acc
 | [], _, _, h => h
 | (m, k) :: r, acc, p, h => by
  unfold b6
  refine jP ?_
  split
  ·split
   ·exact List.mem_cons_of_mem _ h
   ·exact h
  ·exact h
theorem lP {env : Env} : ∀ {l : List (Str × NameKind)} {acc : List (Str × Addr)} {n : Str} {c : Addr}, (n, NameKind.free) ∈ l -> env.cells.lookup n = some c -> (n, c) ∈ b6 env l acc
 | (m, k) :: r, acc, n, c, h, e => by
  unfold b6
  rcases List.mem_cons.mp h with h | h
  ·cases h
   refine jP ?_
   rw [if_pos (show (NameKind.free == NameKind.free) = true from rfl), e]
   exact List.mem_cons_self
  ·exact lP h e
theorem cellOf_eq {env : Env} {n : Str} {c : Addr} (h : env.cells.lookup n = some c) : cellOf env n = pure c := by
 unfold cellOf
 rw [h]
theorem fx {env : Env} {scope : Scope} (h : ∀ n, (n, NameKind.free) ∈ scope.names -> ∃ c, env.cells.lookup n = some c) : closureFor scope env = pure (b6 env scope.names []) := by
 have all : ∀ (l : List (Str × NameKind)) (acc : List (Str × Addr)), (∀ n, (n, NameKind.free) ∈ l -> ∃ c, env.cells.lookup n = some c) ->
   (forIn l acc fun (x : Str × NameKind) (cs : List (Str × Addr)) => (if (x.2 == NameKind.free) = true then (do let c <- cellOf env x.1; pure (ForInStep.yield ((x.1, c) :: cs))) else pure (ForInStep.yield cs) : Sem (ForInStep (List (Str × Addr))))) = pure (b6 env l acc) := by
  intro l
  induction l with
  | nil => intro acc _; rfl
  | cons x r ih =>
   intro acc hl
   obtain ⟨n, k⟩ := x
   rw [List.forIn_cons]
   unfold b6
   cases hk : (k == NameKind.free) with
   | true =>
    have hk' : k = NameKind.free := by simpa using hk
    subst hk'
    obtain ⟨c, e⟩ := hl n List.mem_cons_self
    simp only [if_true, cellOf_eq e, pure_bind, e]
    exact ih _ fun m hm => hl m (List.mem_cons_of_mem _ hm)
   | false =>
    simp only [Bool.false_eq_true, if_false, pure_bind]
    exact ih _ fun m hm => hl m (List.mem_cons_of_mem _ hm)
 have q := all scope.names [] h
 unfold closureFor
 first
  | (simp only [bind_pure_comp, map_pure] at q ⊢; rw [q]; rfl)
  | (rw [q]; rfl)
  | exact q
def aq (X : Cx) (scope : Scope) (N : List Str) (C : Addr) (fp : List Addr) (s₀ : Shared) (H₀ : Hp) : Cx :=
 { X with N := N, s₀ := s₀, H₀ := H₀, env := compEnvC scope (b6 X.env scope.names []) C X.env, outer := X.stack, stack := X.stack, ex := fp, fn := fun _ => false, pn := [], xe := fun _ _ => False }
def capt (n : Nat) (ix : List Nat) (σ : St) : St := List.replicate n none ++ ix.map fun i => (σ[i]?).getD none
structure bt (X : Cx) (scope : Scope) (tg cs : List Str) (ix : List Nat) : Prop where
 kind : scope.kind = .function
 nocell : ∀ y ∈ scope.names, y.2 ≠ .cell
 names : ∀ y ∈ scope.names, y.2 = .local -> scope.names.lookup y.1 = some .local
 nd : (tg ++ cs).Nodup
 at_ : ix.map (fun i => X.N[i]?) = cs.map some
 free : ∀ x ∈ cs, (x, NameKind.free) ∈ scope.names /\ scope.names.lookup x = some .free
 out : ∀ x, (x, NameKind.free) ∈ scope.names -> X.env.scope.names.lookup x = some .cell \/ X.env.scope.names.lookup x = some .free
theorem fK {f : Str × NameKind -> Str × NameKind} (hf : ∀ p, (f p).1 = p.1) : ∀ (names : List (Str × NameKind)) (x : Str), (names.map f).lookup x = (names.lookup x).map fun k => (f (x, k)).2
 | [], _ => rfl
 | p :: r, x => by
  have e : f p = (p.1, (f p).2) := by rw [<- hf p]
  rw [List.map_cons, e, List.lookup_cons, List.lookup_cons, fK hf r x]
  cases q : x == p.1 with
  | false => rfl
  | true =>
   have z : x = p.1 := by simpa using q
   subst z
   rfl
def freed (env : Env) (p : Str × NameKind) : Bool := p.2 == NameKind.free && env.scope.kind == .function && env.kindOf p.1 == some .cell
theorem fL {env : Env} {names : List (Str × NameKind)} {x : Str} :
  (names.map fun (n, k) => if (k == NameKind.free && env.scope.kind == .function && env.kindOf n == some .cell) then (n, NameKind.cell) else (n, k)).lookup x = (names.lookup x).map fun k => if freed env (x, k) = true then .cell else k := by
 refine (fK (fun p => ?_) names x).trans ?_
 ·dsimp only
  split <;> rfl
 ·congr 1
  funext k
  unfold freed
  dsimp only
  split <;> rfl
theorem cO {env : Env} {names : List (Str × NameKind)} {x : Str} {k : NameKind}
  (h : (names.map fun (n, k) => if (k == NameKind.free && env.scope.kind == .function && env.kindOf n == some .cell) then (n, NameKind.cell) else (n, k)).lookup x = some k) (hk : k = .cell \/ k = .free) (nc : ∀ y ∈ names, y.2 ≠ .cell) : (x, NameKind.free) ∈ names := by
 rw [fL] at h
 cases q : names.lookup x with
 | none => rw [q] at h; cases h
 | some k0 =>
  have hm := PySem.mem_of_lookup q
  suffices z : k0 = .free by rw [<- z]; exact hm
  rw [q] at h
  by_cases c : freed env (x, k0) = true
  ·unfold freed at c
   simp only [Bool.and_eq_true, beq_iff_eq] at c
   exact c.1.1
  ·have h2 : k0 = k := by simpa [c] using h
   rcases hk with e | e
   ·exact absurd (h2.trans e) (nc _ hm)
   ·exact h2.trans e
theorem ff {env : Env} {names : List (Str × NameKind)} {x : Str} (h : names.lookup x = some .free) :
  (names.map fun (n, k) => if (k == NameKind.free && env.scope.kind == .function && env.kindOf n == some .cell) then (n, NameKind.cell) else (n, k)).lookup x = some .cell \/
  (names.map fun (n, k) => if (k == NameKind.free && env.scope.kind == .function && env.kindOf n == some .cell) then (n, NameKind.cell) else (n, k)).lookup x = some .free := by
 rw [fL, h]
 by_cases c : freed env (x, .free) = true
 ·exact .inl (by simp [c])
 ·exact .inr (by simp [c])
section
variable {X : Cx} {pins : List (Addr × Obj)} {σ : St} {H H1 : Hp} {s : Shared}
theorem Inv.track {D : Addr} {o : HO} (I : Inv X pins σ H s) (hn : H D = none) (hs : X.s₀.heap.objs.size <= D) (hL : D ≠ X.env.locals) (hc : ∀ x c, X.env.cells.lookup x = some c -> c ≠ D) (hp : ∀ p ∈ X.pn ++ pins, p.1 ≠ D)
  (new : bu X.prog X.w (upd H D o) s.heap D o) : Inv X pins σ (upd H D o) s := by
 have nb : ∀ b ob, X.s₀.heap.get? b = some ob -> b ≠ D := fun b ob e z => by subst z; exact absurd (Nat.lt_of_lt_of_le (Heap.lt_size e) hs) (Nat.lt_irrefl _)
 refine ⟨I.ok, I.os, I.bare, ⟨I.base.keep, I.base.slot, fun b ob e n hx => ?_, I.base.there, fun b xs e => ?_, fun b ob u e => ?_, fun b ps e => ?_⟩, I.loc, I.cell, ?_, fun x c e => ?_, fun p hpp => ?_, fun b u e => ?_, I.len⟩
 ·rw [aC (nb b ob e)]; exact I.base.free b ob e n hx
 ·have q := I.base.tups b xs e
  rw [aC (aX q hn)]; exact q
 ·have q := I.base.frzs b ob u e
  rw [aC (aX q hn)]; exact q
 ·obtain ⟨more, q⟩ := I.base.tbls b ps e
  exact ⟨more, by rw [aC (aX q hn)]; exact q⟩
 ·rw [aC hL.symm]; exact I.free
 ·rw [aC (hc x c e)]; exact I.freeC x c e
 ·obtain ⟨a, b, c, d, e⟩ := I.pin p hpp
  exact ⟨a, by rw [aC (hp p hpp)]; exact b, c, d, e⟩
 ·by_cases hb : b = D
  ·subst hb; rw [aG] at e; cases e; exact new
  ·rw [aC hb] at e
   exact (I.hok b u e).stay (fun _ _ _ q => q) (fun c q => by rw [aC (aX q hn)]; exact q) fun c xs q => by rw [aC (aX q hn)]; exact q
theorem dI {X : Cx} {tg cs : List Str} (hat : ix.map (fun i => X.N[i]?) = cs.map some) {i : Nat} {x : Str} (h1 : (tg ++ cs)[i]? = some x) (h2 : (capt tg.length ix σ)[i]? = some (some v)) :
  x ∈ cs /\ ∃ k : Nat, X.N[k]? = some x /\ σ[k]? = some (some v) := by
 unfold capt at h2
 by_cases hi : i < tg.length
 ·rw [List.getElem?_append_left (by simpa using hi), List.getElem?_replicate, if_pos hi] at h2
  cases h2
 ·rw [List.getElem?_append_right (by simpa using hi), List.length_replicate, List.getElem?_map] at h2
  rw [List.getElem?_append_right (by lia)] at h1
  cases e : ix[i - tg.length]? with
  | none => rw [e] at h2; cases h2
  | some k =>
   rw [e] at h2
   have h2 : (σ[k]?).getD none = some v := Option.some.inj h2
   have q := congrArg (fun l => l[i - tg.length]?) hat
   simp only [List.getElem?_map, e, h1, Option.map_some] at q
   refine ⟨List.mem_of_getElem? h1, k, Option.some.inj q, ?_⟩
   cases z : σ[k]? with
   | none => rw [z] at h2; cases h2
   | some y => rw [z] at h2; exact congrArg some h2
end
def PTs (X : Cx) (ifs : List Expr) (t : TT) : Prop :=
 ∀ (pins : List (Addr × Obj)) (s : Shared) (σ : St) (H : Hp) (Q : Bool -> Hp -> Prop), Inv X pins σ H s -> t σ H Q ->
  wpAny (model X.prog X.w) X.A (forIn ifs true fun c r => if r = true then do let ok <- isTrue c X.env (eval c X.env); pure (ForInStep.yield ok) else pure (ForInStep.yield r)) (TP X pins σ Q) X.xe s
def oz : TT := fun _ H Q => Q true H
theorem oA {X : Cx} : PTs X [] oz := fun _ _ _ H _ I h => wpAny_tests_nil ⟨H, I, h⟩
theorem uL {X : Cx} {c : Expr} {t : TT} (h : PT X c t) : PTs X [c] t := fun pins s σ H Q I hw => wpAny_tests_one (h pins s σ H Q I hw)
def dU (n : Nat) (ix : List Nat) (g : TG) : Prop := ∀ x σ H Q, g x (capt n ix σ) H Q -> g x (capt n ix σ) H fun σ2 H2 => (σ2.length = (capt n ix σ).length /\ ∀ (i : Nat) (v : V), (capt n ix σ)[i]? = some (some v) -> σ2[i]? = some (some v)) /\ Q σ2 H2
theorem eV {n : Nat} {j : Nat} (h : j < n) (e : (capt n ix σ)[j]? = some (some v)) : False := by
 unfold capt at e
 rw [List.getElem?_append_left (by simpa using h), List.getElem?_replicate, if_pos h] at e
 cases e
theorem aN {n : Nat} {j : Nat} (h : j < n) : dU n ix (bL j) := fun x σ H Q q => ⟨⟨by simp, fun i v e => by
 by_cases hi : j = i
 ·subst hi; exact (eV h e).elim
 ·rw [List.getElem?_set_ne hi]; exact e⟩, q⟩
theorem gG {n : Nat} {m j k : Nat} (h : j < n) (h' : k < n) : dU n ix (yJ K m (n9 (bL j) (n9 (bL k) yI))) := fun x σ H Q q => by
 obtain ⟨a, xs, e1, hq, hl, v, r, e2, v', r', e3, e4, q⟩ := q
 refine ⟨a, xs, e1, hq, hl, v, r, e2, v', r', e3, e4, ⟨by simp, fun i v e => ?_⟩, q⟩
 by_cases hi : j = i
 ·subst hi; exact (eV h e).elim
 ·by_cases hk : k = i
  ·subst hk; exact (eV h' e).elim
  ·rw [List.getElem?_set_ne hk, List.getElem?_set_ne hi]; exact e
def iK (wi : TI) (n : Nat) (ix : List Nat) (g : TG) (tc : TT) (te : TE) : TE := fun σ H Q => wi σ H fun J H1 => ∃ W : Nat -> Nat -> List V -> Hp -> Prop, (∃ m, W 0 m [] H1) /\ ∀ i m ys H2, W i m ys H2 ->
 (J.stop i H2 /\ ys.length <= sizeLine /\ ∀ D, H2 D = none -> Q (.ref D) (upd H2 D (.lst ys))) \/
 (J.go i H2 /\ ys.length < sizeLine /\ ∃ Nx : List V -> Hp -> Prop, (∀ ys' H', Nx ys' H' -> ∃ m', m' < m /\ W (i + 1) m' ys' H') /\
  ∀ x H3, J.yld i H2 x H3 -> g x (capt n ix σ) H3 fun σ2 H4 => tc σ2 H4 fun b H5 => if b = true then te σ2 H5 fun v H6 => Nx (ys ++ [v]) H6 else Nx ys H5)
section
variable {X : Cx} {pins : List (Addr × Obj)} {σ : St} {H H1 : Hp} {s : Shared}
theorem iL {scope : Scope} {tg cs : List Str} {fp : List Addr} {s4 : Shared} (S : bt X scope tg cs ix) (I : Inv X pins σ H s) (hf : ∀ b ∈ fp, eE X pins H b) (ho : ∀ b ∈ fp, ∃ o, s.heap.get? b = some o) {C : Addr} (hC : s.heap.objs.size <= C)
  (hk : ∀ b o, s.heap.get? b = some o -> s4.heap.get? b = some o) (hns : s4.heap.Ns C fun _ => none) (os : s4.os = s.os) (bare : AllBare s4.gens) (hn : H C = none) :
  Inv (aq X scope (tg ++ cs) C fp s H) [] (capt tg.length ix σ) H s4 := by
 have clX : ∀ x c, (b6 X.env scope.names []).lookup x = some c -> X.env.cells.lookup x = some c := fun x c e => by
  rcases eG (PySem.mem_of_lookup e) with h | h
  ·cases h
  ·exact h
 have hasC : ∀ x, (x, NameKind.free) ∈ scope.names -> ∃ c, (b6 X.env scope.names []).lookup x = some c := fun x hx => by
  obtain ⟨c, e⟩ := I.ok.has x (S.out x hx)
  have m := lP (acc := []) hx e
  cases q : (b6 X.env scope.names []).lookup x with
  | some c' => exact ⟨c', rfl⟩
  | none =>
   have := List.lookup_eq_none_iff.mp q (x, c) m
   simp at this
 refine ⟨⟨I.ok.mod, ?_, I.ok.glob, I.ok.blt, hC, fun x y c e1 e2 => I.ok.inj x y c (clX x c e1) (clX y c e2), fun x hx => ?_, fun x c h => ?_, I.ok.hd, I.ok.frames, .inl rfl, fun b hb => ⟨?_, fun x c e => ?_⟩, I.bs, Nat.le_trans I.ok.bsz I.sz, fun b o e hb => ?_, fun b hb hx => ?_, I.stack, I.stkFree⟩,
  os, bare, Un.kept hk, ⟨_, hns, fun i x v e1 e2 e3 => ?_⟩, fun x c e => ?_, hn, fun x c e => I.freeC x c (clX x c e), fun p hp => (by cases hp), I.hok.kept hk, ?_⟩
 ·show (relabel scope X.env).kind = .function
  exact S.kind
 ·have hx' : (relabel scope X.env).names.lookup x = some .cell \/ (relabel scope X.env).names.lookup x = some .free := hx
  rcases hx' with h | h
  ·exact hasC x (cO h (.inl rfl) S.nocell)
  ·exact hasC x (cO h (.inr rfl) S.nocell)
 ·cases h
 ·obtain ⟨o, e⟩ := ho b hb
  exact Nat.ne_of_lt (Nat.lt_of_lt_of_le (Heap.lt_size e) hC)
 ·exact (hf b hb).2.2.2.2.1 x c (clX x c e)
 ·obtain ⟨_, _, _, h, _⟩ := hf b hb
  rcases h with h | h
  ·exact I.ok.noex b o e h
  ·exact absurd (Nat.lt_of_lt_of_le (Heap.lt_size (I.ok.bs b o e).1) h) (Nat.lt_irrefl _)
 ·have hx : b ∈ frs X.stack := hx
  obtain ⟨_, h1, h2, _⟩ := hf b hb
  rcases List.mem_cons.mp (I.stkSub b hx) with h | h
  ·exact h1 h
  ·exact h2 h
 ·obtain ⟨hx, k, h1, h2⟩ := dI (X := X) S.at_ e1 e2
  obtain ⟨hx1, hx2⟩ := S.free x hx
  obtain ⟨m, hnm, hl⟩ := I.loc
  have ov := S.out x hx1
  obtain ⟨u, r, l⟩ := hl k x v h1 h2 (by rcases ov with z | z; exact .inr (.inl z); exact .inr (.inr z))
  refine ⟨u, r, ?_⟩
  rcases l with ⟨l, _⟩ | ⟨_, c, lc, ic⟩
  ·have l : X.env.scope.names.lookup x = some .local := l
   rcases ov with z | z <;> rw [z] at l <;> cases l
  ·obtain ⟨c', e'⟩ := hasC x hx1
   have := (clX x c' e').symm.trans lc
   cases this
   refine .inr ⟨ff hx2, c, e', ?_⟩
   obtain ⟨o, ho1, ho2⟩ := ic
   exact ⟨o, hk c o ho1, ho2⟩
 ·obtain ⟨v, o, ho1, ho2⟩ := I.cell x c (clX x c e)
  exact ⟨v, o, hk c o ho1, ho2⟩
 ·show (capt tg.length ix σ).length = (tg ++ cs).length
  have := congrArg List.length S.at_
  simp only [List.length_map] at this
  unfold capt
  simp [this]
theorem jQ {use : Option (Value -> Sem Unit)} {Qc : Value -> Shared -> Prop} {pos' : Pos} {elt target iter : Expr} {ifs : List Expr} {scope : Scope} {pos : Pos} {tg cs : List Str} {wi : TI} {g : TG} {tc : TT} {te : TE} (S : bt X scope tg cs ix) (hcalm : X.calm = true) (kg : dU tg.length ix g)
    (hi : PI X target iter wi) (hg : ∀ C fp s H, PG (aq X scope (tg ++ cs) C fp s H) target g) (hc : ∀ C fp s H, PTs (aq X scope (tg ++ cs) C fp s H) ifs tc) (he : ∀ C fp s H, PE (aq X scope (tg ++ cs) C fp s H) elt te)
    (hs : ∀ x, foldedSetIterable iter X.env x = pure x) {pins : List (Addr × Obj)} {s : Shared} {σ : St} {H : Hp} {Q : VK} (I : Inv X pins σ H s) (h : iK wi tg.length ix g tc te σ H Q)
    (fin : ∀ D C H' s' v, Inv X pins σ H' s' -> Q (.ref D) H' -> eE X pins H' C -> (∃ m, s'.heap.Ns C m) -> compPost (model X.prog X.w) X.A X.xe use Qc (.ref D) C (.ok v) s') :
    wpAny (model X.prog X.w) X.A (comprehension (.ListComp elt [⟨target, iter, ifs, 0⟩] scope pos) scope X.env pos' (newList []) false (eval iter X.env) use) Qc X.xe s := by
  refine wpAny_comprehension_free (use := use) (cl := b6 X.env scope.names []) rfl hs (fx fun n hn => I.ok.has n (S.out n hn)) S.kind S.names ?_
  refine wpAny_mono (hi pins s σ H _ I h) (fun v s1 h1 => wpAny_mono h1 (fun itv s2 h2 => ?_) fun _ _ e => e) fun _ _ e => e
  obtain ⟨it, fp, tn, J, H2, rfl, I2, T, st2, f2, W, ⟨m0, w0⟩, turn⟩ := h2
  refine wpAny_newObj_type (wpAny_newFunctionEnv S.nocell (by intro y hy; simp at hy) (fun h1 hns1 hsb1 => ?_) S.kind)
  dsimp only at hns1 hsb1 ⊢
  generalize hP : s2.heap.push { cls := .type "list", dict := none, data := .seq ([] : List Value).toArray } = P2 at hns1 hsb1 ⊢
  have hCs : P2.objs.size = s2.heap.objs.size + 1 := by rw [<- hP, Heap.size_push]
  have hDC : s2.heap.objs.size ≠ P2.objs.size := by rw [hCs]; exact Nat.ne_of_lt (Nat.lt_succ_self _)
  have hCle : s2.heap.objs.size <= P2.objs.size := by rw [hCs]; exact Nat.le_succ _
  generalize hCg : P2.objs.size = C at *
  have old : ∀ b o, s2.heap.get? b = some o -> h1.get? b = some o := fun b o e => hsb1.extBut b o (Nat.ne_of_lt (Nat.lt_of_lt_of_le (Heap.lt_size e) hCle)) (Heap.get?_push_of_some _ (hP ▸ Heap.get?_push_of_some _ e))
  generalize hDg : s2.heap.objs.size = D at *
  have hD0 : h1.get? D = some { cls := .type "list", data := .seq ([] : List Value).toArray 0 } := hsb1.extBut _ _ hDC (Heap.get?_push_of_some _ (hP ▸ hDg ▸ Heap.get?_push_size _ rfl))
  have nC : H2 C = none := I2.hok.fresh (by rw [hDg]; exact hCle)
  have nD : H2 D = none := I2.hok.fresh (by rw [hDg]; exact Nat.le_refl _)
  have fo : ∀ b ∈ fp, ∃ o, s2.heap.get? b = some o := fun b hb => let ⟨o, e, _⟩ := T.obj _ _ st2 b hb; ⟨o, e⟩
  have Dfp : D ∉ fp := fun z => by
    obtain ⟨o, e⟩ := fo D z
    have := Heap.lt_size e
    rw [hDg] at this
    exact absurd this (Nat.lt_irrefl _)
  have Dfs : D ∉ frs X.stack := fun z => by
    rcases List.mem_cons.mp (I2.stkSub D z) with e | e
    · have := I2.lt
      rw [<- e, hDg] at this
      exact absurd this (Nat.lt_irrefl _)
    · exact I2.nofs (by rw [hDg]; exact Nat.le_refl _) e
  have DcY : ∀ x c, (b6 X.env scope.names []).lookup x = some c -> c ≠ D := fun x c e => by
    rcases eG (PySem.mem_of_lookup e) with h | h
    · cases h
    · exact (I2.fpOk (H' := H2) (b := D) (by rw [hDg]; exact Nat.le_refl _) nD).2.2.2.2.1 x c h
  -- the block's context
  have Yok : ∀ s4 : Shared, s4 = { s2 with heap := h1, toks := s2.toks + ([] : List (Str × Value)).length } -> Inv (aq X scope (tg ++ cs) C fp s2 H2) [] (capt tg.length ix σ) H2 s4 := by
    rintro s4 rfl
    exact iL S I2 f2 fo (by rw [hDg]; exact hCle) old (by simpa using hns1) rfl I2.bare nC
  -- the loop
  have loop : ∀ s4 : Shared, s4 = { s2 with heap := h1, toks := s2.toks + ([] : List (Str × Value)).length } ->
      codeAny (model X.prog X.w) X.A (.compLoop (.ListComp elt [⟨target, iter, ifs, 0⟩] scope pos) 0 (.ref it) (.ref D) (compEnvC scope (b6 X.env scope.names []) C X.env)) (compPost (model X.prog X.w) X.A X.xe use Qc (.ref D) C) s4 := by
    intro s4 e4
    refine codeAny_loop rfl (fun n s' => ∃ i ys its k H', Inv (aq X scope (tg ++ cs) C fp s2 H2) [] (capt tg.length ix σ) H' s' /\ tn i s'.heap /\ (∀ b ∈ fp, H' b = none) /\ H' D = none /\ s'.heap.get? D = some { cls := .type "list", data := .seq (its : List Value).toArray k } /\ Vals ys its /\ W i n ys H')
      ?_ m0 ⟨0, [], [], 0, H2, Yok s4 e4, ?_, fun b hb => (f2 b hb).1, nD, by rw [e4]; exact hD0, .nil, w0⟩
    · rintro n s5 ⟨i, ys, its, k, H5, I5, st5, fr5, d5, o5, v5, w5⟩
      show wpAny _ X.A ((compTurn (.ListComp elt [⟨target, iter, ifs, 0⟩] scope pos) 0 (.ref it) (.ref D) (compEnvC scope (b6 X.env scope.names []) C X.env)).onRaise (fun x => do noteFrame x (compEnvC scope (b6 X.env scope.names []) C X.env); theTreesLotGoes x)) _ _ s5
      refine wpAny_noted ?_
      rw [compTurn_list]
      have pin0 : Inv (aq X scope (tg ++ cs) C fp s2 H2) [(D, { cls := .type "list", data := .seq its.toArray k })] (capt tg.length ix σ) H5 s5 := I5.pins_of fun p hp => by
        have e : p = (D, { cls := .type "list", data := .seq its.toArray k }) := by simpa using hp
        subst e
        exact ⟨o5, d5, hDC, Dfs, fun v z => by have z' : Data.seq _ _ = Data.cell v := z; cases z'⟩
      have fpY : ∀ {H' : Hp}, (∀ b ∈ fp, H' b = none) -> ∀ b ∈ fp, eE (aq X scope (tg ++ cs) C fp s2 H2) [(D, { cls := .type "list", data := .seq its.toArray k })] H' b := fun hn b hb =>
        ⟨hn b hb, (I5.ok.exf b hb).1, fun z => I5.ok.exfs b hb z, .inl hb, (I5.ok.exf b hb).2, fun p hp z => by
          have hp : p ∈ ([] : List (Addr × Obj)) ++ [(D, { cls := .type "list", data := .seq its.toArray k })] := hp
          have e : p = (D, { cls := .type "list", data := .seq its.toArray k }) := by simpa using hp
          subst e
          have z : D = b := z
          exact Dfp (z ▸ hb)⟩
      refine wpAny_bind (wpAny_standAt (wpAny_bind ?_))
      rcases turn i n ys H5 w5 with ⟨stop, hz, qn⟩ | ⟨go, hz, Nx, hN, step⟩
      · refine thn (T.done (aq X scope (tg ++ cs) C fp s2 H2) rfl rfl rfl hcalm i _ s5 _ H5 _ pin0 (fpY fr5) st5 stop) fun r s6 zr1 => ?_
        obtain ⟨hr, I6⟩ := zr1
        subst hr
        refine wpAny_pure ?_
        obtain ⟨mC, hnsC, _⟩ := id I6.loc
        have IX : Inv X pins σ H5 s6 := I2.call' (ch := fp) I6.os I6.base I6.hok I6.bare fun b hb => let ⟨_, a1, _, a3, a4, a5⟩ := f2 b hb; ⟨a3, a1, a4, a5⟩
        obtain ⟨_, b1, _, b3, b4, b5⟩ := I2.fpOk (H' := H5) (b := D) (by rw [hDg]; exact Nat.le_refl _) d5
        obtain ⟨_, c1, c2, c3, c4, c5⟩ := I2.fpOk (H' := H5) (b := C) (by rw [hDg]; exact hCle) I6.free
        have gD : s6.heap.get? D = some { cls := .type "list", data := .seq its.toArray k } := (I6.pin (D, { cls := .type "list", data := .seq its.toArray k }) (List.mem_append_right _ List.mem_cons_self)).1
        have IXD : Inv X pins σ (upd H5 D (.lst ys)) s6 := IX.track d5 (by rw [<- hDg]; exact I2.sz) b1 b4 b5 ⟨hz, its, k, v5, gD⟩
        exact fin D C _ s6 _ IXD (qn D d5) ⟨by rw [aC (Ne.symm hDC)]; exact I6.free, c1, c2, c3, c4, c5⟩ ⟨mC, hnsC⟩
      · refine thn (T.item (aq X scope (tg ++ cs) C fp s2 H2) rfl rfl rfl hcalm i _ s5 _ H5 _ pin0 (fpY fr5) st5 go) fun r s6 zr1 => ?_
        obtain ⟨u, hr, h6⟩ := zr1
        subst hr
        refine wpAny_bind (thn h6 fun _ s7 zr1 => ?_)
        obtain ⟨x, H7, I7, r7, y7, st7, fr7⟩ := zr1
        have I7' := I7.pinned (fpY fr7) (T.obj _ _ st7)
        -- the next turn
        have again : ∀ {σ2 : St} {H8 : Hp} {s8 : Shared} {ys' : List V} {its' : List Value} {k' : Nat} , Inv (aq X scope (tg ++ cs) C fp s2 H2) [] σ2 H8 s8 -> (σ2.length = (capt tg.length ix σ).length /\ ∀ (i : Nat) (v : V), (capt tg.length ix σ)[i]? = some (some v) -> σ2[i]? = some (some v)) ->
            (∀ b ∈ fp, ∀ o, s7.heap.get? b = some o -> s8.heap.get? b = some o) -> (∀ b ∈ fp, H8 b = none) -> H8 D = none -> s8.heap.get? D = some { cls := .type "list", data := .seq its'.toArray k' } -> Vals ys' its' -> Nx ys' H8 ->
            ∃ m, m < n /\ ∃ i ys its k H', Inv (aq X scope (tg ++ cs) C fp s2 H2) [] (capt tg.length ix σ) H' s8 /\ tn i s8.heap /\ (∀ b ∈ fp, H' b = none) /\ H' D = none /\ s8.heap.get? D = some { cls := .type "list", data := .seq (its : List Value).toArray k } /\ Vals ys its /\ W i m ys H' := by
          intro σ2 H8 s8 ys' its' k' I8 kp fk fn dn dg vv nx
          obtain ⟨m', hm, w8⟩ := hN ys' H8 nx
          exact ⟨m', hm, i + 1, ys', its', k', H8, I8.weak kp.1.symm kp.2, T.keep _ _ _ st7 fk, fn, dn, dg, vv, w8⟩
        refine wpAny_bind (wpAny_mono (hg C fp s2 H2 _ s7 _ H7 x u _ I7' r7 (kg x σ H7 _ (step x H7 y7))) (fun _ s8 zr1 => ?_) fun _ _ z => z.elim)
        obtain ⟨σ8, H8, I8, kp8, q8⟩ := zr1
        refine wpAny_bind (wpAny_mono (hc C fp s2 H2 _ s8 σ8 H8 _ I8 q8) (fun ok s9 zr1 => ?_) fun _ _ z => z.elim)
        obtain ⟨H9, I9, q9⟩ := zr1
        have pinsOf : ∀ {σ' : St} {H' : Hp} {s' : Shared}, Inv (aq X scope (tg ++ cs) C fp s2 H2) ([(D, { cls := .type "list", data := .seq its.toArray k })] ++ cK fp s7.heap) σ' H' s' ->
            (∀ b ∈ fp, ∀ o, s7.heap.get? b = some o -> s'.heap.get? b = some o) /\ (∀ b ∈ fp, H' b = none) /\ H' D = none /\ s'.heap.get? D = some { cls := .type "list", data := .seq its.toArray k } := by
          intro σ' H' s' I'
          refine ⟨fun b hb o e => (I'.pin (b, o) (List.mem_append_right _ (List.mem_append_right _ (bh hb e)))).1, fun b hb => ?_, (I'.pin (D, { cls := .type "list", data := .seq its.toArray k }) (List.mem_append_right _ (List.mem_append_left _ List.mem_cons_self))).2.1, (I'.pin (D, { cls := .type "list", data := .seq its.toArray k }) (List.mem_append_right _ (List.mem_append_left _ List.mem_cons_self))).1⟩
          obtain ⟨o, e, d⟩ := T.obj _ _ st7 b hb
          exact (I'.pin (b, o) (List.mem_append_right _ (List.mem_append_right _ (bh hb e)))).2.1
        cases ok with
        | false =>
          obtain ⟨p1, p2, p3, p4⟩ := pinsOf I9
          exact wpAny_pure ⟨rfl, again (I9.pins_of fun p hp => nomatch hp) kp8 p1 p2 p3 p4 v5 q9⟩
        | true =>
          have q9 : te σ8 H9 fun v H6 => Nx (ys ++ [v]) H6 := q9
          refine wpAny_bind (wpAny_bind (wpAny_mono (he C fp s2 H2 _ s9 σ8 H9 _ I9 q9) (fun y s10 zr1 => ?_) fun _ _ z => z.elim))
          obtain ⟨v, H10, I10, rv, nx⟩ := zr1
          obtain ⟨p1, p2, p3, p4⟩ := pinsOf I10
          have hl5 := v5.length
          refine wpAny_bind (call_meets F.slot_list_append ⟨_, p4, rfl⟩ F.entry_list_append (F.args_list_append_2 _ _) (PySem.list_append D its.toArray k y (by rw [List.size_toArray]; lia)) ⟨p4, ?_⟩)
          have g10 := PySem.IsL.update p4 (·.push y)
          rw [show its.toArray.push y = (its ++ [y]).toArray by simp] at g10
          have I11 : Inv (aq X scope (tg ++ cs) C fp s2 H2) [] σ8 H10 s10 := I10.pins_of fun p hp => nomatch hp
          have I12 : Inv (aq X scope (tg ++ cs) C fp s2 H2) [] σ8 H10 { s10 with heap := s10.heap.update D (Obj.mapSeq (·.push y)) } :=
            I11.turned (t' := s10.toks) (fun b o hb e => (Heap.get?_update_other s10.heap (Obj.mapSeq (·.push y)) (Ne.symm hb)).trans e) p3 hDC (.inr (by show s2.heap.objs.size <= D; rw [hDg]; exact Nat.le_refl _)) DcY (fun p hp => nomatch hp)
          refine wpAny_pure (wpAny_pure ⟨rfl, again (its' := its ++ [y]) I12 kp8 (fun b hb o e => ?_) p2 p3 g10 (v5.append (.cons rv .nil)) nx⟩)
          exact (Heap.get?_update_other s10.heap (Obj.mapSeq (·.push y)) (fun z : D = b => Dfp (z ▸ hb))).trans (p1 b hb o e)
    · rw [e4]; exact T.keep _ _ _ st2 fun b _ o e => old b o e
  exact codeAny_compStart_list (loop _ rfl) (T.self _ 0 _ _ _ (T.keep _ _ _ st2 fun b _ o e => old b o e) (loop _ rfl))
theorem uM {elt target iter : Expr} {ifs : List Expr} {scope : Scope} {pos : Pos} {tg cs : List Str} {wi : TI} {g : TG} {tc : TT} {te : TE} (S : bt X scope tg cs ix) (hcalm : X.calm = true) (kg : dU tg.length ix g)
  (hi : PI X target iter wi) (hg : ∀ C fp s H, PG (aq X scope (tg ++ cs) C fp s H) target g) (hc : ∀ C fp s H, PTs (aq X scope (tg ++ cs) C fp s H) ifs tc) (he : ∀ C fp s H, PE (aq X scope (tg ++ cs) C fp s H) elt te)
  (hs : ∀ x, foldedSetIterable iter X.env x = pure x := by intro _; rfl) : PE X (.ListComp elt [⟨target, iter, ifs, 0⟩] scope pos) (iK wi tg.length ix g tc te) := by
 intro pins s σ H Q I h
 rw [eval_ListComp]
 refine jQ S hcalm kg hi hg hc he hs I h fun D C H' s' v I' q fp z => ?_
 obtain ⟨f0, c1, _, c3, c4, c5⟩ := fp
 obtain ⟨m, hm⟩ := z
 exact ⟨m, hm, fun h' sb => ⟨.ref D, H', I'.turned (t' := s'.toks) (fun b o hb e => (sb.2 b hb).trans e) f0 c1 c3 c4 c5, rfl, q⟩⟩
end
end L2
end
section
namespace Srt
open PySem PySem.W PyProof.Rows
def run {α : Type} (c : Nat -> Nat -> Bool) : KasT α -> α
 | .ret a => a
 | .ask i j k => run c (k (c i j))
theorem run_bind {α β : Type} (c : Nat -> Nat -> Bool) (f : α -> KasT β) : ∀ t : KasT α, run c (t.bind f) = run c (f (run c t))
 | .ret _ => rfl
 | .ask i j k => run_bind c f (k (c i j))
theorem fM {α : Type} {c : Nat -> Nat -> Bool} {p : Prop} [Decidable p] {a b : KasT α} : run c (if p then a else b) = if p then run c a else run c b := by split <;> rfl
def Ok (n : Nat) {α : Type} : KasT α -> Prop
 | .ret _ => True
 | .ask i j k => i < n /\ j < n /\ ∀ b, Ok n (k b)
def AllA {α : Type} (P : α -> Prop) : KasT α -> Prop
 | .ret a => P a
 | .ask _ _ k => ∀ b, AllA P (k b)
theorem eX {n : Nat} {α β : Type} {f : α -> KasT β} (P : α -> Prop) : ∀ {t : KasT α}, Ok n t -> AllA P t -> (∀ a, P a -> Ok n (f a)) -> Ok n (t.bind f)
 | .ret a, _, h, g => g a h
 | .ask i j k, ⟨h1, h2, h3⟩, h, g => ⟨h1, h2, fun b => eX P (h3 b) (h b) g⟩
theorem all_bind {α β : Type} {f : α -> KasT β} {P : α -> Prop} {R : β -> Prop} : ∀ {t : KasT α}, AllA P t -> (∀ a, P a -> AllA R (f a)) -> AllA R (t.bind f)
 | .ret a, h, g => g a h
 | .ask _ _ k, h, g => fun b => all_bind (h b) g
theorem kz {α : Type} {P : α -> Prop} (c : Nat -> Nat -> Bool) : ∀ {t : KasT α}, AllA P t -> P (run c t)
 | .ret _, h => h
 | .ask i j k, h => kz (t := k (c i j)) c (h (c i j))
theorem wp_run {α : Type} {n : Nat} {c : Nat -> Nat -> Bool} {cmp : Nat -> Nat -> (Bool -> Shared -> Prop) -> Shared -> Prop} {s : Shared} (hc : ∀ i j C, i < n -> j < n -> C (c i j) s -> cmp i j C s) {Q : α -> Shared -> Prop} : ∀ {t : KasT α}, Ok n t -> Q (run c t) s -> t.kasWp cmp Q s
 | .ret _, _, h => h
 | .ask i j k, ⟨h1, h2, h3⟩, h => hc i j _ h1 h2 (wp_run hc (h3 (c i j)) h)
def bJ (n : Nat) (p : Array Nat) : Prop := p.toList.Perm (List.range n)
theorem bJ.size {n : Nat} {p : Array Nat} (h : bJ n p) : p.size = n := by have := h.length_eq; simpa using this
theorem bJ.lt {n : Nat} {p : Array Nat} (h : bJ n p) (hn : 0 < n) (k : Nat) : p.getD k 0 < n := by
 by_cases hk : k < p.size
 ·have : p[k] ∈ List.range n := h.mem_iff.mp (by simp)
  simpa [Array.getD, hk] using this
 ·simpa [Array.getD, hk] using hn
theorem bJ.mirror {n : Nat} {p : Array Nat} (h : bJ n p) (i j d : Nat) : bJ n (mirror p i j d) := (Array.perm_iff_toList_perm.mp (mirror_perm p i j d)).trans h
theorem bJ.bubble {n : Nat} {p : Array Nat} (h : bJ n p) (i d : Nat) : bJ n (bubble p i d) := (Array.perm_iff_toList_perm.mp (bubble_perm p i d)).trans h
theorem nk {n : Nat} (hn : 0 < n) {p : Array Nat} (h : bJ n p) : ∀ f k, Ok n (kas_asc p f k)
 | 0, _ => trivial
 | f + 1, k => ⟨h.lt hn _, h.lt hn _, fun b => by cases b <;> simp only [Bool.false_eq_true, if_false, if_true]; exact nk hn h f (k + 1); trivial⟩
theorem ir {n : Nat} (hn : 0 < n) : ∀ f {p : Array Nat} (k q : Nat), bJ n p -> Ok n (kas_desc f p k q) /\ AllA (fun r => bJ n r.1) (kas_desc f p k q)
 | 0, _, _, _, h => ⟨trivial, h⟩
 | f + 1, p, k, q, h => by
  have a := ir hn f (p := kas_rev p (k - (q + 1)) k) (k + 1) 0 (h.mirror _ _ _)
  have b := ir hn f (p := p) (k + 1) 0 h
  have d := ir hn f (p := p) (k + 1) (q + 1) h
  constructor
  ·refine ⟨h.lt hn _, h.lt hn _, fun c => ?_⟩
   cases c with
   | true => simp only [if_true]; split; exact a.1; exact b.1
   | false =>
    simp only [Bool.false_eq_true, if_false]
    refine ⟨h.lt hn _, h.lt hn _, fun c => ?_⟩
    cases c with
    | true => trivial
    | false => simp only [Bool.false_eq_true, if_false]; exact d.1
  ·intro c
   cases c with
   | true => simp only [if_true]; split; exact a.2; exact b.2
   | false =>
    simp only [Bool.false_eq_true, if_false]
    intro c
    cases c with
    | true => exact h
    | false => simp only [Bool.false_eq_true, if_false]; exact d.2
theorem all_true {α : Type} : ∀ t : KasT α, AllA (fun _ => True) t
 | .ret _ => trivial
 | .ask _ _ k => fun b => all_true (k b)
theorem fN {n : Nat} (hn : 0 < n) {p : Array Nat} (h : bJ n p) (a b : Nat) : Ok n (kas_tail3 a b p) /\ AllA (fun r => bJ n r.2) (kas_tail3 a b p) :=
 ⟨eX (fun _ => True) (nk hn (h.mirror _ _ _) _ _) (all_true _) fun _ _ => trivial, all_bind (all_true _) fun _ _ => h.mirror _ _ _⟩
theorem dr {n : Nat} (hn : 0 < n) {p : Array Nat} (h : bJ n p) (a b : Nat) : Ok n (kas_descPart a b p) /\ AllA (fun r => bJ n r.2) (kas_descPart a b p) := by
 have d := ir hn (b - (a + 1)) (a + 1) 0 h
 constructor
 ·refine eX _ d.1 d.2 fun r hr => ?_
  split
  ·exact (fN hn (hr.mirror _ _ _) _ _).1
  ·exact (fN hn hr _ _).1
 ·refine all_bind d.2 fun r hr => ?_
  split
  ·exact (fN hn (hr.mirror _ _ _) _ _).2
  ·exact (fN hn hr _ _).2
theorem lQ {n : Nat} (hn : 0 < n) {p : Array Nat} (h : bJ n p) (m : Nat) : Ok n (kas_count m p) /\ AllA (fun r => bJ n r.2) (kas_count m p) := by
 constructor
 ·refine eX (fun _ => True) (nk hn h _ _) (all_true _) fun k _ => ?_
  split
  ·trivial
  ·split
   ·refine ⟨h.lt hn _, h.lt hn _, fun c => ?_⟩
    cases c with
    | true => trivial
    | false => simp only [Bool.false_eq_true, if_false]; exact (dr hn (h.mirror _ _ _) _ _).1
   ·exact (dr hn h _ _).1
 ·refine all_bind (all_true _) fun k _ => ?_
  split
  ·exact h
  ·split
   ·intro c
    cases c with
    | true => exact h
    | false => simp only [Bool.false_eq_true, if_false]; exact (dr hn (h.mirror _ _ _) _ _).2
   ·exact (dr hn h _ _).2
theorem iM {n : Nat} (hn : 0 < n) {p : Array Nat} (h : bJ n p) (k : Nat) : ∀ f l r, Ok n (kas_place p k f l r)
 | 0, _, _ => trivial
 | f + 1, l, r => by
  unfold kas_place
  split
  ·trivial
  ·exact ⟨h.lt hn _, h.lt hn _, fun b => by cases b <;> simp only [Bool.false_eq_true, if_false, if_true]; exact iM hn h k f _ _; exact iM hn h k f _ _⟩
theorem kA {n : Nat} (hn : 0 < n) : ∀ f {p : Array Nat} (k : Nat), bJ n p -> Ok n (kas_bin f p k) /\ AllA (bJ n) (kas_bin f p k)
 | 0, _, _, h => ⟨trivial, h⟩
 | f + 1, p, k, h => ⟨eX (fun _ => True) (iM hn h k _ _ _) (all_true _) fun l _ => (kA hn f (k + 1) (h.bubble _ _)).1, all_bind (all_true _) fun l _ => (kA hn f (k + 1) (h.bubble _ _)).2⟩
theorem iN (n : Nat) : bJ n (List.toArray (List.range n)) := by unfold bJ; simp
theorem oB {n : Nat} (hn : 0 < n) : Ok n (kas_sort n) /\ AllA (bJ n) (kas_sort n) := by
 have d := lQ hn (iN n) n
 constructor
 ·refine eX _ d.1 d.2 fun r hr => ?_
  split
  ·exact (kA hn _ _ hr).1
  ·trivial
 ·refine all_bind d.2 fun r hr => ?_
  split
  ·exact (kA hn _ _ hr).2
  ·exact hr
section
variable {O : KeyOrd} (key : Nat -> O.α)
def KP (p : Array Nat) (i : Nat) : O.α := key (p.getD i 0)
def cmpOf (i j : Nat) : Bool := O.blt (key i) (key j)
def bW (p : Array Nat) (k : Nat) : Prop := ∀ i j, i <= j -> j < k -> O.kle (KP key p i) (KP key p j)
def FallP (p : Array Nat) (k : Nat) : Prop := ∀ i j, i <= j -> j < k -> O.kle (KP key p j) (KP key p i)
variable {key}
theorem eH {p q : Array Nat} {i j : Nat} (h : p[i]? = q[j]?) : KP key p i = KP key q j := by
 unfold KP
 rw [Array.getD_eq_getD_getElem?, Array.getD_eq_getD_getElem?, h]
theorem nq {p : Array Nat} {i j : Nat} (hj : j <= p.size) (k : Nat) : KP key (kas_rev p i j) k = if i <= k /\ k < j then KP key p (i + j - 1 - k) else KP key p k := by
 have e := getElem?_mirror_all (i := i) hj k
 unfold kas_rev
 split
 ·rename_i h; rw [if_pos h] at e; exact eH e
 ·rename_i h; rw [if_neg h] at e; exact eH e
theorem dW {p : Array Nat} {i j : Nat} (hj : j <= p.size) (h : ∀ k, i <= k -> k < j -> KP key p k = KP key p (j - 1)) (k : Nat) : KP key (kas_rev p i j) k = KP key p k := by
 rw [nq hj]
 split
 ·rw [h _ (by lia) (by lia), h k (by lia) (by lia)]
 ·rfl
theorem kB {p : Array Nat} : ∀ (f n : Nat), 1 <= n -> bW key p n -> n <= run (cmpOf key) (kas_asc p f n) /\ run (cmpOf key) (kas_asc p f n) <= n + f /\ bW key p (run (cmpOf key) (kas_asc p f n)) /\
  (run (cmpOf key) (kas_asc p f n) < n + f -> O.klt (KP key p (run (cmpOf key) (kas_asc p f n))) (KP key p (run (cmpOf key) (kas_asc p f n) - 1)))
 | 0, n, _, h => ⟨Nat.le_refl _, Nat.le_refl _, h, fun z => absurd z (by show ¬ n < n + 0; lia)⟩
 | f + 1, n, h1, h => by
  have e : run (cmpOf key) (kas_asc p (f + 1) n) = if cmpOf key (p.getD n 0) (p.getD (n - 1) 0) = true then n else run (cmpOf key) (kas_asc p f (n + 1)) := by
   show run (cmpOf key) (if cmpOf key (p.getD n 0) (p.getD (n - 1) 0) = true then KasT.ret n else kas_asc p f (n + 1)) = _
   rw [fM]; rfl
  rw [e]
  split
  ·rename_i hc
   exact ⟨Nat.le_refl _, by lia, h, fun _ => hc⟩
  ·rename_i hc
   have hle : O.kle (KP key p (n - 1)) (KP key p n) := KeyOrd.kle_of_not_klt hc
   have hs : bW key p (n + 1) := fun i j hij hj => by
    by_cases hjn : j = n
    ·subst hjn
     by_cases hij' : i = j
     ·subst hij'; exact KeyOrd.kle_refl _
     ·exact KeyOrd.kle_trans (h i (j - 1) (by lia) (by lia)) hle
    ·exact h i j hij (by lia)
   obtain ⟨a, b, c, d⟩ := kB f (n + 1) (by lia) hs
   exact ⟨by lia, by lia, c, fun z => d (by lia)⟩
structure kC (key : Nat -> O.α) (n₀ n f : Nat) (r : Array Nat × Nat × Nat) : Prop where
 lo : n <= r.2.1
 hi : r.2.1 <= n + f
 q : r.2.2 + 1 <= r.2.1
 sz : r.1.size = n₀
 fall : FallP key r.1 r.2.1
 eq : ∀ k, r.2.1 - (r.2.2 + 1) <= k -> k < r.2.1 -> KP key r.1 k = KP key r.1 (r.2.1 - 1)
theorem uN (c : Nat -> Nat -> Bool) (f : Nat) (p : Array Nat) (n q : Nat) : run c (kas_desc (f + 1) p n q) = if c (p.getD n 0) (p.getD (n - 1) 0) = true then (if q > 0 then run c (kas_desc f (kas_rev p (n - (q + 1)) n) (n + 1) 0) else run c (kas_desc f p (n + 1) 0))
    else if c (p.getD (n - 1) 0) (p.getD n 0) = true then (p, n, q) else run c (kas_desc f p (n + 1) (q + 1)) := by
  show run c (if c (p.getD n 0) (p.getD (n - 1) 0) = true then (if q > 0 then kas_desc f (kas_rev p (n - (q + 1)) n) (n + 1) 0 else kas_desc f p (n + 1) 0)
      else .ask (p.getD (n - 1) 0) (p.getD n 0) fun d => if d = true then .ret (p, n, q) else kas_desc f p (n + 1) (q + 1)) = _
  rw [fM, fM]
  congr 1
  show run c (if c (p.getD (n - 1) 0) (p.getD n 0) = true then KasT.ret (p, n, q) else kas_desc f p (n + 1) (q + 1)) = _
  rw [fM]
  rfl
theorem fO {n₀ : Nat} : ∀ (f : Nat) {p : Array Nat} (n q : Nat), 1 <= n -> q + 1 <= n -> p.size = n₀ -> n + f <= n₀ -> FallP key p n -> (∀ k, n - (q + 1) <= k -> k < n -> KP key p k = KP key p (n - 1)) ->
  kC key n₀ n f (run (cmpOf key) (kas_desc f p n q))
 | 0, p, n, q, h1, hq, hz, hb, hf, he => ⟨Nat.le_refl _, Nat.le_refl _, hq, hz, hf, he⟩
 | f + 1, p, n, q, h1, hq, hz, hb, hf, he => by
  rw [uN]
  have up : ∀ {r}, kC key n₀ (n + 1) f r -> kC key n₀ n (f + 1) r := fun d => ⟨by have := d.lo; lia, by have := d.hi; lia, d.q, d.sz, d.fall, d.eq⟩
  by_cases hc : cmpOf key (p.getD n 0) (p.getD (n - 1) 0) = true
  ·rw [if_pos hc]
   have hlt : O.klt (KP key p n) (KP key p (n - 1)) := hc
   have hf1 : FallP key p (n + 1) := fun i j hij hj => by
    by_cases hjn : j = n
    ·subst hjn
     by_cases hij' : i = j
     ·subst hij'; exact KeyOrd.kle_refl _
     ·exact KeyOrd.kle_trans (KeyOrd.kle_of_klt hlt) (hf i (j - 1) (by lia) (by lia))
    ·exact hf i j hij (by lia)
   by_cases hq0 : q > 0
   ·rw [if_pos hq0]
    have ek := dW (key := key) (p := p) (i := n - (q + 1)) (j := n) (by lia) he
    have hf2 : FallP key (kas_rev p (n - (q + 1)) n) (n + 1) := fun i j hij hj => by rw [ek, ek]; exact hf1 i j hij hj
    exact up (fO f (p := kas_rev p (n - (q + 1)) n) (n + 1) 0 (by lia) (by lia) (by show (mirror p _ _ _).size = _; rw [mirror_size]; exact hz) (by lia) hf2 (fun k hk1 hk2 => by rw [show k = n + 1 - 1 by lia]))
   ·rw [if_neg hq0]
    exact up (fO f (p := p) (n + 1) 0 (by lia) (by lia) hz (by lia) hf1 (fun k hk1 hk2 => by rw [show k = n + 1 - 1 by lia]))
  ·rw [if_neg hc]
   by_cases hd : cmpOf key (p.getD (n - 1) 0) (p.getD n 0) = true
   ·rw [if_pos hd]
    exact ⟨Nat.le_refl _, by show n <= n + (f + 1); lia, hq, hz, hf, he⟩
   ·rw [if_neg hd]
    have e1 : KP key p n = KP key p (n - 1) := by
     refine O.total _ _ ?_ ?_
     ·cases z : O.blt (KP key p n) (KP key p (n - 1)) with
      | false => rfl
      | true => exact absurd z hc
     ·cases z : O.blt (KP key p (n - 1)) (KP key p n) with
      | false => rfl
      | true => exact absurd z hd
    have hf1 : FallP key p (n + 1) := fun i j hij hj => by
     by_cases hjn : j = n
     ·subst hjn
      by_cases hij' : i = j
      ·subst hij'; exact KeyOrd.kle_refl _
      ·rw [e1]; exact hf i (j - 1) (by lia) (by lia)
     ·exact hf i j hij (by lia)
    exact up (fO f (p := p) (n + 1) (q + 1) (by lia) (by lia) hz (by lia) hf1 (fun k hk1 hk2 => by
     rw [Nat.add_sub_cancel, e1]
     by_cases hkn : k = n
     ·rw [hkn, e1]
     ·exact he k (by lia) (by lia)))
theorem jR {p : Array Nat} {n nrem : Nat} (h1 : 1 <= n) (hn : n <= nrem) (hz : p.size = nrem) (hf : FallP key p n) :
  (run (cmpOf key) (kas_tail3 n nrem p)).1 <= nrem /\ 1 <= (run (cmpOf key) (kas_tail3 n nrem p)).1 /\ bW key (run (cmpOf key) (kas_tail3 n nrem p)).2 (run (cmpOf key) (kas_tail3 n nrem p)).1 := by
 unfold kas_tail3
 rw [run_bind]
 have hs : bW key (kas_rev p 0 n) n := fun i j hij hj => by
  rw [nq (by lia), nq (by lia), if_pos ⟨by lia, by lia⟩, if_pos ⟨by lia, hj⟩]
  exact hf _ _ (by lia) (by lia)
 obtain ⟨a, b, c, _⟩ := kB (key := key) (p := kas_rev p 0 n) (nrem - n) n h1 hs
 exact ⟨by show run _ (kas_asc _ _ _) <= _; lia, by show 1 <= run _ (kas_asc _ _ _); lia, c⟩
theorem fP {p : Array Nat} {n nrem : Nat} (h1 : 1 <= n) (hn : n + 1 <= nrem) (hz : p.size = nrem) (hf : FallP key p (n + 1)) :
  (run (cmpOf key) (kas_descPart n nrem p)).1 <= nrem /\ 1 <= (run (cmpOf key) (kas_descPart n nrem p)).1 /\ bW key (run (cmpOf key) (kas_descPart n nrem p)).2 (run (cmpOf key) (kas_descPart n nrem p)).1 := by
 unfold kas_descPart
 rw [run_bind]
 obtain ⟨a, b, c, d, e, f⟩ := fO (key := key) (n₀ := nrem) (nrem - (n + 1)) (p := p) (n + 1) 0 (by lia) (by lia) hz (by lia) hf (fun k hk1 hk2 => by rw [show k = n + 1 - 1 by lia])
 split
 ·have ek := dW (key := key) (j := (run (cmpOf key) (kas_desc (nrem - (n + 1)) p (n + 1) 0)).2.1) (by rw [d]; lia) f
  exact jR (by lia) (by lia) (by show (mirror _ _ _ _).size = _; rw [mirror_size]; exact d) fun i j hij hj => by rw [ek, ek]; exact e i j hij hj
 ·exact jR (by lia) (by lia) d e
theorem qa {p : Array Nat} {n : Nat} (h2 : 1 <= n) (hz : p.size = n) :
  (run (cmpOf key) (kas_count n p)).1 <= n /\ 1 <= (run (cmpOf key) (kas_count n p)).1 /\ bW key (run (cmpOf key) (kas_count n p)).2 (run (cmpOf key) (kas_count n p)).1 := by
 unfold kas_count
 rw [run_bind]
 obtain ⟨a, b, c, d⟩ := kB (key := key) (p := p) (n - 1) 1 (Nat.le_refl _) (fun i j hij hj => by rw [show i = j by lia]; exact KeyOrd.kle_refl _)
 generalize run (cmpOf key) (kas_asc p (n - 1) 1) = m at *
 split
 ·rename_i hm
  have hm : m = n := by simpa using hm
  exact ⟨by show m <= n; lia, a, c⟩
 ·rename_i hm
  have hm : m < n := by
   have : ¬ m = n := by simpa using hm
   lia
  have hlt := d (by lia)
  split
  ·rename_i hm1
   show (run (cmpOf key) (if cmpOf key (p.getD 0 0) (p.getD (m - 1) 0) = true then KasT.ret (m, p) else kas_descPart m n (kas_rev p 0 m))).1 <= n /\ 1 <= (run (cmpOf key) (if cmpOf key (p.getD 0 0) (p.getD (m - 1) 0) = true then KasT.ret (m, p) else kas_descPart m n (kas_rev p 0 m))).1 /\
    bW key (run (cmpOf key) (if cmpOf key (p.getD 0 0) (p.getD (m - 1) 0) = true then KasT.ret (m, p) else kas_descPart m n (kas_rev p 0 m))).2 (run (cmpOf key) (if cmpOf key (p.getD 0 0) (p.getD (m - 1) 0) = true then KasT.ret (m, p) else kas_descPart m n (kas_rev p 0 m))).1
   by_cases hc : cmpOf key (p.getD 0 0) (p.getD (m - 1) 0) = true
   ·rw [if_pos hc]
    exact ⟨by show m <= n; lia, a, c⟩
   ·rw [if_neg hc]
    -- all of the run are equal
    have hle : O.kle (KP key p (m - 1)) (KP key p 0) := KeyOrd.kle_of_not_klt hc
    have eq : ∀ k, 0 <= k -> k < m -> KP key p k = KP key p (m - 1) := fun k _ hk =>
     KeyOrd.kle_antisymm (c k (m - 1) (by lia) (by lia)) (KeyOrd.kle_trans hle (c 0 k (by lia) hk))
    have ek := dW (key := key) (p := p) (i := 0) (j := m) (by lia) eq
    refine fP a (by lia) (by show (mirror _ _ _ _).size = _; rw [mirror_size]; exact hz) fun i j hij hj => ?_
    rw [ek, ek]
    by_cases hjm : j = m
    ·subst hjm
     by_cases hij' : i = j
     ·subst hij'; exact KeyOrd.kle_refl _
     ·rw [eq i (by lia) (by lia)]; exact KeyOrd.kle_of_klt hlt
    ·rw [eq i (by lia) (by lia), eq j (by lia) (by lia)]; exact KeyOrd.kle_refl _
  ·have hm1 : m = 1 := by lia
   subst hm1
   refine fP (Nat.le_refl _) (by lia) hz fun i j hij hj => ?_
   by_cases hj1 : j = 1
   ·subst hj1
    by_cases hi : i = 1
    ·subst hi; exact KeyOrd.kle_refl _
    ·have : i = 1 - 1 := by lia
     rw [this]; exact KeyOrd.kle_of_klt hlt
   ·have h1 : i = 0 := by lia
    have h2 : j = 0 := by lia
    subst h1 h2; exact KeyOrd.kle_refl _
theorem gH {p : Array Nat} {k : Nat} (hs : bW key p k) : ∀ (f l r : Nat), l <= r -> r <= k -> r - l <= f -> (∀ i, i < l -> O.kle (KP key p i) (KP key p k)) -> (∀ i, r <= i -> i < k -> O.klt (KP key p k) (KP key p i)) ->
    run (cmpOf key) (kas_place p k f l r) <= k /\ (∀ i, i < run (cmpOf key) (kas_place p k f l r) -> O.kle (KP key p i) (KP key p k)) /\ (∀ i, run (cmpOf key) (kas_place p k f l r) <= i -> i < k -> O.klt (KP key p k) (KP key p i))
  | 0, l, r, h1, h2, h3, h4, h5 => ⟨by show l <= k; lia, h4, fun i hi hk => h5 i (Nat.le_trans (by lia : r <= l) hi) hk⟩
  | f + 1, l, r, h1, h2, h3, h4, h5 => by
    unfold kas_place
    split
    · exact ⟨by show l <= k; lia, h4, fun i hi hk => h5 i (Nat.le_trans (by lia : r <= l) hi) hk⟩
    · rename_i hlr
      have e : run (cmpOf key) (KasT.ask (p.getD k 0) (p.getD ((l + r) / 2) 0) fun c => if c = true then kas_place p k f l ((l + r) / 2) else kas_place p k f ((l + r) / 2 + 1) r) =
          if cmpOf key (p.getD k 0) (p.getD ((l + r) / 2) 0) = true then run (cmpOf key) (kas_place p k f l ((l + r) / 2)) else run (cmpOf key) (kas_place p k f ((l + r) / 2 + 1) r) := fM
      rw [e]
      split
      · rename_i hc
        refine gH hs f l ((l + r) / 2) (by lia) (by lia) (by lia) h4 fun i hi hk => ?_
        exact KeyOrd.klt_of_klt_of_kle hc (hs _ _ hi hk)
      · rename_i hc
        refine gH hs f ((l + r) / 2 + 1) r (by lia) h2 (by lia) (fun i hi => ?_) h5
        exact KeyOrd.kle_trans (hs i ((l + r) / 2) (by lia) (by lia)) (KeyOrd.kle_of_not_klt hc)
theorem oC {n : Nat} : ∀ (f : Nat) {p : Array Nat} (k : Nat), p.size = n -> k + f <= n -> 1 <= k -> bW key p k -> bW key (run (cmpOf key) (kas_bin f p k)) (k + f)
 | 0, p, k, _, _, _, hs => hs
 | f + 1, p, k, hz, hk, h1, hs => by
  unfold kas_bin
  rw [run_bind]
  obtain ⟨a, b, c⟩ := gH hs k 0 k (by lia) (by lia) (by lia) (fun i hi => by lia) (fun i h1 h2 => by lia)
  generalize run (cmpOf key) (kas_place p k k 0 k) = l at *
  have ekk : ∀ i, KP key (bubble p k (k - l)) i = if i = l then KP key p k else if l < i /\ i <= k then KP key p (i - 1) else KP key p i := fun i => by
   have e := getElem?_bubble (xs := p) (src := k) (by lia) (k - l) (by lia) i
   rw [show k - (k - l) = l by lia] at e
   split
   ·rename_i h; rw [if_pos h] at e; exact eH e
   ·rename_i h
    rw [if_neg h] at e
    split
    ·rename_i h'; rw [if_pos h'] at e; exact eH e
    ·rename_i h'; rw [if_neg h'] at e; exact eH e
  have r := oC (n := n) f (p := bubble p k (k - l)) (k + 1) (by rw [bubble_size]; exact hz) (by lia) (by lia) (fun i j hij hj => by
   rw [ekk, ekk]
   by_cases hi : i = l
   ·rw [if_pos hi]
    by_cases hj' : j = l
    ·rw [if_pos hj']; exact KeyOrd.kle_refl _
    ·rw [if_neg hj', if_pos ⟨by lia, by lia⟩]
     exact KeyOrd.kle_of_klt (c (j - 1) (by lia) (by lia))
   ·rw [if_neg hi]
    by_cases hli : l < i
    ·rw [if_pos ⟨hli, by lia⟩, if_neg (by lia), if_pos ⟨by lia, by lia⟩]
     exact hs _ _ (by lia) (by lia)
    ·rw [if_neg (by lia)]
     by_cases hj' : j = l
     ·rw [if_pos hj']; exact b i (by lia)
     ·rw [if_neg hj']
      by_cases hlj : l < j
      ·rw [if_pos ⟨hlj, by lia⟩]; exact hs _ _ (by lia) (by lia)
      ·rw [if_neg (by lia)]; exact hs _ _ hij (by lia))
  rw [show k + 1 + f = k + (f + 1) by lia] at r
  exact r
theorem qX {n : Nat} (h2 : 1 <= n) : bW key (run (cmpOf key) (kas_sort n)) n := by
 unfold kas_sort
 rw [run_bind]
 have pc := kz (cmpOf key) (lQ h2 (iN n) n).2
 obtain ⟨a, b, c⟩ := qa (key := key) (p := (List.range n).toArray) h2 (by simp)
 generalize run (cmpOf key) (kas_count n (List.range n).toArray) = r at *
 split
 ·have q := oC (key := key) (n := n) (n - max r.1 1) (p := r.2) (max r.1 1) pc.size (by lia) (by lia) (by rw [show max r.1 1 = r.1 by lia]; exact c)
  rw [show max r.1 1 + (n - max r.1 1) = n by lia] at q
  exact q
 ·have : r.1 = n := by lia
  rw [<- this]; exact c
end
end Srt
end
section
namespace L2
open PySem PySem.Spec PyProof.Rows
theorem lex_irrefl : ∀ a : List Int, HT.lexLt a a = false
 | [] => rfl
 | x :: r => by rw [HT.b9, if_pos rfl]; exact lex_irrefl r
theorem lex_trans : ∀ a b c : List Int, HT.lexLt a b = true -> HT.lexLt b c = true -> HT.lexLt a c = true
 | [], _, [], h1, h2 => by
  rename_i b
  cases b with
  | nil => exact h1
  | cons y r => cases h2
 | [], _, _ :: _, _, _ => rfl
 | x :: r, [], _, h1, _ => by cases h1
 | x :: r, y :: t, [], _, h2 => by cases h2
 | x :: r, y :: t, z :: u, h1, h2 => by
  rw [HT.b9] at *
  by_cases e1 : x = y
  ·rw [if_pos e1] at h1
   by_cases e2 : y = z
   ·rw [if_pos e2] at h2
    rw [if_pos (e1.trans e2)]
    exact lex_trans r t u h1 h2
   ·rw [if_neg e2] at h2
    rw [if_neg (by lia)]
    rw [e1]; exact h2
  ·rw [if_neg e1] at h1
   have h1 := of_decide_eq_true h1
   by_cases e2 : y = z
   ·rw [if_neg (by lia)]
    exact decide_eq_true (by lia)
   ·rw [if_neg e2] at h2
    have h2 := of_decide_eq_true h2
    rw [if_neg (by lia)]
    exact decide_eq_true (by lia)
theorem eY : ∀ a b : List Int, HT.lexLt a b = false -> HT.lexLt b a = false -> a = b
 | [], [], _, _ => rfl
 | [], _ :: _, h, _ => by cases h
 | _ :: _, [], _, h => by cases h
 | x :: r, y :: t, h1, h2 => by
  rw [HT.b9] at *
  by_cases e : x = y
  ·rw [if_pos e] at h1
   rw [if_pos e.symm] at h2
   rw [e, eY r t h1 h2]
  ·rw [if_neg e] at h1
   rw [if_neg (Ne.symm e)] at h2
   have h1 := of_decide_eq_false h1
   have h2 := of_decide_eq_false h2
   lia
theorem fQ : ∀ a b c : List Int, HT.lexLt a c = true -> HT.lexLt a b = true \/ HT.lexLt b c = true := fun a b c h => by
 cases h1 : HT.lexLt a b with
 | true => exact .inl rfl
 | false =>
  right
  cases h2 : HT.lexLt b a with
  | true => exact lex_trans b a c h2 h
  | false => rw [<- eY a b h1 h2]; exact h
def lexOrd : KeyOrd := ⟨List Int, HT.lexLt, lex_irrefl, lex_trans, fQ, eY⟩
def lexLe (a b : List Int) : Bool := !HT.lexLt b a
theorem lR (a b c : List Int) (h1 : lexLe a b = true) (h2 : lexLe b c = true) : lexLe a c = true := by
 unfold lexLe at *
 cases h : HT.lexLt c a with
 | false => rfl
 | true =>
  rcases fQ c b a h with z | z
  ·rw [z] at h2; cases h2
  ·rw [z] at h1; cases h1
theorem gZ (a b : List Int) : (lexLe a b || lexLe b a) = true := by
 unfold lexLe
 cases h : HT.lexLt b a with
 | false => rfl
 | true =>
  cases h' : HT.lexLt a b with
  | false => rfl
  | true => have := lex_trans a b a h' h; rw [lex_irrefl] at this; cases this
theorem nr (a b : List Int) (h1 : lexLe a b = true) (h2 : lexLe b a = true) : a = b := by
 unfold lexLe at *
 exact eY a b (by simpa using h2) (by simpa using h1)
def srt (l : List (List Int)) : List (List Int) := l.mergeSort lexLe
theorem lS (l : List (List Int)) : (srt l).Perm l := List.mergeSort_perm l lexLe
theorem nu (l : List (List Int)) : (srt l).Pairwise (fun a b => lexLe a b = true) := List.pairwise_mergeSort (le := lexLe) lR gZ l
theorem fj : ∀ {a b : List (List Int)}, a.Perm b -> a.Pairwise (fun a b => lexLe a b = true) -> b.Pairwise (fun a b => lexLe a b = true) -> a = b
 | [], b, p, _, _ => (List.perm_nil.mp p.symm).symm
 | x :: r, [], p, _, _ => by have := p.length_eq; simp at this
 | x :: r, y :: t, p, ha, hb => by
  rw [List.pairwise_cons] at ha hb
  have e : x = y := by
   have hx : x ∈ y :: t := p.mem_iff.mp List.mem_cons_self
   have hy : y ∈ x :: r := p.mem_iff.mpr List.mem_cons_self
   rcases List.mem_cons.mp hx with h | h
   ·exact h
   ·rcases List.mem_cons.mp hy with h' | h'
    ·exact h'.symm
    ·exact nr x y (ha.1 y h') (hb.1 x h)
  subst e
  rw [fj (List.Perm.cons_inv p) ha.2 hb.2]
theorem nv {a l : List (List Int)} (p : a.Perm l) (h : a.Pairwise (fun a b => lexLe a b = true)) : a = srt l := fj (p.trans (lS l).symm) h (nu l)
section
variable {X : Cx} {pins : List (Addr × Obj)} {σ : St} {H : Hp} {s : Shared}
theorem Inv.kept_led {h' : Heap} {m : Str -> Option Value} (I : Inv X pins σ H s) (F' : Fr X.base X.env.locals h' m) (N' : News X.base X.env.locals h' (bF X.base s.heap X.env.locals)) : ∀ b o, b ≠ X.env.locals -> s.heap.get? b = some o -> h'.get? b = some o := fun b o hb e => by
 cases q : X.base.get? b with
 | some u =>
  have := I.bk b u q
  rw [e] at this; cases this
  exact F'.keep b _ q
 | none => exact (N' (b, o) (dk hb q e)).1
theorem Inv.led {h' : Heap} {m : Str -> Option Value} {t' : Nat} (I : Inv X pins σ H s) (hm : s.heap.Ns X.env.locals m) (F' : Fr X.base X.env.locals h' m) (N' : News X.base X.env.locals h' (bF X.base s.heap X.env.locals)) :
  Inv X pins σ H { s with heap := h', toks := t' } := by
 have k := I.kept_led F' N'
 refine I.step (g' := s.gens) (d' := s.drawn) (ch := []) (fun _ z => nomatch z) (fun b o hb _ _ e _ => k b o hb e) (fun b o hb _ _ e _ => ⟨o.slots, k b o hb e⟩) (fun _ _ _ _ n => n) (fun b o _ e => ?_) (fun _ _ e => e) (fun _ _ _ e => e) (fun b ps e => ⟨#[], by rw [e]; simp⟩) (fun m' hm' => ?_) (fun b u e => ?_) I.bare
 ·by_cases hb : b = X.env.locals
  ·obtain ⟨o', _, _, ho, _⟩ := F'.ns
   exact ⟨o', by rw [hb]; exact ho⟩
  ·exact ⟨o, k b o hb e⟩
 ·have em : m' = m := by
   obtain ⟨o, es, ep, ho, hd, _, hf⟩ := hm
   obtain ⟨o2, es2, ep2, ho2, hd2, _, hf2⟩ := hm'
   rw [ho] at ho2; cases ho2
   rw [hd] at hd2; cases hd2
   funext x
   rw [<- hf x, <- hf2 x]
  rw [em]; exact F'.ns
 ·refine (I.hok b u e).stay (fun c v hc q => k c v ?_ q) (fun _ q => q) fun _ _ q => q
  rcases hc with z | z
  ·rw [z]; exact aX e I.free
  ·exact aX z I.free
end
section
variable {prog : Program} {w : World} {A : Around} {E : Value -> Shared -> Prop} {s : Shared}
theorem qY {a : Addr} {vs : List Value} {n : Nat} {R : PySem.Fin -> Shared -> Prop} (ho : s.heap.get? a = some (seqObj "list" vs.toArray n)) (hf : vs.length < 2)
  (h : R (.done (.ret .none)) { s with heap := sortedHeap s.heap a vs vs.toArray }) : wpAny (model prog w) A (Builtin.«list.sort» ⟨[.ref a], []⟩) R E s := by
 have hlt : a < s.heap.objs.size := Heap.lt_size ho
 have few : vs.toArray.size < 2 := by rw [List.size_toArray]; exact hf
 have hz : vs.length <= sizeLine := by rw [sizeLine_eq]; lia
 obtain ⟨e, he⟩ : ∃ e, (s.heap.update a (Obj.mapSeq fun _ => #[])).get? a = some (seqObj "list" #[] e) := ⟨_, get?_update_seq ho (fun _ => #[])⟩
 rw [list_sort_plain]
 refine wpAny_bind (listItems_at ho rfl (wpAny_bind (listUpdate_at ho rfl (wpAny_bind (seqEpoch_at he rfl (wpAny_bind (wpAny_newTuple (wpAny_bind (wpAny_newList (wpAny_holding ?_))) (hsz := hz))))) (by rw [List.size_toArray]; lia))))
 have he2 : (((s.heap.update a (Obj.mapSeq fun _ => #[])).push (seqObj "tuple" vs.toArray 0)).push (seqObj "list" #[] 0)).get? a = some (seqObj "list" #[] e) := Heap.get?_push_of_some _ (Heap.get?_push_of_some _ he)
 dsimp only
 rw [if_pos few, if_pos few]
 refine wpAny_bind (wpAny_pure ?_); rw [StateT.run_pure]; refine wpAny_bind (wpAny_pure ?_); dsimp only
 have em : Array.map (fun x : Value × Value => x.2) (arrOf (SortSt.mk' general' (vs.toArray.zip vs.toArray) #[] 7 none)) = vs.toArray := by
  show Array.map (fun x : Value × Value => x.2) (vs.toArray.zip vs.toArray) = vs.toArray
  apply Array.ext <;> simp
 refine wpAny_bind (seqEpoch_at he2 rfl (wpAny_bind (listUpdate_at he2 rfl ?_ (hsz2 := by rw [em, List.size_toArray]; lia))))
 rw [em]
 simp only [bne_self_eq_false, Bool.false_eq_true, if_false]
 exact wpAny_pure h
theorem ny {l : Addr} {vs : List Value} {Q : Value -> Shared -> Prop} (hl : s.heap.IsList l vs.toArray) (hf : vs.length < 2) (h : Q (.ref (s.heap.objs.size + 1)) { s with heap := sortedAll s.heap vs vs.toArray }) : wpAny (model prog w) A (call (.builtin "sorted") [.ref l]) Q E s := by
 have hz : vs.length <= sizeLine := by rw [sizeLine_eq]; lia
 have z1 : ((s.heap.push (seqObj "list" #[] 0)).update s.heap.objs.size (Obj.mapSeq (· ++ vs.toArray))).objs.size = s.heap.objs.size + 1 := by rw [Heap.size_update, size_push']
 have z2 : (((s.heap.push (seqObj "list" #[] 0)).update s.heap.objs.size (Obj.mapSeq (· ++ vs.toArray))).push (seqObj "list" vs.toArray 0)).get? (s.heap.objs.size + 1) = some (seqObj "list" vs.toArray 0) := z1 ▸ Heap.get?_push_size _ rfl
 have col := fun R r => collect_list (prog := prog) (w := w) (A := A.in1) (E := E) (Q := R) hl r hz
 refine Calls.call_function_entry kind_sorted plain_sorted entry_sorted (args_sorted1 _) (wpAny_bind (m := checkCount "sorted" 1 1 _) (wpAny_pure (wpAny_bind (m := collect (.ref l)) (col _ (wpAny_bind (wpAny_newList ?_ (hsz := hz)))))))
 dsimp only
 rw [z1]
 refine wpAny_bind (wpAny_holding (wpAny_call_entry slot_list_sort ⟨_, z2, rfl⟩ entry_list_sort (qY z2 hf ⟨_, rfl, wpAny_pure ⟨_, rfl, h⟩⟩) (args_list_sort _)))
end
section
variable {X : Cx} {pins : List (Addr × Obj)} {σ : St} {H : Hp} {s : Shared}
theorem Inv.trackN {D : Addr} {o : HO} (I : Inv X pins σ H s) (hn : H D = none) (hs : X.s₀.heap.get? D = none) (hL : D ≠ X.env.locals) (hc : ∀ x c, X.env.cells.lookup x = some c -> c ≠ D) (hp : ∀ p ∈ X.pn ++ pins, p.1 ≠ D)
  (new : bu X.prog X.w (upd H D o) s.heap D o) : Inv X pins σ (upd H D o) s := by
 have nb : ∀ b ob, X.s₀.heap.get? b = some ob -> b ≠ D := fun b ob e z => by subst z; rw [hs] at e; cases e
 have nt : ∀ b u, H b = some u -> b ≠ D := fun b u e => aX e hn
 refine ⟨I.ok, I.os, I.bare, ⟨I.base.keep, I.base.slot, fun b ob e n hx => by rw [aC (nb b ob e)]; exact I.base.free b ob e n hx, I.base.there, fun b xs e => ?_, fun b ob u e => ?_, fun b ps e => ?_⟩, I.loc, I.cell, by rw [aC hL.symm]; exact I.free, fun x c e => by rw [aC (hc x c e)]; exact I.freeC x c e, fun p hpp => ?_, fun b u e => ?_, I.len⟩
 ·have q := I.base.tups b xs e
  rw [aC (nt b _ q)]; exact q
 ·have q := I.base.frzs b ob u e
  rw [aC (nt b _ q)]; exact q
 ·obtain ⟨more, q⟩ := I.base.tbls b ps e
  exact ⟨more, by rw [aC (nt b _ q)]; exact q⟩
 ·obtain ⟨a, b, c, d, e⟩ := I.pin p hpp
  exact ⟨a, by rw [aC (hp p hpp)]; exact b, c, d, e⟩
 ·by_cases hb : b = D
  ·subst hb; rw [aG] at e; cases e; exact new
  ·rw [aC hb] at e
   exact (I.hok b u e).stay (fun _ _ _ q => q) (fun c q => by rw [aC (nt c _ q)]; exact q) fun c xs q => by rw [aC (nt c _ q)]; exact q
theorem uO {prog : Program} {w : World} {A : Around} {Q : Bool -> Shared -> Prop} : ∀ (ns ms : List Int) {us vs : List Value} (i : Nat) {fin : Bool}, Vals (ns.map V.int) us -> Vals (ms.map V.int) vs -> fin = decide (us.length < vs.length) -> Q (HT.lexLt ns ms) s ->
  PySem.W.KatLex prog w A true fin Q (us.zip vs) i s := by
 intro ns
 induction ns with
 | nil =>
  intro ms us vs i fin r r' hf h
  have r : Vals [] us := r
  cases r
  cases ms with
  | nil =>
   have r' : Vals [] vs := r'
   cases r'
   subst hf
   exact h
  | cons m ms =>
   have r' : Vals (V.int m :: ms.map V.int) vs := r'
   cases r' with
   | cons a b =>
    subst hf
    exact h
 | cons n ns ih =>
  intro ms us vs i fin r r' hf h
  have r : Vals (V.int n :: ns.map V.int) us := r
  cases r with
  | cons q1 t =>
   cases ms with
   | nil =>
    have r' : Vals [] vs := r'
    cases r'
    subst hf
    exact h
   | cons m ms =>
    have r' : Vals (V.int m :: ms.map V.int) vs := r'
    cases r' with
    | cons q2 t' =>
     obtain ⟨tk, rfl⟩ := q1
     obtain ⟨tk', rfl⟩ := q2
     rw [HT.b9] at h
     rw [List.zip_cons_cons]
     refine PySem.W.kat_cons (SeqAt.EqAt.int_int n tk m tk' prog w _ _ ?_)
     by_cases e : n = m
     ·rw [if_pos e] at h
      rw [show (n == m) = true by simpa using e]
      refine PySem.W.kat_yes (ih ms (i + 1) t t' ?_ h)
      rw [hf]
      simp
     ·rw [if_neg e] at h
      rw [show (n == m) = false by simpa using e]
      refine PySem.W.kat_no ?_
      by_cases hi : i = 0
      ·subst hi
       exact oneLt_int h
      ·rw [show (true && i == 0) = false by simp [hi]]
       exact PySem.W.kat_one _ _ (lt_int (show PySem.W.BoolBack _ (Value.bool _) _ from h))
theorem za {A : Around} {E : Value -> Shared -> Prop} {a b : Addr} {ns ms : List Int} {Q : Bool -> Shared -> Prop} (I : Inv X pins σ H s) (ha : SqT X.K H a (ns.map V.int)) (hb : SqT X.K H b (ms.map V.int)) (h : Q (HT.lexLt ns ms) s) :
  wpAny (model X.prog X.w) A (keyLt' (tuples' true) (.ref a) (.ref b)) Q E s := by
 obtain ⟨us, r, ⟨o, ho, _, n, hd⟩, _⟩ := I.tuple ha
 obtain ⟨vs, r', ⟨o', ho', _, n', hd'⟩, _⟩ := I.tuple hb
 refine PySem.W.kat_lt ho hd ho' hd' (uO ns ms 0 r r' ?_ h)
 simp
theorem qZ {h : Heap} {p : Addr} {its : List Value} (hne : ms ≠ []) (r : Vals (ms.map V.int) its) (ht : IsTup h p its.toArray) : ∃ (f : Value) (o : Obj) (n : Nat), (∃ i t, f = Value.int i t) /\ h.get? p = some o /\ o.cls = .type "tuple" /\ o.data = .seq its.toArray n /\ its.toArray[0]? = some f := by
 obtain ⟨o, ho, hc, n, hd⟩ := ht
 cases ms with
 | nil => exact absurd rfl hne
 | cons m ms =>
  have r : Vals (V.int m :: ms.map V.int) its := r
  cases r with
  | cons r1 r2 =>
   obtain ⟨t, rfl⟩ := r1
   exact ⟨_, o, n, ⟨m, t, rfl⟩, ho, hc, hd, by simp⟩
theorem nE {h : Heap} (hT : ∀ a xs, SqT X.K H a xs -> ∃ its : List Value, Vals xs its /\ IsTup h a its.toArray) {ps : List Addr} (ht : ik X.K H ps mss) : (∀ ms ∈ mss, ms ≠ []) ->
  ∃ fs : List Value, PySem.W.KatTups h (ps.map Value.ref) fs /\ fs.length = ps.length /\ ∀ v ∈ fs, ∃ i t, v = Value.int i t := by
 unfold ik at ht
 induction ht with
 | nil => exact fun _ => ⟨[], trivial, rfl, (fun _ h => nomatch h)⟩
 | cons hp t ih =>
  intro hne
  obtain ⟨fs, h1, h2, h3⟩ := ih fun m hm => hne m (List.mem_cons_of_mem _ hm)
  obtain ⟨its, r, tt⟩ := hT _ _ hp
  obtain ⟨f, o, n, hi, ho, hc, hd, h0⟩ := qZ (hne _ List.mem_cons_self) r tt
  refine ⟨f :: fs, PySem.W.KatTups.cons ho hc hd h0 h1, by simp [h2], fun v hv => ?_⟩
  rcases List.mem_cons.mp hv with rfl | hv
  ·exact hi
  ·exact h3 v hv
theorem jS : ∀ {ps : List Addr} {us : List Value}, Vals (ps.map V.ref) us -> us = ps.map Value.ref
 | [], _, .nil => rfl
 | p :: ps, _, .cons r t => by
  rw [jS t]
  cases r
  rfl
theorem jT : ∀ (ps : List Addr), Vals (ps.map V.ref) (ps.map Value.ref)
 | [] => .nil
 | p :: ps => .cons rfl (jT ps)
theorem ik.get : ∀ {ps : List Addr} {mss : List (List Int)}, ik K H ps mss -> ∀ i, i < ps.length -> SqT K H (ps.getD i 0) ((mss.getD i []).map V.int)
 | _, _, .cons h t, 0, _ => h
 | _, _, .cons h t, i + 1, hi => by simpa using ik.get t i (by simpa using hi)
theorem ik.pick {ps : List Addr} (h : ik K H ps mss) : ∀ {is : List Nat}, (∀ i ∈ is, i < ps.length) -> ik K H (is.map fun i => ps.getD i 0) (is.map fun i => mss.getD i [])
 | [], _ => .nil
 | i :: is, hi => .cons (h.get i (hi i List.mem_cons_self)) (h.pick fun j hj => hi j (List.mem_cons_of_mem _ hj))
end
def q0 (K : PySem.W.Frag) : List V -> Hp -> VK -> Prop := fun xs H Q => ∃ (l : Addr) (ps : List Addr) (mss : List (List Int)), xs = [.ref l] /\ SqL K H l (ps.map V.ref) /\ ik K H ps mss /\ (∀ ms ∈ mss, ms ≠ []) /\ mss.length < 64 /\
 ∀ (D : Addr) (ps' : List Addr), H D = none -> ik K H ps' (srt mss) -> Q (.ref D) (upd H D (.lst (ps'.map V.ref)))
theorem iO {α : Type} (l : List α) (d : α) : (List.range l.length).map (fun i => l.getD i d) = l := by
 apply List.ext_getElem
 ·simp
 ·intro i h1 h2
  simp at h1
  simp [h1]
end L2
end
section
namespace L2
open PySem PySem.Spec PyProof.Rows
theorem bu.there {P : Program} {w : World} {h : Heap} {a : Addr} {o : HO} (x : bu P w H h a o) : ∃ ob, h.get? a = some ob := by
 cases o with
 | lst xs => obtain ⟨_, _, _, _, e⟩ := x; exact ⟨_, e⟩
 | tup xs => obtain ⟨_, _, _, ob, e, _⟩ := x; exact ⟨_, e⟩
 | dK kvs => obtain ⟨_, _, _, _, o, _, _, e, _⟩ := x; exact ⟨_, e⟩
 | dT kvs => obtain ⟨_, _, _, _, o, _, _, e, _⟩ := x; exact ⟨_, e⟩
 | set S n => obtain ⟨o, _, _, _, e, _⟩ := x; exact ⟨_, e⟩
 | ins C dx fs => obtain ⟨_, _, _, e, _⟩ := x; exact ⟨_, e⟩
 | own y => exact x
 | xd fs => obtain ⟨_, ⟨_, _, _, e, _⟩, _⟩ := x; exact ⟨_, e⟩
 | rng lo hi => obtain ⟨_, _, _, e⟩ := x; exact ⟨_, e⟩
 | frz ob u => obtain ⟨e, _⟩ := x; exact ⟨_, e⟩
 | tbl ps => exact ⟨_, x⟩
 | met f y => exact ⟨_, x⟩
 | ext φ => exact x.2.1
theorem nF {X : Cx} (hex : X.ex = []) : cE X (.builtin "sorted") (q0 X.K) := by
 intro pins s σ H xs us Q I r h
 obtain ⟨l, ps, mss, rfl, hl, ht, hne, h64, q⟩ := h
 obtain ⟨u, rfl, rx⟩ := vals1 r
 cases rx
 obtain ⟨vs, rv, pl, hz⟩ := I.list hl
 have hlen : ps.length = mss.length := Paired.length ht
 have evs := jS rv
 subst evs
 by_cases h2 : ps.length < 2
 ·refine ny pl.isList (by simpa using h2) ?_
  obtain ⟨e, he⟩ := sortedAll_at s.heap (ps.map Value.ref) (ps.map Value.ref).toArray
  have es : srt mss = mss := (nv (List.Perm.refl _) (by
   match mss, hlen with
   | [], _ => exact List.Pairwise.nil
   | [_], _ => simp
   | _ :: _ :: _, hl => simp at hl; lia)).symm
  refine ⟨.ref (s.heap.objs.size + 1), _, I.laid (t' := s.toks) (o := .lst (ps.map V.ref)) (fun b o e => sortedAll_old e) (Nat.le_succ _) ⟨hz, _, e, rv, he⟩, rfl, q _ ps (I.hok.fresh (Nat.le_succ _)) (by rw [es]; exact ht)⟩
 ·obtain ⟨m, F⟩ := I.fr
  refine PySem.W.kat_sorted (news := bF X.base s.heap X.env.locals) F dD pl.isList (by simp; lia) (by simp; lia) fun D e1 h' F' N' hlt => ?_
  have N1 : News X.base X.env.locals h' (bF X.base s.heap X.env.locals) := fun p hp => N' p (List.mem_cons_of_mem _ hp)
  have I1 : Inv X pins σ H { s with heap := h' } := I.led (t' := s.toks) F.ns F' N1
  have ND := N' (D, _) List.mem_cons_self
  have freshD : ∀ b o, s.heap.get? b = some o -> b ≠ D := fun b o e z => by
   by_cases hb : b = X.env.locals
   ·exact ND.2.1 (z ▸ hb)
   ·cases q : X.base.get? b with
    | some u => rw [z, ND.2.2] at q; cases q
    | none => exact absurd (hlt (b, o) (dk hb q e)) (by rw [z]; exact Nat.lt_irrefl _)
  have hDn : H D = none := by
   cases z : H D with
   | none => rfl
   | some u =>
    obtain ⟨ob, eo⟩ := bu.there (I.hok D u z)
    exact absurd rfl (freshD D ob eo)
  obtain ⟨fs, k1, k2, k3⟩ := nE (h := h') (fun a xs hx => let ⟨its, r1, r2, _⟩ := I1.tuple hx; ⟨its, r1, r2⟩) ht hne
  refine PySem.W.kat_kind (T := .type "int") (s := { s with heap := h' }) k1 (by lia) (fun v hv => ?_) rfl ?_
  ·obtain ⟨i, t, rfl⟩ := k3 v hv
   exact PySem.W.Looks.of_pure rfl
  ·rw [show ((Value.type "int") != Value.type "tuple") = true by decide +kernel]
   have hn1 : 0 < (ps.map Value.ref).length := by simp; lia
   refine Srt.wp_run (n := (ps.map Value.ref).length) (c := Srt.cmpOf (O := lexOrd) fun i => mss.getD i []) (fun i j C hi hj hC => ?_) (Srt.oB hn1).1 ?_
   ·rw [List.length_map] at hi hj
    unfold PySem.W.kas_ask
    have gi : ∀ k, k < ps.length -> (ps.map Value.ref).getD k Value.none = Value.ref (ps.getD k 0) := fun k hk => by simp [List.getD_eq_getElem?_getD, hk]
    rw [gi i hi, gi j hj]
    exact za I1 (ht.get i hi) (ht.get j hj) hC
   ·have pp := Srt.kz (Srt.cmpOf (O := lexOrd) fun i => mss.getD i []) (Srt.oB hn1).2
    have ss := Srt.qX (O := lexOrd) (key := fun i => mss.getD i []) (n := (ps.map Value.ref).length) hn1
    generalize Srt.run (Srt.cmpOf (O := lexOrd) fun i => mss.getD i []) (PySem.W.kas_sort (ps.map Value.ref).length) = p at *
    refine PySem.W.KasFin.intro F' N' (.head fun q hq => Nat.ne_of_lt (hlt q hq)) fun h2 c F2 N2 => ?_
    have N3 : News X.base X.env.locals h2 (bF X.base s.heap X.env.locals) := fun p hp => N2 p (List.mem_cons_of_mem _ hp)
    have I2 : Inv X pins σ H { s with heap := h2 } := I.led (t' := s.toks) F.ns F2 N3
    have gD := (N2 (D, _) List.mem_cons_self).1
    have hpl : ∀ i ∈ p.toList, i < ps.length := fun i hi => by
     have := pp.mem_iff.mp hi
     simpa using this
    have tp := ht.pick hpl
    have hpn : p.toList.length = ps.length := by have := pp.length_eq; simpa using this
    have eo : (p.toList.map fun i => (ps.map Value.ref).getD i Value.none) = (p.toList.map fun i => ps.getD i 0).map Value.ref := by
     rw [List.map_map]
     refine List.map_congr_left fun i hi => ?_
     have := hpl i hi
     simp [List.getD_eq_getElem?_getD, this]
    have es : (p.toList.map fun i => mss.getD i []) = srt mss := by
     refine nv ?_ ?_
     ·have := pp.map fun i => mss.getD i []
      rw [List.length_map, hlen, iO] at this
      exact this
     ·rw [List.pairwise_iff_getElem]
      intro i j hi hj hij
      have hi' : i < p.size := by simpa using hi
      have hj' : j < p.size := by simpa using hj
      have q := ss i j (Nat.le_of_lt hij) (by rw [pp.size] at hj'; exact hj')
      have gp : ∀ k (hk : k < p.size), Srt.KP (O := lexOrd) (fun i => mss.getD i []) p k = mss.getD p[k] [] := fun k hk => by show mss.getD (p.getD k 0) [] = mss.getD p[k] []; rw [show p.getD k 0 = p[k] by simp [Array.getD, hk]]
      rw [gp i hi', gp j hj'] at q
      simp only [List.getElem_map, Array.getElem_toList]
      have q : HT.lexLt (mss.getD p[j] []) (mss.getD p[i] []) = false := q
      unfold lexLe
      rw [q]
      rfl
    rw [es] at tp
    have s0D : X.s₀.heap.get? D = none := by
     cases z : X.s₀.heap.get? D with
     | none => rfl
     | some ob =>
      obtain ⟨o', e'⟩ := I.base.there D ob z (by rw [hex]; simp)
      exact absurd rfl (freshD D o' e')
    refine ⟨.ref D, upd H D (.lst ((p.toList.map fun i => ps.getD i 0).map V.ref)), I2.trackN hDn s0D ND.2.1 (fun x c e z => ?_) (fun p hp z => ?_) ?_, rfl, q D _ hDn tp⟩
    ·obtain ⟨v, o, ho, _⟩ := I.cell x c e
     exact freshD c o ho z
    ·exact freshD p.1 p.2 (I.pin p hp).1 z
    ·refine ⟨by rw [List.length_map, List.length_map, hpn, sizeLine_eq]; lia, _, c, jT _, ?_⟩
     rw [eo] at gD
     exact gD
end L2
end
section
namespace L2
open PySem PySem.Spec PyProof.Rows
def nG (scope osc : Scope) (N tg cs : List Str) (ix : List Nat) : Prop :=
 (∀ y ∈ scope.names, y.2 ≠ .cell) /\ (∀ y ∈ scope.names, y.2 = .local -> scope.names.lookup y.1 = some .local) /\ (tg ++ cs).Nodup /\ ix.map (fun i => N[i]?) = cs.map some /\
 (∀ x ∈ cs, (x, NameKind.free) ∈ scope.names /\ scope.names.lookup x = some .free) /\ ∀ y ∈ scope.names, y.2 = .free -> osc.names.lookup y.1 = some .cell \/ osc.names.lookup y.1 = some .free
instance (scope osc : Scope) (N tg cs : List Str) (ix : List Nat) : Decidable (nG scope osc N tg cs ix) := by unfold nG; infer_instance
theorem aI {X : Cx} {scope : Scope} {tg cs : List Str} (osc : Scope) (N : List Str) (h : nG scope osc N tg cs ix) (hk : scope.kind = .function := by rfl) (ho : X.env.scope = osc := by rfl) (hN : X.N = N := by rfl) : bt X scope tg cs ix := by
 obtain ⟨h1, h2, h3, h4, h5, h6⟩ := h
 exact ⟨hk, h1, h2, h3, by rw [hN]; exact h4, h5, fun x hx => by rw [ho]; exact h6 (x, .free) hx rfl⟩
end L2
end
section
namespace L2
open PySem PySem.Spec PyProof.Rows
section
variable {X : Cx} {pins : List (Addr × Obj)} {σ : St} {H H1 : Hp} {s : Shared}
theorem lT {elt target iter : Expr} {ifs : List Expr} {scope : Scope} {pos spos py : Pos} {yy : Str} {ii : Nat} {tg cs : List Str} {wi : TI} {g : TG} {tc : TT} {te : TE} (hN0 : X.N.Nodup) (hi0 : X.N[ii]? = some yy) (hx0 : Loc X.env.scope yy)
  (S : bt X scope tg cs ix) (hcalm : X.calm = true) (kg : dU tg.length ix g)
  (hi : PI X target iter wi) (hg : ∀ C fp s H, PG (aq X scope (tg ++ cs) C fp s H) target g) (hc : ∀ C fp s H, PTs (aq X scope (tg ++ cs) C fp s H) ifs tc) (he : ∀ C fp s H, PE (aq X scope (tg ++ cs) C fp s H) elt te)
  (hf0 : X.fn yy = true \/ X.env.scope.names.lookup yy = some .local)
  (hsw : swapsWith (.ListComp elt [⟨target, iter, ifs, 0⟩] scope pos) (some (.Name yy py)) spos.line X.env = pure true)
  (hs : ∀ x, foldedSetIterable iter X.env x = pure x := by intro _; rfl) : PS X (.Assign [.Name yy py] (.ListComp elt [⟨target, iter, ifs, 0⟩] scope pos) spos) (dH (iK wi tg.length ix g tc te) (bL ii)) := by
 intro pins s σ H Dn I h
 rw [exec_Assign_Name_used _ _ _ _ hsw]
 refine wpAny_bind (wpAny_standAt (wpAny_bind ?_))
 show wpAny _ X.A (do let _ <- comprehension (.ListComp elt [⟨target, iter, ifs, 0⟩] scope pos) scope X.env _ (newList []) false (eval iter X.env) (some (assign (.Name yy py) X.env))) _ _ s
 refine wpAny_bind (wpAny_mono (jQ (use := some (assign (.Name yy py) X.env)) (Qc := fun _ s' => SP X pins Dn .next s') S hcalm kg hi hg hc he hs I h fun D C H' s' v I' q fp z => ?_) (fun _ s' hq => wpAny_pure (wpAny_pure hq)) fun _ _ e => e)
 obtain ⟨f0, c1, _, c3, c4, c5⟩ := fp
 obtain ⟨m, hm⟩ := z
 show wpAny _ X.A (assign (.Name yy py) X.env (.ref D)) _ _ s'
 refine wpAny_assign_Name (gz (v := .ref D) I' hN0 hi0 hx0 rfl (fun s'' I'' zq => ?_) hf0)
 obtain ⟨a, sb, ha⟩ := zq
 have hCa : C ≠ a := by
  rcases ha with rfl | ha
  ·exact c1
  ·exact (c4 _ _ ha).symm
 exact ⟨m, hm.sameBut sb hCa, fun h' sb' => ⟨_, _, I''.turned (t' := s''.toks) (it := C) (fun b o hb e => (sb'.2 b hb).trans e) f0 c1 c3 c4 c5, q⟩⟩
end
end L2
end
section
namespace VL
open PySem L2
inductive D where
 | int (i : Int) | bl (b : Bool) | non | str (x : Str) | ty (n : String) | tup (ds : List D) | lst (ds : List D) | dic (ks : List (List Int)) (vs : List D) | exc (c : Value)
def kT (ms : List Int) : D := .tup (ms.map .int)
def IsM : Option HO -> Prop
 | some (.lst _) => True
 | some (.ext _) => True
 | _ => False
theorem IsM.ne {o : Option HO} (h : IsM o) : o ≠ none := by rintro rfl; exact h
abbrev AP := Addr -> Prop
def Any : AP := fun _ => True
abbrev FP := Option Addr -> Prop
def AnyF : FP := fun _ => True
def Fr (H0 : Hp) : FP := fun o => ∃ a, o = some a /\ H0 a = none
mutual
inductive Rep (K : PySem.W.Frag) (N : AP) (F : FP) (H : Hp) : V -> D -> Prop where
 | int (i : Int) : Rep K N F H (.int i) (.int i)
 | bl (b : Bool) : Rep K N F H (.bl b) (.bl b)
 | non : Rep K N F H .non .non
 | str (x : Str) : Rep K N F H (.str x) (.str x)
 | ty (x : String) : Rep K N F H (.ty x) (.ty x)
 | tup {a : Addr} {vs : List V} {ds : List D} (n : N a) (h : Rd H a (.tup vs)) (r : Reps K N F H vs ds) : Rep K N F H (.ref a) (.tup ds)
 | tupK {a : Addr} {vs : List V} {ds : List D} (h : SqT K (fun _ => none) a vs) (r : Reps K N F H vs ds) : Rep K N F H (.ref a) (.tup ds)
 | lst {a : Addr} {vs : List V} {ds : List D} (n : N a) (f : F (some a)) (h : H a = some (.lst vs)) (r : Reps K N F H vs ds) : Rep K N F H (.ref a) (.lst ds)
 | lstF {a : Addr} {vs : List V} {ds : List D} {o : Obj} (n : N a) (f : F none) (h : H a = some (.frz o (.lst vs))) (r : Reps K N F H vs ds) : Rep K N F H (.ref a) (.lst ds)
 | lstK {a : Addr} {vs : List V} {ds : List D} (f : F none) (h : SqL K (fun _ => none) a vs) (r : Reps K N F H vs ds) : Rep K N F H (.ref a) (.lst ds)
 | dic {a : Addr} {ob : Obj} {es : List (List Int × Addr × V)} {ks : List (List Int)} {ds : List D} (n : N a) (f : F (some a)) (h : H a = some (kx a ob es)) (e : es.map (·.1) = ks) (rk : Reps K N F H (es.map fun x => .ref x.2.1) (ks.map kT)) (r : Reps K N F H (es.map (·.2.2)) ds) : Rep K N F H (.ref a) (.dic ks ds)
 | exc {x : Addr} {c : Value} {o : Obj} (n : N x) (h : H x = some (.frz o (.own x))) (e : o.cls = c) : Rep K N F H (.ref x) (.exc c)
inductive Reps (K : PySem.W.Frag) (N : AP) (F : FP) (H : Hp) : List V -> List D -> Prop where
 | nil : Reps K N F H [] []
 | cons {v : V} {d : D} {vs : List V} {ds : List D} (h : Rep K N F H v d) (t : Reps K N F H vs ds) : Reps K N F H (v :: vs) (d :: ds)
end
section
variable {K : PySem.W.Frag} {N N' : AP} {F F' : FP} {H H' H0 : Hp}
theorem Rd.there {a : Addr} {u : HO} (h : Rd H a u) : H a ≠ none := by rcases h with h | ⟨o, h⟩ <;> simp [h]
theorem Rd.keep {a : Addr} {u : HO} (h : Rd H a u) (e : H' a = H a) : Rd H' a u := by
 rcases h with h | ⟨o, h⟩
 ·exact .inl (e.trans h)
 ·exact .inr ⟨o, e.trans h⟩
mutual
theorem Rep.mono (hN : ∀ a, N a -> H a ≠ none -> N' a /\ H' a = H a) (hF : ∀ o, F o -> F' o) {v : V} {d : D} : Rep K N F H v d -> Rep K N' F' H' v d
 | .int i => .int i
 | .bl i => .bl i
 | .non => .non
 | .str i => .str i
 | .ty i => .ty i
 | .tup n h r => .tup (hN _ n (Rd.there h)).1 (Rd.keep h (hN _ n (Rd.there h)).2) (Reps.mono hN hF r)
 | .tupK h r => .tupK h (Reps.mono hN hF r)
 | .lst n f h r => .lst (hN _ n (by simp [h])).1 (hF _ f) ((hN _ n (by simp [h])).2.trans h) (Reps.mono hN hF r)
 | .lstF n f h r => .lstF (hN _ n (by simp [h])).1 (hF _ f) ((hN _ n (by simp [h])).2.trans h) (Reps.mono hN hF r)
 | .lstK f h r => .lstK (hF _ f) h (Reps.mono hN hF r)
 | .dic n f h e rk r => .dic (hN _ n (by simp [h])).1 (hF _ f) ((hN _ n (by simp [h])).2.trans h) e (Reps.mono hN hF rk) (Reps.mono hN hF r)
 | .exc n h e => .exc (hN _ n (by simp [h])).1 ((hN _ n (by simp [h])).2.trans h) e
theorem Reps.mono (hN : ∀ a, N a -> H a ≠ none -> N' a /\ H' a = H a) (hF : ∀ o, F o -> F' o) {vs : List V} {ds : List D} : Reps K N F H vs ds -> Reps K N' F' H' vs ds
 | .nil => .nil
 | .cons h t => .cons (Rep.mono hN hF h) (Reps.mono hN hF t)
end
theorem Rep.any {d : D} (h : Rep K N F H v d) : Rep K Any AnyF H v d := h.mono (fun _ _ _ => ⟨trivial, rfl⟩) (fun _ _ => trivial)
theorem Reps.any {ds : List D} (h : Reps K N F H vs ds) : Reps K Any AnyF H vs ds := h.mono (fun _ _ _ => ⟨trivial, rfl⟩) (fun _ _ => trivial)
mutual
theorem Rep.avoid (h1 : ∀ a, ¬N' a -> IsM (H a)) (h2 : ∀ a, F (some a) -> N' a) {v : V} {d : D} : Rep K N F H v d -> Rep K N' F H v d
 | .int i => .int i
 | .bl i => .bl i
 | .non => .non
 | .str i => .str i
 | .ty i => .ty i
 | .tup (a := a) n h r => .tup (Classical.byContradiction fun z => by
   have e := h1 a z
   rcases h with h | ⟨o, h⟩ <;> rw [h] at e <;> exact e) h (Reps.avoid h1 h2 r)
 | .tupK h r => .tupK h (Reps.avoid h1 h2 r)
 | .lst n f h r => .lst (h2 _ f) f h (Reps.avoid h1 h2 r)
 | .lstF (a := a) n f h r => .lstF (Classical.byContradiction fun z => by
   have e := h1 a z
   rw [h] at e; exact e) f h (Reps.avoid h1 h2 r)
 | .lstK f h r => .lstK f h (Reps.avoid h1 h2 r)
 | .dic n f h e rk r => .dic (h2 _ f) f h e (Reps.avoid h1 h2 rk) (Reps.avoid h1 h2 r)
 | .exc (x := a) n h e => .exc (Classical.byContradiction fun z => by
   have e := h1 a z
   rw [h] at e; exact e) h e
theorem Reps.avoid (h1 : ∀ a, ¬N' a -> IsM (H a)) (h2 : ∀ a, F (some a) -> N' a) {vs : List V} {ds : List D} : Reps K N F H vs ds -> Reps K N' F H vs ds
 | .nil => .nil
 | .cons h t => .cons (Rep.avoid h1 h2 h) (Reps.avoid h1 h2 t)
end
mutual
def flat : D -> Bool
 | .lst _ => false
 | .dic _ _ => false
 | .tup ds => flats ds
 | _ => true
def flats : List D -> Bool
 | [] => true
 | d :: r => flat d && flats r
end
theorem hU : ∀ ms : List Int, flats (ms.map D.int) = true
 | [] => rfl
 | _ :: r => by simp [flats, flat, hU r]
theorem fR : ∀ ks : List (List Int), flats (ks.map kT) = true
 | [] => rfl
 | _ :: r => by simp [flats, kT, flat, hU, fR r]
mutual
theorem Rep.flat {v : V} {d : D} : Rep K N F H v d -> VL.flat d = true -> Rep K N F' H v d := fun hh ee => by
 cases hh with
 | int i => exact .int i
 | bl i => exact .bl i
 | non => exact .non
 | str i => exact .str i
 | ty i => exact .ty i
 | tup n h r => have e := ee; exact .tup n h (Reps.flat r (by simpa [VL.flat] using e))
 | tupK h r => have e := ee; exact .tupK h (Reps.flat r (by simpa [VL.flat] using e))
 | lst n f h r => have e := ee; simp [VL.flat] at e
 | lstF n f h r => have e := ee; simp [VL.flat] at e
 | lstK f h r => have e := ee; simp [VL.flat] at e
 | dic n f h _ _ r => have e := ee; simp [VL.flat] at e
 | exc n h e0 => exact .exc n h e0
theorem Reps.flat {vs : List V} {ds : List D} : Reps K N F H vs ds -> flats ds = true -> Reps K N F' H vs ds := fun hh ee => by
 cases hh with
 | nil => exact .nil
 | cons h t =>
  have e := ee
  simp only [flats, Bool.and_eq_true] at e
  exact .cons (Rep.flat h e.1) (Reps.flat t e.2)
end
theorem Reps.length : ∀ {vs : List V} {ds : List D}, Reps K N F H vs ds -> vs.length = ds.length
 | _, _, .nil => rfl
 | _, _, .cons _ t => by simp [Reps.length t]
theorem Reps.get : ∀ {vs : List V} {ds : List D} {i : Nat} {v : V}, Reps K N F H vs ds -> vs[i]? = some v -> ∃ d, ds[i]? = some d /\ Rep K N F H v d
 | _, _, 0, _, .cons h _, e => by simp at e; subst e; exact ⟨_, rfl, h⟩
 | _, _, i + 1, v, .cons _ t, e => by
  obtain ⟨d, h1, h2⟩ := Reps.get (i := i) (v := v) t (by simpa using e)
  exact ⟨d, by simpa using h1, h2⟩
 | _, _, _, _, .nil, e => by simp at e
theorem Reps.getD : ∀ {vs : List V} {ds : List D} {i : Nat} {d : D}, Reps K N F H vs ds -> ds[i]? = some d -> ∃ v, vs[i]? = some v /\ Rep K N F H v d
 | _, _, 0, _, .cons h _, e => by simp at e; subst e; exact ⟨_, rfl, h⟩
 | _, _, i + 1, v, .cons _ t, e => by
  obtain ⟨d, h1, h2⟩ := Reps.getD (i := i) (d := v) t (by simpa using e)
  exact ⟨d, by simpa using h1, h2⟩
 | _, _, _, _, .nil, e => by simp at e
theorem Reps.append : ∀ {vs ws : List V} {ds es : List D}, Reps K N F H vs ds -> Reps K N F H ws es -> Reps K N F H (vs ++ ws) (ds ++ es)
 | _, _, _, _, .nil, s => s
 | _, _, _, _, .cons h t, s => .cons h (Reps.append t s)
theorem Reps.take : ∀ {vs : List V} {ds : List D} (n : Nat), Reps K N F H vs ds -> Reps K N F H (vs.take n) (ds.take n)
 | _, _, 0, _ => by simpa using .nil
 | _, _, _ + 1, .nil => by simpa using .nil
 | _, _, n + 1, .cons h t => by simpa using .cons h (Reps.take n t)
theorem Reps.drop : ∀ {vs : List V} {ds : List D} (n : Nat), Reps K N F H vs ds -> Reps K N F H (vs.drop n) (ds.drop n)
 | _, _, 0, h => by simpa using h
 | _, _, _ + 1, .nil => by simpa using .nil
 | _, _, n + 1, .cons h t => by simpa using Reps.drop n t
theorem Reps.set {d : D} (h : Rep K N F H v d) : ∀ {vs : List V} {ds : List D} (i : Nat), Reps K N F H vs ds -> Reps K N F H (vs.set i v) (ds.set i d)
 | _, _, _, .nil => by simpa using .nil
 | _, _, 0, .cons _ t => by simpa using .cons h t
 | _, _, i + 1, .cons q t => by simpa using .cons q (Reps.set h i t)
theorem Reps.ints : ∀ {ns : List Int}, Reps K N F H (ns.map V.int) (ns.map D.int)
 | [] => .nil
 | _ :: r => .cons (.int _) (Reps.ints (ns := r))
theorem Reps.toInts : ∀ {vs : List V} {ns : List Int}, Reps K N F H vs (ns.map D.int) -> vs = ns.map V.int
 | _, [], .nil => rfl
 | _, n :: ns, .cons h t => by cases h; rw [Reps.toInts t]; rfl
theorem fS {a : Addr} (h : SqT K (fun _ => none) a vs) : SqT K H a vs := by
 rcases h with (h | ⟨o, h⟩) | h
 ·cases h
 ·cases h
 ·exact .inr h
theorem iP {a : Addr} (h : SqL K (fun _ => none) a vs) : SqL K H a vs := by
 rcases h with (h | ⟨o, h⟩) | h
 ·cases h
 ·cases h
 ·exact .inr h
theorem Rep.sqT {ds : List D} (h : Rep K N F H v (.tup ds)) : ∃ a vs, v = .ref a /\ SqT K H a vs /\ Reps K N F H vs ds := by
 cases h with
 | tup n h r => exact ⟨_, _, rfl, .inl h, r⟩
 | tupK h r => exact ⟨_, _, rfl, fS h, r⟩
theorem Rep.sqL {ds : List D} (h : Rep K N F H v (.lst ds)) : ∃ a vs, v = .ref a /\ SqL K H a vs /\ Reps K N F H vs ds := by
 cases h with
 | lst n f h r => exact ⟨_, _, rfl, .inl (.inl h), r⟩
 | lstF n f h r => exact ⟨_, _, rfl, .inl (.inr ⟨_, h⟩), r⟩
 | lstK f h r => exact ⟨_, _, rfl, iP h, r⟩
theorem Rep.of_sqL {a : Addr} {ds : List D} (h : SqL K H a vs) (n : N a) (f : ∀ o, F o) (r : Reps K N F H vs ds) : Rep K N F H (.ref a) (.lst ds) := by
 rcases h with (h | ⟨o, h⟩) | h
 ·exact .lst n (f _) h r
 ·exact .lstF n (f _) h r
 ·exact .lstK (f _) (.inr h) r
end
structure DX where
 ok : PySem.W.Frag -> Hp -> AP -> Hp -> Addr -> Prop
 ism : ∀ {K : PySem.W.Frag} {H0 : Hp} {N : AP} {H : Hp} {a : Addr}, ok K H0 N H a -> IsM (H a)
 mono : ∀ {K : PySem.W.Frag} {H0 : Hp} {N N' : AP} {H H' : Hp} {a : Addr}, (∀ b, N b -> H b ≠ none -> N' b /\ H' b = H b) -> H' a = H a -> ok K H0 N H a -> ok K H0 N' H' a
inductive Sl where
 | no | val (d : D) | fre (d : D) | own (ds : List D) | pen (ad : Option Addr) (ns : List Int) | odi (ks : List (List Int)) (vs : List D) | obj (k : DX)
def Sl.mut : Sl -> Bool
 | .own _ => true
 | .pen _ _ => true
 | .odi _ _ => true
 | .obj _ => true
 | _ => false
def Mo (Z : AP) (σ : St) (S : List Sl) (a : Addr) : Prop := (∃ (i : Nat) (s : Sl), S[i]? = some s /\ s.mut = true /\ σ[i]? = some (some (V.ref a))) \/ Z a
abbrev NM (Z : AP) (σ : St) (S : List Sl) : AP := fun a => ¬Mo Z σ S a
def qb (K : PySem.W.Frag) (H0 : Hp) (N : AP) (H : Hp) (o : Option V) : Sl -> Prop
 | .no => True
 | .val d => ∃ v, o = some v /\ Rep K N AnyF H v d
 | .fre d => ∃ v, o = some v /\ Rep K N (Fr H0) H v d
 | .own ds => ∃ a vs, o = some (.ref a) /\ H a = some (.lst vs) /\ H0 a = none /\ Reps K N (Fr H0) H vs ds
 | .pen ad ns => ∃ a, o = some (.ref a) /\ (∀ b, ad = some b -> a = b) /\ H a = some (.lst (ns.map .int))
 | .odi ks ds => ∃ a es, o = some (.ref a) /\ (∃ ob, H a = some (kx a ob es)) /\ H0 a = none /\ (es.map (·.1) = ks /\ Reps K N AnyF H (es.map fun x => V.ref x.2.1) (ks.map kT)) /\ Reps K N (Fr H0) H (es.map (·.2.2)) ds
 | .obj k => ∃ a, o = some (.ref a) /\ H0 a = none /\ k.ok K H0 N H a
structure OK (K : PySem.W.Frag) (H0 : Hp) (Z : AP) (σ : St) (H : Hp) (S : List Sl) : Prop where
 len : σ.length = S.length
 at_ : ∀ (i : Nat) (o : Option V) (s : Sl), σ[i]? = some o -> S[i]? = some s -> qb K H0 (NM Z σ S) H o s
 inj : ∀ (i j : Nat) (a : Addr) (s t : Sl), S[i]? = some s -> S[j]? = some t -> s.mut = true -> t.mut = true -> σ[i]? = some (some (V.ref a)) -> σ[j]? = some (some (V.ref a)) -> i = j
 dom : ∀ a, H a = none -> H0 a = none
 zl : ∀ a, Z a -> IsM (H a)
 nz : ∀ (i : Nat) (s : Sl) (a : Addr), S[i]? = some s -> s.mut = true -> σ[i]? = some (some (V.ref a)) -> ¬Z a
def Step (Z : AP) (σ : St) (S : List Sl) (H : Hp) (σ' : St) (S' : List Sl) (H' : Hp) : Prop := (∀ a, NM Z σ S a -> H a ≠ none -> H' a = H a /\ NM Z σ' S' a) /\ (∀ a, H' a = none -> H a = none) /\ ∀ a, Z a -> H a ≠ none -> H' a = H a
section
variable {K : PySem.W.Frag} {N N' : AP} {F F' : FP} {H H' H'' H0 : Hp} {Z : AP} {σ σ' σ'' : St} {S S' S'' : List Sl}
theorem Step.refl : Step Z σ S H σ S H := ⟨fun _ n _ => ⟨rfl, n⟩, fun _ h => h, fun _ _ _ => rfl⟩
theorem Step.trans (a : Step Z σ S H σ' S' H') (b : Step Z σ' S' H' σ'' S'' H'') : Step Z σ S H σ'' S'' H'' :=
 ⟨fun x n h => by
  obtain ⟨e1, n1⟩ := a.1 x n h
  obtain ⟨e2, n2⟩ := b.1 x n1 (by rw [e1]; exact h)
  exact ⟨e2.trans e1, n2⟩, fun x h => a.2.1 x (b.2.1 x h), fun x z h => by
  have e1 := a.2.2 x z h
  exact (b.2.2 x z (by rw [e1]; exact h)).trans e1⟩
theorem Rep.step {d : D} (h : Rep K (NM Z σ S) F H v d) (st : Step Z σ S H σ' S' H') : Rep K (NM Z σ' S') F H' v d := h.mono (fun a n e => ⟨(st.1 a n e).2, (st.1 a n e).1⟩) fun _ x => x
theorem Reps.step {ds : List D} (h : Reps K (NM Z σ S) F H vs ds) (st : Step Z σ S H σ' S' H') : Reps K (NM Z σ' S') F H' vs ds := h.mono (fun a n e => ⟨(st.1 a n e).2, (st.1 a n e).1⟩) fun _ x => x
theorem OK.mo (k : OK K H0 Z σ H S) {a : Addr} (h : Mo Z σ S a) : IsM (H a) := by
 rcases h with ⟨i, s, e1, e2, e3⟩ | h
 case inr => exact k.zl a h
 have q := k.at_ i _ s e3 e1
 cases s with
 | no => cases e2
 | val d => cases e2
 | fre d => cases e2
 | own ds => obtain ⟨b, vs, h1, h2, _⟩ := q; cases h1; rw [h2]; trivial
 | pen ad ns => obtain ⟨b, h1, _, h2⟩ := q; cases h1; rw [h2]; trivial
 | odi ks ds => obtain ⟨b, kvs, h1, ⟨ob, h2⟩, _⟩ := q; cases h1; rw [h2]; trivial
 | obj k => obtain ⟨b, h1, _, h2⟩ := q; cases h1; exact k.ism h2
theorem OK.grow (k : OK K H0 Z σ H S) (h : ∀ a, H a ≠ none -> H' a = H a) : OK K H0 Z σ H' S where
 len := k.len
 inj := k.inj
 nz := k.nz
 zl := fun a z => by
  have e := k.zl a z
  rw [h a e.ne]; exact e
 dom := fun a e => k.dom a (Classical.byContradiction fun z => by rw [h a z] at e; exact z e)
 at_ := fun i o s e1 e2 => by
  have q := k.at_ i o s e1 e2
  have hm : ∀ a, NM Z σ S a -> H a ≠ none -> NM Z σ S a /\ H' a = H a := fun a n e => ⟨n, h a e⟩
  cases s with
  | no => trivial
  | val d => obtain ⟨v, e, r⟩ := q; exact ⟨v, e, r.mono hm fun _ x => x⟩
  | fre d => obtain ⟨v, e, r⟩ := q; exact ⟨v, e, r.mono hm fun _ x => x⟩
  | own ds => obtain ⟨a, vs, e, e', e0, r⟩ := q; exact ⟨a, vs, e, by rw [h a (by simp [e'])]; exact e', e0, r.mono hm fun _ x => x⟩
  | pen ad ns => obtain ⟨a, e, e1, e'⟩ := q; exact ⟨a, e, e1, by rw [h a (by simp [e'])]; exact e'⟩
  | odi ks ds => obtain ⟨a, vs, e, ⟨ob, e'⟩, e0, ek, r⟩ := q; exact ⟨a, vs, e, ⟨ob, by rw [h a (by simp [e'])]; exact e'⟩, e0, ⟨ek.1, ek.2.mono hm fun _ x => x⟩, r.mono hm fun _ x => x⟩
  | obj k => obtain ⟨a, e, e0, r⟩ := q; exact ⟨a, e, e0, k.mono hm (h a (k.ism r).ne) r⟩
theorem Step.grow (h : ∀ a, H a ≠ none -> H' a = H a) : Step Z σ S H σ S H' := ⟨fun a n e => ⟨h a e, n⟩, fun a e => Classical.byContradiction fun z => by rw [h a z] at e; exact z e, fun a _ e => h a e⟩
theorem aU {p : Addr} {o : HO} (hp : H p = none) : ∀ a, H a ≠ none -> upd H p o a = H a := fun a e => aC fun z => e (by rw [z]; exact hp)
end
inductive VR where
 | d (x : D) | own (i : Nat)
def getO : Option Sl -> Option D
 | some (.own ds) => some (.lst ds)
 | some (.pen _ ns) => some (.lst (ns.map .int))
 | some (.odi ks vs) => some (.dic ks vs)
 | _ => none
def get (S : List Sl) : VR -> Option D
 | .d x => some x
 | .own i => getO S[i]?
def fT (K : PySem.W.Frag) (F : FP) (Z : AP) (σ : St) (S : List Sl) (H : Hp) (v : V) : VR -> Prop
 | .d x => Rep K (NM Z σ S) F H v x
 | .own i => σ[i]? = some (some v)
section
variable {K : PySem.W.Frag} {N N' : AP} {F F' : FP} {H H' H'' H0 : Hp} {Z : AP} {σ σ' σ'' : St} {S S' S'' : List Sl}
theorem fT.step {r : VR} (h : fT K F Z σ S H v r) (st : Step Z σ S H σ S' H') : fT K F Z σ S' H' v r := by
 cases r with
 | d x => exact Rep.step h st
 | own i => exact h
theorem fT.get {r : VR} {x : D} (h : fT K F Z σ S H v r) (k : OK K H0 Z σ H S) (e : get S r = some x) : Rep K Any AnyF H v x := by
 cases r with
 | d y => cases e; exact Rep.any h
 | own i =>
  have h : σ[i]? = some (some v) := h
  have e : getO S[i]? = some x := e
  cases es : S[i]? with
  | none => rw [es] at e; cases e
  | some s =>
   rw [es] at e
   cases s with
   | no => cases e
   | val d => cases e
   | fre d => cases e
   | own ds =>
    cases e
    obtain ⟨a, vs, h1, h2, h3, h4⟩ := k.at_ i _ _ h es
    cases h1
    exact .lst trivial trivial h2 h4.any
   | pen ad ns =>
    cases e
    obtain ⟨a, h1, _, h2⟩ := k.at_ i _ _ h es
    cases h1
    exact .lst trivial trivial h2 Reps.ints
   | odi ks ds =>
    cases e
    obtain ⟨a, kvs, h1, ⟨ob, h2⟩, h3, h4, h5⟩ := k.at_ i _ _ h es
    cases h1
    exact .dic trivial trivial h2 h4.1 h4.2.any h5.any
   | obj k => cases e
end
abbrev VT := List Sl -> (VR -> List Sl -> Prop) -> Prop
abbrev VTT := List Sl -> (Bool -> List Sl -> Prop) -> Prop
abbrev VTA := List Sl -> (List VR -> List Sl -> Prop) -> Prop
abbrev VTN := List Sl -> (List D -> List Sl -> Prop) -> Prop
def FM (H0 : Hp) (m : Bool) : FP := fun o => m = true -> Fr H0 o
def SndE (K : PySem.W.Frag) (m : Bool) (te : TE) (t : VT) : Prop := ∀ H0 Z σ H S Q C, OK K H0 Z σ H S -> t S Q -> (∀ v H' r S', OK K H0 Z σ H' S' -> Step Z σ S H σ S' H' -> fT K (FM H0 m) Z σ S' H' v r -> Q r S' -> C v H') -> te σ H C
def SndT (K : PySem.W.Frag) (te : TT) (t : VTT) : Prop := ∀ H0 Z σ H S Q C, OK K H0 Z σ H S -> t S Q -> (∀ b H' S', OK K H0 Z σ H' S' -> Step Z σ S H σ S' H' -> Q b S' -> C b H') -> te σ H C
inductive cP (K : PySem.W.Frag) (F : FP) (Z : AP) (σ : St) (S : List Sl) (H : Hp) : List V -> List VR -> Prop where
 | nil : cP K F Z σ S H [] []
 | cons {v : V} {r : VR} {vs : List V} {rs : List VR} (h : fT K F Z σ S H v r) (t : cP K F Z σ S H vs rs) : cP K F Z σ S H (v :: vs) (r :: rs)
def gets (S : List Sl) : List VR -> Option (List D)
 | [] => some []
 | r :: rs => match get S r, gets S rs with
  | some d, some ds => some (d :: ds)
  | _, _ => none
def zd (K : PySem.W.Frag) (m : Bool) (te : TA) (t : VTA) : Prop := ∀ H0 Z σ H S Q C, OK K H0 Z σ H S -> t S Q -> (∀ vs H' rs S', OK K H0 Z σ H' S' -> Step Z σ S H σ S' H' -> cP K (FM H0 m) Z σ S' H' vs rs -> Q rs S' -> C vs H') -> te σ H C
def Bw (K : PySem.W.Frag) (te : TE) (t : VTN) : Prop := ∀ H0 Z σ H S Q C, OK K H0 Z σ H S -> t S Q -> (∀ a vs ds H1 H' S', OK K H0 Z σ H1 S' -> Step Z σ S H σ S' H1 -> H1 a = none -> (∀ b, H1 b ≠ none -> H' b = H1 b) -> H' a = some (.lst vs) ->
 Reps K (fun b => NM Z σ S' b /\ b ≠ a) (Fr H0) H' vs ds -> Q ds S' -> C (.ref a) H') -> te σ H C
structure VE (K : PySem.W.Frag) (X : Cx) (m : Bool) (e : Expr) (te : TE) (t : VT) : Prop where
 pe : PE X e te
 snd : SndE K m te t
structure VTe (K : PySem.W.Frag) (X : Cx) (e : Expr) (te : TT) (t : VTT) : Prop where
 pe : PT X e te
 snd : SndT K te t
structure VWe (K : PySem.W.Frag) (X : Cx) (e : Expr) (te : TT) (t : VTT) : Prop where
 pe : PW X e te
 snd : SndT K te t
structure VA (K : PySem.W.Frag) (X : Cx) (m : Bool) (es : List Expr) (te : TA) (t : VTA) : Prop where
 pe : PA X es te
 snd : zd K m te t
structure VN (K : PySem.W.Frag) (X : Cx) (e : Expr) (te : TE) (t : VTN) : Prop where
 pe : PE X e te
 snd : Bw K te t
section
variable {K : PySem.W.Frag} {N N' : AP} {F F' : FP} {H H' H'' H0 : Hp} {Z : AP} {σ σ' σ'' : St} {S S' S'' : List Sl}
theorem cP.gets {rs : List VR} {ds : List D} (h : cP K F Z σ S H vs rs) (k : OK K H0 Z σ H S) (e : gets S rs = some ds) : Reps K Any AnyF H vs ds := by
 induction h generalizing ds with
 | nil => cases e; exact .nil
 | cons h t ih =>
  unfold VL.gets at e
  split at e
  ·rename_i d es h1 h2
   cases e
   exact .cons (h.get k h1) (ih h2)
  ·cases e
end
end VL
end
variable {kvs : List (List Int × VL.D)} {ds : List VL.D} {S : List VL.Sl} {d : VL.D} {r : VL.VR} {F : VL.FP} {Z : VL.AP} {H0 : L2.Hp} {rs : List VL.VR} {q : VL.D -> Prop} {p : List VL.D -> (VL.D -> Prop) -> Prop}
section
namespace VL
open PySem L2
section
variable {K : PySem.W.Frag} {X : Cx} {m : Bool} {e a b c : Expr} {ta tb tc te : TE} {va vb vc : VT} {pos : Pos}
theorem FM.any {a : Option Addr} : FM H0 false a := fun z => nomatch z
def vC (d : D) : VT := fun S Q => Q (.d d) S
theorem ah {i j} : VE K X m (.Constant (.int i) j pos) (tC (.int i)) (vC (.int i)) := ⟨yv, fun _ _ _ _ _ _ _ k h q => q _ _ (.d (.int i)) _ k .refl (Rep.int i) h⟩
theorem oD {i j} : VE K X m (.Constant (.bool i) j pos) (tC (.bl i)) (vC (.bl i)) := ⟨Bk, fun _ _ _ _ _ _ _ k h q => q _ _ (.d (.bl i)) _ k .refl (Rep.bl i) h⟩
theorem cL {j} : VE K X m (.Constant .none j pos) (tC .non) (vC .non) := ⟨yw, fun _ _ _ _ _ _ _ k h q => q _ _ (.d .non) _ k .refl Rep.non h⟩
theorem aB {i j} : VE K X m (.Constant (.str i) j pos) (tC (.str i)) (vC (.str i)) := ⟨qy, fun _ _ _ _ _ _ _ k h q => q _ _ (.d (.str i)) _ k .refl (Rep.str i) h⟩
theorem cV (h : PE X e (tC v)) (r : ∀ N H, Rep K N AnyF H v d) : VE K X false e (tC v) (vC d) := ⟨h, fun _ _ _ _ _ _ _ k h q => q _ _ (.d d) _ k .refl (show Rep K _ _ _ v d from (r _ _).mono (fun _ n _ => ⟨n, rfl⟩) (fun _ _ => FM.any)) h⟩
def rdO (i : Nat) : Option Sl -> Option VR
 | some (.val d) => some (.d d)
 | some (.fre d) => some (.d d)
 | some (.own _) => some (.own i)
 | some (.pen _ _) => some (.own i)
 | some (.odi _ _) => some (.own i)
 | some (.obj _) => some (.own i)
 | _ => none
def jH (i : Nat) : VT := fun S Q => ∃ r, rdO i S[i]? = some r /\ Q r S
theorem OK.var {H0 H : Hp} (k : OK K H0 Z σ H S) {i : Nat} (h : rdO i S[i]? = some r) : ∃ v, σ[i]? = some (some v) /\ fT K (FM H0 false) Z σ S H v r := by
 have hl := k.len
 cases es : S[i]? with
 | none => rw [es] at h; cases h
 | some s =>
  have hi : i < σ.length := by rw [hl]; exact (List.getElem?_eq_some_iff.mp es).1
  have q := k.at_ i _ s (List.getElem?_eq_getElem hi) es
  rw [es] at h
  cases s with
  | no => cases h
  | val d => obtain ⟨v, e, r'⟩ := q; cases h; exact ⟨v, by rw [List.getElem?_eq_getElem hi, e], r'.mono (fun _ n _ => ⟨n, rfl⟩) fun _ _ => FM.any⟩
  | fre d => obtain ⟨v, e, r'⟩ := q; cases h; exact ⟨v, by rw [List.getElem?_eq_getElem hi, e], r'.mono (fun _ n _ => ⟨n, rfl⟩) fun _ x _ => x⟩
  | own ds => obtain ⟨a, vs, e, _⟩ := q; cases h; exact ⟨.ref a, by rw [List.getElem?_eq_getElem hi, e], by show σ[i]? = _; rw [List.getElem?_eq_getElem hi, e]⟩
  | pen ad ds => obtain ⟨a, e, _⟩ := q; cases h; exact ⟨.ref a, by rw [List.getElem?_eq_getElem hi, e], by show σ[i]? = _; rw [List.getElem?_eq_getElem hi, e]⟩
  | odi ks ds => obtain ⟨a, _, e, _⟩ := q; cases h; exact ⟨.ref a, by rw [List.getElem?_eq_getElem hi, e], by show σ[i]? = _; rw [List.getElem?_eq_getElem hi, e]⟩
  | obj k => obtain ⟨a, e, _⟩ := q; cases h; exact ⟨.ref a, by rw [List.getElem?_eq_getElem hi, e], by show σ[i]? = _; rw [List.getElem?_eq_getElem hi, e]⟩
theorem aa (i : Nat) (h : PE X e (cS i)) : VE K X false e (cS i) (jH i) := ⟨h, fun H0 Z σ H S Q C k zq1 hc => by
 obtain ⟨r, h, q⟩ := zq1
 obtain ⟨v, e, rr⟩ := k.var h
 exact ⟨v, e, hc _ _ _ _ k .refl rr q⟩⟩
def xr (t : VT) : VT := fun S Q => t S fun r S' => (match r with | .d d => flat d = true | .own _ => True) /\ Q r S'
theorem bB (h : VE K X false e te va) : VE K X m e te (xr va) := ⟨h.pe, fun H0 Z σ H S Q C k t hc => h.snd H0 Z σ H S _ C k t fun v H' r S' k' st rr ⟨f, q⟩ => hc v H' r S' k' st (by
 cases r with
 | d x => exact Rep.flat rr f
 | own i => exact rr) q⟩
def v2 (w : D -> D -> (D -> Prop) -> Prop) (va vb : VT) : VT := fun S Q => va S fun ra S1 => vb S1 fun rb S2 => ∃ d1 d2, get S2 ra = some d1 /\ get S2 rb = some d2 /\ w d1 d2 fun d => Q (.d d) S2
def bT (K : PySem.W.Frag) (r : R2) (w : D -> D -> (D -> Prop) -> Prop) : Prop := ∀ (x y : V) (H : Hp) (d1 d2 : D) (q : D -> Prop) (C : VK), Rep K Any AnyF H x d1 -> Rep K Any AnyF H y d2 -> w d1 d2 q -> (∀ z dz, q dz -> (∀ N F, Rep K N F H z dz) -> C z H) -> r x y H C
theorem ze {r : R2} {w : D -> D -> (D -> Prop) -> Prop} (L : bT K r w) (ha : SndE K false ta va) (hb : SndE K false tb vb) : SndE K m (tOp r ta tb) (v2 w va vb) := by
 intro H0 Z σ H S Q C k t hc
 refine ha H0 Z σ H S _ _ k t fun x H1 ra S1 k1 st1 r1 t1 => ?_
 refine hb H0 Z σ H1 S1 _ _ k1 t1 fun y H2 rb S2 k2 st2 r2 zr1 => ?_
 obtain ⟨d1, d2, e1, e2, t2⟩ := zr1
 exact L x y H2 d1 d2 _ _ ((r1.step st2).get k2 e1) (r2.get k2 e2) t2 fun z dz q rz => hc z H2 (.d dz) S2 k2 (st1.trans st2) (rz _ _) q
theorem ak {op : Operator} {r : R2} {w : D -> D -> (D -> Prop) -> Prop} (ho : OpR X (binaryOp op) r) (L : bT K r w) (ha : VE K X false a ta va) (hb : VE K X false b tb vb) : VE K X m (.BinOp a op b pos) (tOp r ta tb) (v2 w va vb) := ⟨oe ho ha.pe hb.pe, ze L ha.snd hb.snd⟩
@[reducible] def ofV : V -> D
 | .int i => .int i
 | .bl b => .bl b
 | .str x => .str x
 | .ty x => .ty x
 | _ => .non
def scV : V -> Bool
 | .int _ => true | .bl _ => true | .str _ => true | .non => true | .ty _ => true | _ => false
theorem rf (h : scV v = true) {N : AP} : Rep K N F H v (ofV v) := by
 cases v <;> first | exact .int _ | exact .bl _ | exact .str _ | exact .non | exact .ty _ | cases h
def wI (C : Int -> Int -> Prop) (g : Int -> Int -> V) : D -> D -> (D -> Prop) -> Prop := fun d1 d2 q => ∃ i j, d1 = .int i /\ d2 = .int j /\ C i j /\ q (ofV (g i j))
def wI0 (g : Int -> Int -> V) : D -> D -> (D -> Prop) -> Prop := fun d1 d2 q => ∃ i j, d1 = .int i /\ d2 = .int j /\ q (ofV (g i j))
theorem b8 {C : Int -> Int -> Prop} {g : Int -> Int -> V} (hg : ∀ i j, scV (g i j) = true := by intro _ _; rfl) : bT K (rI C g) (wI C g) := by
 rintro x y H d1 d2 q Cc r1 r2 ⟨i, j, rfl, rfl, c, h⟩ hc
 cases r1; cases r2
 exact ⟨i, j, rfl, rfl, c, hc _ _ h fun _ _ => rf (hg i j)⟩
theorem aJ {g : Int -> Int -> V} (hg : ∀ i j, scV (g i j) = true := by intro _ _; rfl) : bT K (rI0 g) (wI0 g) := by
 rintro x y H d1 d2 q Cc r1 r2 ⟨i, j, rfl, rfl, h⟩ hc
 cases r1; cases r2
 exact ⟨i, j, rfl, rfl, hc _ _ h fun _ _ => rf (hg i j)⟩
def toV : D -> Option V
 | .int i => some (.int i)
 | .bl b => some (.bl b)
 | .str x => some (.str x)
 | .non => some .non
 | _ => none
theorem iu {u : V} {N : AP} (h : Rep K N F H v d) (e : toV d = some u) : v = u := by
 cases h <;> cases e <;> rfl
def wEq : D -> D -> (D -> Prop) -> Prop := fun d1 d2 q => ∃ x y, toV d1 = some x /\ toV d2 = some y /\ uv x y = true /\ q (.bl (decide (x = y)))
def wNe : D -> D -> (D -> Prop) -> Prop := fun d1 d2 q => ∃ x y, toV d1 = some x /\ toV d2 = some y /\ uv x y = true /\ q (.bl (!decide (x = y)))
theorem fU : bT K rEq wEq := by
 rintro x y H d1 d2 q C r1 r2 ⟨x', y', e1, e2, s, h⟩ hc
 obtain rfl := iu r1 e1
 obtain rfl := iu r2 e2
 exact ⟨s, hc _ _ h fun _ _ => .bl _⟩
theorem lU : bT K rNe wNe := by
 rintro x y H d1 d2 q C r1 r2 ⟨x', y', e1, e2, s, h⟩ hc
 obtain rfl := iu r1 e1
 obtain rfl := iu r2 e2
 exact ⟨s, hc _ _ h fun _ _ => .bl _⟩
def rh : D -> Bool
 | .non => true
 | _ => false
theorem lV {N : AP} (h : Rep K N F H v d) : decide (v = .non) = rh d := by cases h <;> rfl
def zf (neg : Bool) : D -> D -> (D -> Prop) -> Prop := fun d1 d2 q => d2 = .non /\ q (.bl (if neg then !rh d1 else rh d1))
theorem Bx : bT K (fun x y H Q => y = .non /\ Q (.bl (decide (x = .non))) H) (zf false) := by
 rintro x y H d1 d2 q C r1 r2 ⟨rfl, h⟩ hc
 cases r2
 exact ⟨rfl, by rw [lV r1]; exact hc _ _ h fun _ _ => .bl _⟩
theorem zg : bT K (fun x y H Q => y = .non /\ Q (.bl (!decide (x = .non))) H) (zf true) := by
 rintro x y H d1 d2 q C r1 r2 ⟨rfl, h⟩ hc
 cases r2
 exact ⟨rfl, by rw [lV r1]; exact hc _ _ h fun _ _ => .bl _⟩
def iQ (t : VT) : VTT := fun S Q => t S fun r S' => ∃ k, r = .d (.bl k) /\ Q k S'
theorem oE (h : SndE K m te va) : SndT K (lI te) (iQ va) := fun H0 Z σ H S Q C k t hc => h H0 Z σ H S _ _ k t fun v H' r S' k' st rr zq1 => by
 obtain ⟨b, e, q⟩ := zq1
 subst e
 cases (show Rep K _ _ H' v (.bl b) from rr)
 exact ⟨b, rfl, hc b H' S' k' st q⟩
theorem DY (h : SndE K m te va) : SndT K (tB te) (iQ va) := fun H0 Z σ H S Q C k t hc => h H0 Z σ H S _ _ k t fun v H' r S' k' st rr zq1 => by
 obtain ⟨b, e, q⟩ := zq1
 subst e
 cases (show Rep K _ _ H' v (.bl b) from rr)
 exact ⟨b, rfl, hc b H' S' k' st q⟩
theorem aK {op : CmpOp} {r : R2} {w : D -> D -> (D -> Prop) -> Prop} (ho : OpR X (compareOp op) r) (L : bT K r w) (ha : VE K X false a ta va) (hb : VE K X false b tb vb) (hm : behindInMarks op b = false) : VTe K X (.Compare a [op] [b] pos) (lI (tOp r ta tb)) (iQ (v2 w va vb)) :=
 ⟨uy ho ha.pe hb.pe hm, oE (m := false) (ze L ha.snd hb.snd)⟩
theorem dy {op : CmpOp} {r : R2} {w : D -> D -> (D -> Prop) -> Prop} (ho : OpR X (compareOp op) r) (L : bT K r w) (ha : VE K X false a ta va) (hb : VE K X false b tb vb) (hm : behindInMarks op b = false) : VE K X m (.Compare a [op] [b] pos) (tOp r ta tb) (v2 w va vb) :=
 ⟨ux ho ha.pe hb.pe hm, ze L ha.snd hb.snd⟩
theorem cf (h : VE K X false e te va) (he : ∀ whole, isTrue e X.env whole = (do let v <- whole; standAt e.pos; holding [v] (truthy v)) := by intro _; rfl) : VTe K X e (tB te) (iQ va) := ⟨yx h.pe he, DY h.snd⟩
def tru : D -> Option Bool
 | .bl b => some b
 | .int i => some (i != 0)
 | .non => some false
 | .lst ds => some !ds.isEmpty
 | .tup ds => some !ds.isEmpty
 | _ => none
section
variable {tA tB' : TT} {wA wB : VTT} {rest : List Expr}
def By (t u : VTT) : VTT := fun S Q => t S fun c S1 => if c = true then u S1 Q else Q false S1
def vOr (t u : VTT) : VTT := fun S Q => t S fun c S1 => if c = true then Q true S1 else u S1 Q
def BA (t : VTT) : VTT := fun S Q => t S fun c S1 => Q (!c) S1
theorem kD (h : VTe K X a tA wA) : VWe K X (.BoolOp .And [a] pos) tA wA := ⟨uo h.pe, h.snd⟩
theorem cW (h : VTe K X a tA wA) : VWe K X (.BoolOp .Or [a] pos) tA wA := ⟨yz h.pe, h.snd⟩
theorem nH (ha : VTe K X a tA wA) (hb : VWe K X (.BoolOp .And (b :: rest) pos) tB' wB) : VWe K X (.BoolOp .And (a :: b :: rest) pos) (Bl tA tB') (By wA wB) := ⟨yA ha.pe hb.pe, fun H0 Z σ H S Q C k t hc =>
 ha.snd H0 Z σ H S _ _ k t fun c H1 S1 k1 st1 q => by
  cases c with
  | true => rw [if_pos rfl] at q ⊢; exact hb.snd H0 Z σ H1 S1 _ _ k1 q fun c2 H2 S2 k2 st2 q2 => hc c2 H2 S2 k2 (st1.trans st2) q2
  | false => rw [if_neg Bool.false_ne_true] at q ⊢; exact hc false H1 S1 k1 st1 q⟩
theorem cH (ha : VTe K X a tA wA) (hb : VWe K X (.BoolOp .Or (b :: rest) pos) tB' wB) : VWe K X (.BoolOp .Or (a :: b :: rest) pos) (tOr tA tB') (vOr wA wB) := ⟨Bn ha.pe hb.pe, fun H0 Z σ H S Q C k t hc =>
 ha.snd H0 Z σ H S _ _ k t fun c H1 S1 k1 st1 q => by
  cases c with
  | false => rw [if_neg Bool.false_ne_true] at q ⊢; exact hb.snd H0 Z σ H1 S1 _ _ k1 q fun c2 H2 S2 k2 st2 q2 => hc c2 H2 S2 k2 (st1.trans st2) q2
  | true => rw [if_pos rfl] at q ⊢; exact hc true H1 S1 k1 st1 q⟩
theorem dt (h : VWe K X e tA wA) : VTe K X e tA wA := ⟨h.pe.pt, h.snd⟩
theorem bU (h : VTe K X a tA wA) : VTe K X (.UnaryOp .Not a pos) (Bm tA) (BA wA) := ⟨yB h.pe, fun H0 Z σ H S Q C k t hc => h.snd H0 Z σ H S _ _ k t fun c H1 S1 k1 st1 q => hc (!c) H1 S1 k1 st1 q⟩
def xt (ta tb : VT) : VT := fun S Q => ta S fun r S1 => ∃ c, r = .d (.bl c) /\ if c = true then tb S1 Q else Q (.d (.bl false)) S1
def xu (ta : VT) : VT := fun S Q => ta S fun r S1 => ∃ c, r = .d (.bl c) /\ Q (.d (.bl (!c))) S1
theorem gI {op} (h : VE K X m a ta va) : VE K X m (.BoolOp op [a] pos) ta va := ⟨yC h.pe, h.snd⟩
theorem cX (ha : VE K X m a ta va) (hb : VE K X m (.BoolOp .And (b :: rest) pos) tb vb) : VE K X m (.BoolOp .And (a :: b :: rest) pos) (xi ta tb) (xt va vb) := ⟨yD ha.pe hb.pe, fun H0 Z σ H S Q C k t hc =>
 ha.snd H0 Z σ H S _ _ k t fun v H1 r S1 k1 st1 rr zq1 => by
  obtain ⟨c, e, q⟩ := zq1
  subst e
  cases (show Rep K _ _ H1 v (.bl c) from rr)
  refine ⟨c, rfl, ?_⟩
  cases c with
  | true => rw [if_pos rfl] at q ⊢; exact hb.snd H0 Z σ H1 S1 _ _ k1 q fun v2 H2 r2 S2 k2 st2 rr2 q2 => hc v2 H2 r2 S2 k2 (st1.trans st2) rr2 q2
  | false => rw [if_neg Bool.false_ne_true] at q ⊢; exact hc _ H1 (.d (.bl false)) S1 k1 st1 (Rep.bl false) q⟩
theorem rj (ha : VE K X m a ta va) : VE K X m (.UnaryOp .Not a pos) (xj ta) (xu va) := ⟨yE ha.pe, fun H0 Z σ H S Q C k t hc =>
 ha.snd H0 Z σ H S _ _ k t fun v H1 r S1 k1 st1 rr zq1 => by
  obtain ⟨c, e, q⟩ := zq1
  subst e
  cases (show Rep K _ _ H1 v (.bl c) from rr)
  exact ⟨c, rfl, hc _ H1 (.d (.bl (!c))) S1 k1 st1 (Rep.bl _) q⟩⟩
end
section
variable {es : List Expr} {tr : TA} {vr : VTA}
def uP : VTA := fun S Q => Q [] S
def lW (va : VT) (vr : VTA) : VTA := fun S Q => va S fun r S1 => vr S1 fun rs S2 => Q (r :: rs) S2
theorem af : VA K X m [] gF uP := ⟨dw, fun _ _ _ _ _ _ _ k h q => q _ _ _ _ k .refl .nil h⟩
theorem ae (ha : VE K X m e te va) (hr : VA K X m es tr vr) (hs : starEach (e :: es) X.env = (false, eval e X.env) :: starEach es X.env := by rfl) : VA K X m (e :: es) (cF te tr) (lW va vr) := ⟨bK ha.pe hr.pe hs, fun H0 Z σ H S Q C k t hc =>
 ha.snd H0 Z σ H S _ _ k t fun v H1 r S1 k1 st1 rr q => hr.snd H0 Z σ H1 S1 _ _ k1 q fun vs H2 rs S2 k2 st2 rrs q2 => hc (v :: vs) H2 (r :: rs) S2 k2 (st1.trans st2) (.cons (rr.step st2) rrs) q2⟩
def allD : List VR -> Option (List D)
 | [] => some []
 | .d x :: r => (allD r).map (x :: ·)
 | _ :: _ => none
theorem cP.allD (h : cP K F Z σ S H vs rs) (e : VL.allD rs = some ds) : Reps K (NM Z σ S) F H vs ds := by
 induction h generalizing ds with
 | nil => cases e; exact .nil
 | @cons v r vs rs h t ih =>
  cases r with
  | d x =>
   obtain ⟨es, h1, rfl⟩ := Option.map_eq_some_iff.mp (show (VL.allD rs).map (x :: ·) = some ds from e)
   exact .cons h (ih h1)
  | own i => cases e
theorem cP.length (h : cP K F Z σ S H vs rs) : vs.length = rs.length := by
 induction h with
 | nil => rfl
 | cons h t ih => simp [ih]
theorem eI : ∀ {rs : List VR} {ds : List D}, allD rs = some ds -> ds.length = rs.length
 | [], _, e => by cases e; rfl
 | .d x :: r, ds, e => by
  obtain ⟨es, h1, rfl⟩ := Option.map_eq_some_iff.mp (show (VL.allD r).map (x :: ·) = some ds from e)
  simp [eI h1]
 | .own _ :: _, _, e => by cases e
def zh (vr : VTA) : VT := fun S Q => vr S fun rs S1 => ∃ ds, allD rs = some ds /\ ds.length <= 1000 /\ Q (.d (.tup ds)) S1
theorem small {n : Nat} (h : n <= 1000) : n <= sizeLine := by rw [sizeLine_eq]; lia
theorem OK.nm {H0 H : Hp} (k : OK K H0 Z σ H S) {p : Addr} (hp : H p = none) : NM Z σ S p := fun z => by
 have e := k.mo z
 rw [hp] at e; exact e
theorem cg {x1} (h : VA K X m es tr vr) : VE K X m (.Tuple es x1 pos) (uA tr) (zh vr) := ⟨m8 h.pe, fun H0 Z σ H S Q C k t hc =>
 h.snd H0 Z σ H S _ _ k t fun vs H1 rs S1 k1 st1 rrs ⟨ds, e, hl, q⟩ => ⟨small (by rw [rrs.length, <- eI e]; exact hl), fun p hp => by
  have g := aU (o := .tup vs) hp
  exact hc _ _ (.d (.tup ds)) S1 (k1.grow g) (st1.trans (.grow g)) (Rep.tup (k1.nm hp) (.inl aG) ((rrs.allD e).mono (fun a n e => ⟨n, g a e⟩) fun _ x => x)) q⟩⟩
def BB (vr : VTA) : VTN := fun S Q => vr S fun rs S1 => ∃ ds, allD rs = some ds /\ ds.length <= 1000 /\ Q ds S1
theorem bV {H0 H : Hp} {p : Addr} {o : HO} (hp : H p = none) (h : Reps K (NM Z σ S) (FM H0 true) H vs ds) : Reps K (fun b => NM Z σ S b /\ b ≠ p) (Fr H0) (upd H p o) vs ds :=
 h.mono (fun a n e => ⟨⟨n, fun z => e (by rw [z]; exact hp)⟩, aU hp a e⟩) fun _ x => x rfl
theorem aY (h : VA K X true es tr vr) : VN K X (.List es pos) (Bq tr) (BB vr) := ⟨yR h.pe, fun H0 Z σ H S Q C k t hc =>
 h.snd H0 Z σ H S _ _ k t fun vs H1 rs S1 k1 st1 rrs ⟨ds, e, hl, q⟩ => ⟨small (by rw [rrs.length, <- eI e]; exact hl), fun p hp =>
  hc p vs ds H1 _ S1 k1 st1 hp (aU hp) aG (bV hp (rrs.allD e)) q⟩⟩
def zi (t : VTN) : VT := fun S Q => t S fun ds S1 => Q (.d (.lst ds)) S1
theorem aL {t : VTN} (h : VN K X e te t) : VE K X m e te (zi t) := ⟨h.pe, fun H0 Z σ H S Q C k t hc => h.snd H0 Z σ H S _ _ k t fun a vs ds H1 H' S1 k1 st1 ha hg hl rr q => by
 refine hc _ H' (.d (.lst ds)) S1 (k1.grow hg) (st1.trans (.grow hg)) (Rep.lst (k1.nm ha) (fun _ => ⟨a, rfl, k1.dom a ha⟩) hl (rr.mono (fun b n e => ⟨n.1, rfl⟩) fun _ x _ => x)) q⟩
end
theorem fT.elems {H0 H : Hp} (h : fT K F Z σ S H v r) (k : OK K H0 Z σ H S) (e : VL.get S r = some (.lst ds)) : ∃ a vs, v = .ref a /\ SqL K H a vs /\ Reps K (NM Z σ S) AnyF H vs ds := by
 cases r with
 | d y =>
  cases e
  obtain ⟨a, vs, rfl, hq, rr⟩ := Rep.sqL h
  exact ⟨a, vs, rfl, hq, rr.mono (fun _ n _ => ⟨n, rfl⟩) fun _ _ => trivial⟩
 | own i =>
  have h : σ[i]? = some (some v) := h
  have e : getO S[i]? = some (.lst ds) := e
  cases es : S[i]? with
  | none => rw [es] at e; cases e
  | some s =>
   rw [es] at e
   cases s with
   | no => cases e
   | val d => cases e
   | fre d => cases e
   | own ds =>
    cases e
    obtain ⟨a, vs, h1, h2, h3, h4⟩ := k.at_ i _ _ h es
    cases h1
    exact ⟨a, vs, rfl, .inl (.inl h2), h4.mono (fun _ n _ => ⟨n, rfl⟩) fun _ _ => trivial⟩
   | pen ad ns =>
    cases e
    obtain ⟨a, h1, _, h2⟩ := k.at_ i _ _ h es
    cases h1
    exact ⟨a, _, rfl, .inl (.inl h2), Reps.ints⟩
   | odi ks ds => cases e
   | obj k => cases e
theorem fT.elemsT {H0 H : Hp} (h : fT K F Z σ S H v r) (k : OK K H0 Z σ H S) (e : VL.get S r = some (.tup ds)) : ∃ a vs, v = .ref a /\ SqT K H a vs /\ Reps K (NM Z σ S) AnyF H vs ds := by
 cases r with
 | d y =>
  cases e
  cases (show Rep K (NM Z σ S) F H v (.tup ds) from h) with
  | tup n h2 r2 => exact ⟨_, _, rfl, .inl h2, r2.mono (fun _ n _ => ⟨n, rfl⟩) fun _ _ => trivial⟩
  | tupK h2 r2 => exact ⟨_, _, rfl, fS h2, r2.mono (fun _ n _ => ⟨n, rfl⟩) fun _ _ => trivial⟩
 | own i =>
  have e : getO S[i]? = some (.tup ds) := e
  cases es : S[i]? with
  | none => rw [es] at e; cases e
  | some s => rw [es] at e; cases s <;> cases e
end
end VL
end
section
namespace VL
open PySem L2
section
variable {K : PySem.W.Frag} {X : Cx} {m : Bool} {e a b c : Expr} {ta tb tc te : TE} {va vb vc : VT} {pos : Pos}
theorem fV {N : AP} {i : Int} (r : Reps K N F H vs ds) (h : atI ds i = some d) : ∃ v, atI vs i = some v /\ Rep K N F H v d := by
 unfold atI at h ⊢
 rw [r.length]
 cases e : ixN ds.length i with
 | none => rw [e] at h; cases h
 | some j =>
  rw [e] at h
  exact r.getD h
def vIx (va vb : VT) : VT := fun S Q => va S fun ra S1 => vb S1 fun rb S2 => ∃ ds i d, (get S2 ra = some (.lst ds) \/ get S2 ra = some (.tup ds)) /\ get S2 rb = some (.int i) /\ atI ds i = some d /\ Q (.d d) S2
theorem aO (hK : X.K = K) (ha : VE K X false a ta va) (hb : VE K X false b tb vb) (hs : eU b) : VE K X false (.Subscript a b pos) (tOp (rIx K) ta tb) (vIx va vb) := ⟨by subst hK; exact lM kn ha.pe hb.pe hs, fun H0 Z σ H S Q C k t hc =>
 ha.snd H0 Z σ H S _ _ k t fun x H1 ra S1 k1 st1 r1 t1 => hb.snd H0 Z σ H1 S1 _ _ k1 t1 fun y H2 rb S2 k2 st2 r2 zq1 => by
  obtain ⟨ds, i, d, e1, e2, e3, q⟩ := zq1
  cases r2.get k2 e2
  have fin : ∀ v, Rep K (NM Z σ S2) AnyF H2 v d -> C v H2 := fun v rv => hc v H2 (.d d) S2 k2 (st1.trans st2) (show Rep K _ _ H2 v d from rv.mono (fun _ n _ => ⟨n, rfl⟩) fun _ _ => FM.any) q
  rcases e1 with e1 | e1
  ·obtain ⟨p, vs, rfl, hq, rr⟩ := (r1.step st2).elems k2 e1
   obtain ⟨v, h1, h2⟩ := fV rr e3
   exact .inl ⟨p, vs, i, v, rfl, rfl, hq, h1, fin v h2⟩
  ·obtain ⟨p, vs, rfl, hq, rr⟩ := (r1.step st2).elemsT k2 e1
   obtain ⟨v, h1, h2⟩ := fV rr e3
   exact .inr (.inl ⟨p, vs, i, v, rfl, rfl, hq, h1, fin v h2⟩)⟩
section
variable {es : List Expr} {tr : TA} {vr : VTA} {x : Str} {p : Pos} {id T : String} {r : List V -> Hp -> VK -> Prop}
def vCB (w : List D -> (D -> Prop) -> Prop) (vr : VTA) : VT := fun S Q => vr S fun rs S1 => ∃ ds, gets S1 rs = some ds /\ w ds fun d => Q (.d d) S1
def eJ (K : PySem.W.Frag) (r : List V -> Hp -> VK -> Prop) (w : List D -> (D -> Prop) -> Prop) : Prop := ∀ (xs : List V) (H : Hp) (ds : List D) (q : D -> Prop) (C : VK), Reps K Any AnyF H xs ds -> w ds q -> (∀ z dz, q dz -> (∀ N F, Rep K N F H z dz) -> C z H) -> r xs H C
theorem BC {w : List D -> (D -> Prop) -> Prop} (L : eJ K r w) (ha : zd K false tr vr) : SndE K m (tCB r tr) (vCB w vr) := fun H0 Z σ H S Q C k t hc =>
 ha H0 Z σ H S _ _ k t fun vs H1 rs S1 k1 st1 rrs zt1 => by obtain ⟨ds, e, q⟩ := zt1; exact L vs H1 ds _ _ (rrs.gets k1 e) q fun z dz q rz => hc z H1 (.d dz) S1 k1 st1 (rz _ _) q
theorem au {w : List D -> (D -> Prop) -> Prop} (hc : cE X (.builtin id) r) (L : eJ K r w) (hg : Gl X x) (hm : X.mg x = none) (hv : bootBuiltins x = some (.builtin id)) (ha : VA K X false (e :: es) tr vr) (hn : x ≠ "__name__" := by decide) (hdb : (x == ("__debug__" : Str)) = false := by decide)
  (he : starEach (e :: es) X.env = (false, eval e X.env) :: starEach es X.env := by rfl) (hpl : (backTo pos (starEach es X.env)).any (·.1) = false := by rfl) : VE K X m (.Call (.Name x p) (e :: es) [] pos) (tCB r tr) (vCB w vr) := ⟨fI hc hg hm hv ha.pe hn hdb he hpl, BC L ha.snd⟩
theorem cj {w : List D -> (D -> Prop) -> Prop} (hc : cE X (.type T) r) (L : eJ K r w) (hg : Gl X x) (hm : X.mg x = none) (hv : bootBuiltins x = some (.type T)) (ha : VA K X false (e :: es) tr vr) (hn : x ≠ "__name__" := by decide) (hdb : (x == ("__debug__" : Str)) = false := by decide)
  (he : starEach (e :: es) X.env = (false, eval e X.env) :: starEach es X.env := by rfl) (hpl : (backTo pos (starEach es X.env)).any (·.1) = false := by rfl) : VE K X m (.Call (.Name x p) (e :: es) [] pos) (tCB r tr) (vCB w vr) := ⟨pX hc hg hm hv ha.pe hn hdb he hpl, BC L ha.snd⟩
theorem rep1 {N : AP} {xs : List V} (h : Reps K N F H xs [d]) : ∃ v, xs = [v] /\ Rep K N F H v d := by
 cases h with | cons h t => cases t; exact ⟨_, rfl, h⟩
theorem rep2 {N : AP} {xs : List V} {d d' : D} (h : Reps K N F H xs [d, d']) : ∃ v u, xs = [v, u] /\ Rep K N F H v d /\ Rep K N F H u d' := by
 cases h with | cons h t => cases t with | cons h' t => cases t; exact ⟨_, _, rfl, h, h'⟩
def zj : List D -> (D -> Prop) -> Prop := fun ds q => ∃ es, (ds = [.lst es] \/ ds = [.tup es]) /\ q (.int es.length)
theorem fq : eJ K (fun xs H Q => ∃ p ys, xs = [.ref p] /\ (SqL K H p ys \/ SqT K H p ys) /\ Q (.int ys.length) H) zj := by
 rintro xs H ds q C r ⟨es, rfl | rfl, h⟩ hc
 ·obtain ⟨v, rfl, rv⟩ := rep1 r
  obtain ⟨a, vs, rfl, hq, rr⟩ := rv.sqL
  exact ⟨a, vs, rfl, .inl hq, by rw [rr.length]; exact hc _ _ h fun _ _ => .int _⟩
 ·obtain ⟨v, rfl, rv⟩ := rep1 r
  obtain ⟨a, vs, rfl, hq, rr⟩ := rv.sqT
  exact ⟨a, vs, rfl, .inr hq, by rw [rr.length]; exact hc _ _ h fun _ _ => .int _⟩
def BD : List D -> (D -> Prop) -> Prop := fun ds q => ∃ i, ds = [.int i] /\ q (.int (if i < 0 then -i else i))
theorem oF : eJ K (fun xs H Q => ∃ i, xs = [.int i] /\ Q (.int (if i < 0 then -i else i)) H) BD := by
 rintro xs H ds q C r ⟨i, rfl, h⟩ hc
 obtain ⟨v, rfl, rv⟩ := rep1 r
 cases rv
 exact ⟨i, rfl, hc _ _ h fun _ _ => .int _⟩
def tyD : D -> String
 | .int _ => "int" | .bl _ => "bool" | .non => "NoneType" | .str _ => "str" | .tup _ => "tuple" | .lst _ => "list" | .ty _ => "type" | .dic _ _ => "dict" | .exc _ => ""
def isE : D -> Bool
 | .exc _ => true
 | _ => false
def BE : List D -> (D -> Prop) -> Prop := fun ds q => ∃ x c b, ds = [x, .ty c] /\ (∀ n, x ≠ .ty n) /\ isE x = false /\ p9 (tyD x) c = some b /\ q (.bl b)
theorem iR : eJ K (y9 K) BE := by
 rintro xs H ds q C r ⟨x, c, b, rfl, hn, hE, e, h⟩ hc
 obtain ⟨v, u, rfl, rv, ru⟩ := rep2 r
 cases ru
 refine ⟨v, tyD x, c, b, rfl, ?_, e, hc _ _ h fun _ _ => .bl _⟩
 cases rv with
 | int i => exact .int i
 | bl i => exact .bl i
 | non => exact .non
 | str i => exact .str i
 | ty i => exact (hn _ rfl).elim
 | tup n h r => exact .tup (.inl h)
 | tupK h r => exact .tup (fS h)
 | lst n f h r => exact .lst (.inl (.inl h))
 | lstF n f h r => exact .lst (.inl (.inr ⟨_, h⟩))
 | lstK f h r => exact .lst (iP h)
 | dic n f h e _ r => exact .dE h
 | exc n h e => cases hE
theorem cP.one {r : VR} (h : cP K F Z σ S H vs [r]) : ∃ v, vs = [v] /\ fT K F Z σ S H v r := by
 cases h with | cons h t => cases t; exact ⟨_, rfl, h⟩
theorem qc {H0 H : Hp} {p : Addr} {o : HO} (hp : H p = none) (h : Reps K (NM Z σ S) F H vs ds) (f : flats ds = true) : Reps K (fun b => NM Z σ S b /\ b ≠ p) (Fr H0) (upd H p o) vs ds :=
 bV hp (Reps.flat h f)
@[reducible] def eT (ms : List Int) : D := .tup (ms.map .int)
@[reducible] def eL (mss : List (List Int)) : D := .lst (mss.map eT)
theorem dX : ∀ ms : List Int, flats (ms.map D.int) = true
 | [] => rfl
 | _ :: r => by simp [flats, flat, dX r]
theorem eK : ∀ mss : List (List Int), flats (mss.map eT) = true
 | [] => rfl
 | _ :: r => by simp [flats, eT, flat, dX, eK r]
theorem jU {N : AP} : ∀ {vs : List V} {mss : List (List Int)}, Reps K N F H vs (mss.map eT) -> ∃ ps, vs = ps.map V.ref /\ ik K H ps mss /\ (∀ p ∈ ps, H p = none -> N p -> False \/ True)
 | _, [], .nil => ⟨[], rfl, .nil, fun _ h => nomatch h⟩
 | _, ms :: r, .cons h t => by
  obtain ⟨ps, rfl, h1, h2⟩ := jU t
  obtain ⟨a, vs, rfl, hq, rr⟩ := Rep.sqT h
  cases Reps.toInts rr
  exact ⟨a :: ps, rfl, .cons hq h1, fun _ _ _ _ => .inr trivial⟩
theorem fW {N : AP} (hN : ∀ p vs, Rd H p (.tup vs) -> N p) : ∀ {ps : List Addr} {mss : List (List Int)}, ik K H ps mss -> Reps K N F H (ps.map V.ref) (mss.map eT)
 | _, _, .nil => .nil
 | _, _, .cons h t => by
  refine .cons ?_ (fW hN t)
  rcases h with h | h
  ·exact .tup (hN _ _ h) h Reps.ints
  ·exact .tupK (.inr h) Reps.ints
def rn (vr : VTA) : VTN := fun S Q => vr S fun rs S1 => ∃ r mss, rs = [r] /\ get S1 r = some (eL mss) /\ (∀ ms ∈ mss, ms ≠ []) /\ mss.length < 64 /\ Q ((srt mss).map eT) S1
theorem OK.tupN {H0 H : Hp} (k : OK K H0 Z σ H S) : ∀ p vs, Rd H p (.tup vs) -> NM Z σ S p := fun p vs h z => by
 have e := k.mo z
 rcases h with h | ⟨o, h⟩ <;> rw [h] at e <;> exact e
theorem lX (hK : X.K = K) (hex : X.ex = []) (hg : Gl X "sorted") (hm : X.mg "sorted" = none) (hb : bootBuiltins "sorted" = some (.builtin "sorted")) (ha : VA K X false [e] tr vr) (he : starEach [e] X.env = [(false, eval e X.env)] := by rfl) :
  VN K X (.Call (.Name "sorted" p) [e] [] pos) (tCB (q0 K) tr) (rn vr) :=
 ⟨by subst hK; exact fI (nF hex) hg hm hb ha.pe (by decide) (by decide) he rfl, fun H0 Z σ H S Q C k t hc => ha.snd H0 Z σ H S _ _ k t fun vs H1 rs S1 k1 st1 rrs zq1 => by
  obtain ⟨r, mss, e1, e2, h1, h2, q⟩ := zq1
  subst e1
  obtain ⟨v, rfl, rv⟩ := rrs.one
  obtain ⟨a, ys, rfl, hq, rr⟩ := rv.elems k1 e2
  obtain ⟨ps, rfl, ht, _⟩ := jU rr
  exact ⟨a, ps, mss, rfl, hq, ht, h1, h2, fun l ps' hl ht' => hc l _ _ H1 _ S1 k1 st1 hl (aU hl) aG (bV hl (fW k1.tupN ht')) q⟩⟩
end
def spP (K : PySem.W.Frag) (p : List D -> (D -> Prop) -> Prop) : Sp := fun vs H Q _ => ∃ ds R, Reps K Any AnyF H vs ds /\ p ds R /\ ∀ d v H', R d -> (∀ a, H a ≠ none -> H' a = H a) -> Rep K Any (Fr H) H' v d -> Q v H'
def spI (K : PySem.W.Frag) (j : Nat) (p : List Int -> List D -> (D -> List Int -> Prop) -> Prop) : Sp := fun vs H Q _ => ∃ a ws us ns ds es R, vs = ws ++ .ref a :: us /\ ws.length = j /\ H a = some (.lst (ns.map .int)) /\ Reps K (· ≠ a) AnyF H ws ds /\ Reps K (· ≠ a) AnyF H us es /\ p ns (ds ++ es) R /\
 ∀ d ns' v H', R d ns' -> (∀ b, b ≠ a -> H b ≠ none -> H' b = H b) -> H' a = some (.lst (ns'.map .int)) -> Rep K (· ≠ a) (Fr H) H' v d -> Q v H'
section
variable {es : List Expr} {tr : TA} {vr : VTA} {x : Str} {p0 : Pos} {j k : Nat} {ps : List Str}
def vFn (p : List D -> (D -> Prop) -> Prop) (vr : VTA) : VT := fun S Q => vr S fun rs S1 => ∃ ds, gets S1 rs = some ds /\ p ds fun d => Q (.d d) S1
def BF (p : List D -> (D -> Prop) -> Prop) (vr : VTA) : VTN := fun S Q => vr S fun rs S1 => ∃ ds, gets S1 rs = some ds /\ p ds fun d => ∃ es, d = .lst es /\ flats es = true /\ Q es S1
theorem bD (E : Has X.prog X.w X.K X.mg X.base k x ps (spP K p)) (hr : b7 j X.A) (ha : VA K X false (e :: es) tr vr)
  (hk : k <= j := by decide) (hg : Gl X x := by rfl) (hdb : (x == ("__debug__" : Str)) = false := by decide) (he : starEach (e :: es) X.env = (false, eval e X.env) :: starEach es X.env := by rfl)
  (hpl : (backTo pos (starEach es X.env)).any (·.1) = false := by rfl) : VE K X m (.Call (.Name x p0) (e :: es) [] pos) (jI (spP K p) [] E0 tr) (vFn p vr) := ⟨qU E hr ha.pe hk hg hdb he hpl, fun H0 Z σ H S Q C k t hc =>
 ha.snd H0 Z σ H S _ _ k t fun vs H1 rs S1 k1 st1 rrs zq1 => by
  obtain ⟨ds, e, q⟩ := zq1
  refine ⟨ds, _, by rw [List.append_nil]; exact rrs.gets k1 e, q, fun d v H' q g r => ?_⟩
  refine hc v H' (.d d) S1 (k1.grow g) (st1.trans (.grow g)) (show Rep K _ _ H' v d from ?_) q
  refine (Rep.avoid (N' := NM Z σ S1) (fun a z => ?_) (fun a zq1 => by obtain ⟨b, e, f⟩ := zq1; cases e; exact k1.nm f) r).mono (fun _ n _ => ⟨n, rfl⟩) (fun o zt1 _ => by obtain ⟨b, e, f⟩ := zt1; exact ⟨b, e, k1.dom b f⟩)
  have e := k1.mo (Classical.not_not.mp z)
  rw [g a e.ne]; exact e⟩
theorem BG (E : Has X.prog X.w X.K X.mg X.base k x ps (spP K p)) (hr : b7 j X.A) (ha : VA K X false (e :: es) tr vr)
  (hk : k <= j := by decide) (hg : Gl X x := by rfl) (hdb : (x == ("__debug__" : Str)) = false := by decide) (he : starEach (e :: es) X.env = (false, eval e X.env) :: starEach es X.env := by rfl)
  (hpl : (backTo pos (starEach es X.env)).any (·.1) = false := by rfl) : VN K X (.Call (.Name x p0) (e :: es) [] pos) (jI (spP K p) [] E0 tr) (BF p vr) := ⟨qU E hr ha.pe hk hg hdb he hpl, fun H0 Z σ H S Q C k t hc =>
 ha.snd H0 Z σ H S _ _ k t fun vs H1 rs S1 k1 st1 rrs zq1 => by
  obtain ⟨ds, e, q⟩ := zq1
  refine ⟨ds, _, by rw [List.append_nil]; exact rrs.gets k1 e, q, fun d v H' ⟨es, ed, hf, q⟩ g r => ?_⟩
  subst ed
  have r2 := Rep.avoid (N' := NM Z σ S1) (fun a z => by
   have e := k1.mo (Classical.not_not.mp z)
   rw [g a e.ne]; exact e) (fun a zq1 => by obtain ⟨b, e, f⟩ := zq1; cases e; exact k1.nm f) r
  cases r2 with
  | @lst a ws _ n f h rs =>
   obtain ⟨b, e, f⟩ := f
   cases e
   refine hc a ws es H1 H' S1 k1 st1 f g h ?_ q
   refine (Reps.avoid (N' := fun b => NM Z σ S1 b /\ b ≠ a) (fun b z => ?_) (fun b fb => fb.elim) (Reps.flat (F' := fun _ => False) rs hf)).mono (fun _ n _ => ⟨n, rfl⟩) (fun o f => f.elim)
   by_cases hb : b = a
   ·subst hb; rw [h]; trivial
   ·have e := k1.mo (Classical.byContradiction fun y => z ⟨y, hb⟩)
    rw [g b e.ne]; exact e
  | lstF n f h rs => obtain ⟨b, e, f⟩ := f; cases e
  | lstK f h rs => obtain ⟨b, e, f⟩ := f; cases e⟩
end
end
end VL
end
section
namespace VL
open PySem L2
section
variable {K : PySem.W.Frag} {H H' H0 : Hp} {Z : AP} {σ : St} {S : List Sl}
theorem OK.put (k : OK K H0 Z σ H S) {i : Nat} {o : Option V} {s : Sl} (hi : i < S.length)
  (hN : ∀ a, NM Z σ S a -> H a ≠ none -> NM Z (σ.set i o) (S.set i s) a /\ H' a = H a)
  (hM : ∀ j s', j ≠ i -> S[j]? = some s' -> s'.mut = true -> ∀ a, σ[j]? = some (some (V.ref a)) -> H' a = H a)
  (hs : qb K H0 (NM Z (σ.set i o) (S.set i s)) H' o s)
  (hj : ∀ j a t, j ≠ i -> S[j]? = some t -> t.mut = true -> s.mut = true -> o = some (V.ref a) -> σ[j]? ≠ some (some (V.ref a)))
  (hd : ∀ a, H' a = none -> H a = none) (hz : ∀ a, Z a -> IsM (H' a)) (hnz : ∀ a, s.mut = true -> o = some (V.ref a) -> ¬Z a) : OK K H0 Z (σ.set i o) H' (S.set i s) where
 len := by simp [k.len]
 dom := fun a e => k.dom a (hd a e)
 zl := hz
 nz := fun j t a h1 h2 h3 => by
  have hi' : i < σ.length := by rw [k.len]; exact hi
  by_cases hji : i = j
  ·subst hji
   rw [List.getElem?_set_self hi] at h1
   rw [List.getElem?_set_self hi'] at h3
   cases h1
   exact hnz a h2 (Option.some.inj h3)
  ·rw [List.getElem?_set_ne hji] at h1 h3
   exact k.nz j t a h1 h2 h3
 inj := fun a b c t u h1 h2 m1 m2 h3 h4 => by
  have hi' : i < σ.length := by rw [k.len]; exact hi
  by_cases ha : i = a
  ·by_cases hb : i = b
   ·lia
   ·subst ha
    rw [List.getElem?_set_self hi] at h1
    rw [List.getElem?_set_self hi'] at h3
    rw [List.getElem?_set_ne hb] at h2 h4
    cases h1
    exact (hj b c u (fun z => hb z.symm) h2 m2 m1 (Option.some.inj h3) h4).elim
  ·by_cases hb : i = b
   ·subst hb
    rw [List.getElem?_set_self hi] at h2
    rw [List.getElem?_set_self hi'] at h4
    rw [List.getElem?_set_ne ha] at h1 h3
    cases h2
    exact (hj a c t (fun z => ha z.symm) h1 m1 m2 (Option.some.inj h4) h3).elim
   ·rw [List.getElem?_set_ne ha] at h1 h3
    rw [List.getElem?_set_ne hb] at h2 h4
    exact k.inj a b c t u h1 h2 m1 m2 h3 h4
 at_ := fun j o' s' h1 h2 => by
  have hi' : i < σ.length := by rw [k.len]; exact hi
  by_cases hji : i = j
  ·subst hji
   rw [List.getElem?_set_self hi'] at h1
   rw [List.getElem?_set_self hi] at h2
   cases h1; cases h2
   exact hs
  ·rw [List.getElem?_set_ne hji] at h1 h2
   have q := k.at_ j o' s' h1 h2
   cases s' with
   | no => trivial
   | val d => obtain ⟨v, e, r⟩ := q; exact ⟨v, e, r.mono hN fun _ x => x⟩
   | fre d => obtain ⟨v, e, r⟩ := q; exact ⟨v, e, r.mono hN fun _ x => x⟩
   | own ds =>
    obtain ⟨a, vs, e, e', e0, r⟩ := q
    exact ⟨a, vs, e, by rw [hM j _ (fun z => hji z.symm) h2 rfl a (by rw [h1, e])]; exact e', e0, r.mono hN fun _ x => x⟩
   | pen ad ns =>
    obtain ⟨a, e, e1, e'⟩ := q
    exact ⟨a, e, e1, by rw [hM j _ (fun z => hji z.symm) h2 rfl a (by rw [h1, e])]; exact e'⟩
   | odi ks ds =>
    obtain ⟨a, vs, e, e', e0, ek, r⟩ := q
    exact ⟨a, vs, e, by rw [hM j _ (fun z => hji z.symm) h2 rfl a (by rw [h1, e])]; exact e', e0, ⟨ek.1, ek.2.mono hN fun _ x => x⟩, r.mono hN fun _ x => x⟩
   | obj k =>
    obtain ⟨a, e, e0, r⟩ := q
    exact ⟨a, e, e0, k.mono hN (hM j _ (fun z => hji z.symm) h2 rfl a (by rw [h1, e])) r⟩
theorem iS {i : Nat} {o : Option V} {s : Sl} {a : Addr} (h : Mo Z (σ.set i o) (S.set i s) a) : Mo Z σ S a \/ (s.mut = true /\ o = some (V.ref a)) := by
 rcases h with ⟨j, t, h1, h2, h3⟩ | h
 ·by_cases hji : i = j
  ·subst hji
   have l1 := (List.getElem?_eq_some_iff.mp h1).1
   have l2 := (List.getElem?_eq_some_iff.mp h3).1
   rw [List.length_set] at l1 l2
   rw [List.getElem?_set_self l1] at h1
   rw [List.getElem?_set_self l2] at h3
   cases h1
   exact .inr ⟨h2, Option.some.inj h3⟩
  ·rw [List.getElem?_set_ne hji] at h1 h3
   exact .inl (.inl ⟨j, t, h1, h2, h3⟩)
 ·exact .inl (.inr h)
theorem OK.setVal (k : OK K H0 Z σ H S) {i : Nat} (hi : i < S.length) (h : Rep K (NM Z σ S) AnyF H v d) : OK K H0 Z (σ.set i (some v)) H (S.set i (.val d)) /\ Step Z σ S H (σ.set i (some v)) (S.set i (.val d)) H := by
 have n : ∀ a, NM Z σ S a -> NM Z (σ.set i (some v)) (S.set i (.val d)) a := fun a x z => by
  rcases iS z with z | ⟨z, _⟩
  ·exact x z
  ·cases z
 exact ⟨k.put hi (fun a x _ => ⟨n a x, rfl⟩) (fun _ _ _ _ _ _ _ => rfl) ⟨v, rfl, h.mono (fun a x _ => ⟨n a x, rfl⟩) fun _ x => x⟩ (fun _ _ _ _ _ _ z => nomatch z) (fun _ e => e) k.zl (fun _ z => nomatch z), fun a x _ => ⟨rfl, n a x⟩, fun _ e => e, fun _ _ _ => rfl⟩
theorem OK.setNew (k : OK K H0 Z σ H S) {i : Nat} {a : Addr} {s : Sl} (hi : i < S.length) (ha : H a = none) (hg : ∀ b, H b ≠ none -> H' b = H b) (hs : qb K H0 (fun b => NM Z σ S b /\ b ≠ a) H' (some (.ref a)) s) (hm : s.mut = true) :
  OK K H0 Z (σ.set i (some (.ref a))) H' (S.set i s) /\ Step Z σ S H (σ.set i (some (.ref a))) (S.set i s) H' := by
 have n : ∀ b, NM Z σ S b /\ b ≠ a -> NM Z (σ.set i (some (.ref a))) (S.set i s) b := fun b x z => by
  rcases iS z with z | ⟨_, z⟩
  ·exact x.1 z
  ·cases z; exact x.2 rfl
 have n' : ∀ b, NM Z σ S b -> H b ≠ none -> NM Z (σ.set i (some (.ref a))) (S.set i s) b := fun b x e => n b ⟨x, fun z => e (by rw [z]; exact ha)⟩
 refine ⟨k.put hi (fun b x e => ⟨n' b x e, hg b e⟩) (fun j s' hj h1 h2 b h3 => ?_) ?_ (fun j b t hj h1 h2 h3 h4 h5 => ?_) (fun b e => Classical.byContradiction fun z => by rw [hg b z] at e; exact z e) (fun b z => ?_) (fun b h1 h2 z => ?_), fun b x e => ⟨hg b e, n' b x e⟩, fun b e => Classical.byContradiction fun z => by rw [hg b z] at e; exact z e, fun b z e => hg b e⟩
 ·have e := k.mo (.inl ⟨j, s', h1, h2, h3⟩)
  exact hg b e.ne
 ·cases s with
  | no => trivial
  | val d => cases hm
  | fre d => cases hm
  | own ds => obtain ⟨b, vs, e, e', e0, r⟩ := hs; exact ⟨b, vs, e, e', e0, r.mono (fun c x _ => ⟨n c x, rfl⟩) fun _ x => x⟩
  | pen ad ns => exact hs
  | obj k => obtain ⟨b, e, e0, r⟩ := hs; exact ⟨b, e, e0, k.mono (fun c x _ => ⟨n c x, rfl⟩) rfl r⟩
  | odi ks ds => obtain ⟨b, vs, e, e', e0, ek, r⟩ := hs; exact ⟨b, vs, e, e', e0, ⟨ek.1, ek.2.mono (fun c x _ => ⟨n c x, rfl⟩) fun _ x => x⟩, r.mono (fun c x _ => ⟨n c x, rfl⟩) fun _ x => x⟩
 ·cases h4
  have e := k.mo (.inl ⟨j, t, h1, h2, h5⟩)
  rw [ha] at e; exact e
 ·have e := k.zl b z
  rw [hg b e.ne]; exact e
 ·cases h2
  have e := k.zl _ z
  rw [ha] at e; exact e
theorem lY {α : Type} {l : List α} {i : Nat} {o : α} (h : l[i]? = some o) : l.set i o = l := by
 obtain ⟨h1, rfl⟩ := List.getElem?_eq_some_iff.mp h
 exact List.set_getElem_self h1
theorem OK.chgD (k : OK K H0 Z σ H S) {i : Nat} {a : Addr} {s₀ s : Sl} {o : HO} (h1 : S[i]? = some s₀) (h2 : s₀.mut = true) (h3 : σ[i]? = some (some (.ref a))) (hm : s.mut = true) (hs : qb K H0 (NM Z σ S) (upd H a o) (some (.ref a)) s) :
  OK K H0 Z σ (upd H a o) (S.set i s) /\ Step Z σ S H σ (S.set i s) (upd H a o) := by
 have hi : i < S.length := (List.getElem?_eq_some_iff.mp h1).1
 have ma : Mo Z σ S a := .inl ⟨i, s₀, h1, h2, h3⟩
 have ea := k.mo ma
 have hza : ¬Z a := k.nz i s₀ a h1 h2 h3
 have e3 := lY h3
 have n : ∀ b, NM Z σ S b -> NM Z σ (S.set i s) b := fun b x z => by
  rw [<- e3] at z
  rcases iS z with z | ⟨_, z⟩
  ·exact x z
  ·cases z; exact x ma
 have ne : ∀ b, NM Z σ S b -> b ≠ a := fun b x z => x (by rw [z]; exact ma)
 have q := k.put (H' := upd H a o) (i := i) (o := some (.ref a)) (s := s) hi (fun b x e => ⟨by rw [e3]; exact n b x, aC (ne b x)⟩) (fun j s' hj g1 g2 b g3 => aC fun z => hj (by subst z; exact k.inj j i b s' s₀ g1 h1 g2 h2 g3 h3)) (by
  rw [e3]
  cases s with
  | no => trivial
  | val d => cases hm
  | fre d => cases hm
  | own ds => obtain ⟨b, vs, e, e', e0, r⟩ := hs; exact ⟨b, vs, e, e', e0, r.mono (fun c x _ => ⟨n c x, rfl⟩) fun _ x => x⟩
  | pen ad ns => exact hs
  | obj k => obtain ⟨b, e, e0, r⟩ := hs; exact ⟨b, e, e0, k.mono (fun c x _ => ⟨n c x, rfl⟩) rfl r⟩
  | odi ks ds => obtain ⟨b, vs, e, e', e0, ek, r⟩ := hs; exact ⟨b, vs, e, e', e0, ⟨ek.1, ek.2.mono (fun c x _ => ⟨n c x, rfl⟩) fun _ x => x⟩, r.mono (fun c x _ => ⟨n c x, rfl⟩) fun _ x => x⟩) (fun j b t hj g1 g2 g3 g4 g5 => by
   cases g4
   exact hj (k.inj j i a t s₀ g1 h1 g2 h2 g5 h3)) (fun b e => by
   by_cases hb : b = a
   ·subst hb; rw [aG] at e; cases e
   ·rw [aC hb] at e; exact e) (fun b z => by
   by_cases hb : b = a
   ·subst hb; exact (hza z).elim
   ·have e := k.zl b z
    rw [aC hb]; exact e) (fun b _ e => by cases e; exact hza)
 rw [e3] at q
 refine ⟨q, fun b x e => ⟨aC (ne b x), n b x⟩, fun b e => ?_, fun b z e => aC fun y => hza (by rw [<- y]; exact z)⟩
 by_cases hb : b = a
 ·subst hb; rw [aG] at e; cases e
 ·rw [aC hb] at e; exact e
theorem OK.chg (k : OK K H0 Z σ H S) {i : Nat} {a : Addr} {s₀ s : Sl} {o : HO} (h1 : S[i]? = some s₀) (h2 : s₀.mut = true) (h3 : σ[i]? = some (some (.ref a))) (ho : ∃ us, o = .lst us) (hm : s.mut = true) (hs : qb K H0 (NM Z σ S) (upd H a o) (some (.ref a)) s) :
  OK K H0 Z σ (upd H a o) (S.set i s) /\ Step Z σ S H σ (S.set i s) (upd H a o) := k.chgD h1 h2 h3 hm hs
end
structure bM where
 nx : List Sl -> Prop
 rt : D -> List Sl -> Prop
 bk : List Sl -> Prop := fun _ => False
 ct : List Sl -> Prop := fun _ => False
abbrev VTS := bM -> List Sl -> Prop
def NP (σ : St) (S : List Sl) : AP := fun a => ∀ (i : Nat) (ad : Option Addr) (ns : List Int), S[i]? = some (.pen ad ns) -> σ[i]? ≠ some (some (V.ref a))
structure Lf (K : PySem.W.Frag) (H0 : Hp) (Z : AP) (σ : St) (S : List Sl) (H : Hp) (V : bM) (E : Ends) : Prop where
 nx : ∀ σ' H' S', OK K H0 Z σ' H' S' -> Step Z σ S H σ' S' H' -> V.nx S' -> E.nx σ' H'
 bk : ∀ σ' H' S', OK K H0 Z σ' H' S' -> Step Z σ S H σ' S' H' -> V.bk S' -> E.bk σ' H'
 ct : ∀ σ' H' S', OK K H0 Z σ' H' S' -> Step Z σ S H σ' S' H' -> V.ct S' -> E.ct σ' H'
 rt : ∀ v d σ' H' S', OK K H0 Z σ' H' S' -> Step Z σ S H σ' S' H' -> Rep K (NP σ' S') (Fr H0) H' v d -> V.rt d S' -> E.rt v H'
theorem Lf.step {H0 H H1 : Hp} {σ σ1 : St} {S S1 : List Sl} {V : bM} {E : Ends} (l : Lf K H0 Z σ S H V E) (st : Step Z σ S H σ1 S1 H1) : Lf K H0 Z σ1 S1 H1 V E :=
 ⟨fun _ _ _ k s => l.nx _ _ _ k (st.trans s), fun _ _ _ k s => l.bk _ _ _ k (st.trans s), fun _ _ _ k s => l.ct _ _ _ k (st.trans s), fun _ _ _ _ _ k s => l.rt _ _ _ _ _ k (st.trans s)⟩
def zk (K : PySem.W.Frag) (ts : TS) (t : VTS) : Prop := ∀ H0 Z σ H S V E, OK K H0 Z σ H S -> t V S -> Lf K H0 Z σ S H V E -> ts E σ H
structure VS (K : PySem.W.Frag) (X : Cx) (st : Stmt) (ts : TS) (t : VTS) : Prop where
 ps : PS X st ts
 snd : zk K ts t
structure VSs (K : PySem.W.Frag) (X : Cx) (st : List Stmt) (ts : TS) (t : VTS) : Prop where
 ps : PSs X st ts
 snd : zk K ts t
inductive Wk : List Sl -> List Sl -> Prop where
 | nil : Wk [] []
 | keep {s : Sl} {S S' : List Sl} : Wk S S' -> Wk (s :: S) (s :: S')
 | fz {ds : List D} {S S' : List Sl} : Wk S S' -> Wk (.own ds :: S) (.val (.lst ds) :: S')
 | fd {ks : List (List Int)} {ds : List D} {S S' : List Sl} : Wk S S' -> Wk (.odi ks ds :: S) (.val (.dic ks ds) :: S')
 | drop {s : Sl} {S S' : List Sl} : Wk S S' -> Wk (s :: S) (.no :: S')
theorem Wk.refl : ∀ S, Wk S S
 | [] => .nil
 | _ :: r => .keep (Wk.refl r)
theorem Wk.len {S S' : List Sl} (h : Wk S S') : S.length = S'.length := by induction h <;> simp_all
theorem Wk.at_ {S S' : List Sl} (h : Wk S S') : ∀ {i : Nat} {s : Sl}, S'[i]? = some s -> ∃ s₀, S[i]? = some s₀ /\ (s = s₀ \/ s = .no \/ (∃ ds, s₀ = .own ds /\ s = .val (.lst ds)) \/ ∃ ks ds, s₀ = .odi ks ds /\ s = .val (.dic ks ds)) := by
 induction h with
 | nil => intro i s h; simp at h
 | keep h ih =>
  intro i s e
  cases i with
  | zero => simp at e; subst e; exact ⟨_, rfl, .inl rfl⟩
  | succ i => simpa using ih (i := i) (by simpa using e)
 | fz h ih =>
  intro i s e
  cases i with
  | zero => simp at e; subst e; exact ⟨_, rfl, .inr (.inr (.inl ⟨_, rfl, rfl⟩))⟩
  | succ i => simpa using ih (i := i) (by simpa using e)
 | fd h ih =>
  intro i s e
  cases i with
  | zero => simp at e; subst e; exact ⟨_, rfl, .inr (.inr (.inr ⟨_, _, rfl, rfl⟩))⟩
  | succ i => simpa using ih (i := i) (by simpa using e)
 | drop h ih =>
  intro i s e
  cases i with
  | zero => simp at e; subst e; exact ⟨_, rfl, .inr (.inl rfl)⟩
  | succ i => simpa using ih (i := i) (by simpa using e)
theorem Wk.mut {S S' : List Sl} (h : Wk S S') {i : Nat} {s : Sl} (e : S'[i]? = some s) (m : s.mut = true) : S[i]? = some s := by
 obtain ⟨s₀, h1, rfl | rfl | ⟨ds, rfl, rfl⟩ | ⟨ks, ds, rfl, rfl⟩⟩ := h.at_ e
 ·exact h1
 ·cases m
 ·cases m
 ·cases m
theorem OK.wk {H H0 : Hp} {S S' : List Sl} (k : OK K H0 Z σ H S) (w : Wk S S') : OK K H0 Z σ H S' /\ Step Z σ S H σ S' H := by
 have n : ∀ a, NM Z σ S a -> NM Z σ S' a := fun a x z => by
  rcases z with ⟨i, s, h1, h2, h3⟩ | z
  ·exact x (.inl ⟨i, s, w.mut h1 h2, h2, h3⟩)
  ·exact x (.inr z)
 refine ⟨⟨by rw [k.len, w.len], fun i o s h1 h2 => ?_, fun i j a s t h1 h2 m1 m2 h3 h4 => k.inj i j a s t (w.mut h1 m1) (w.mut h2 m2) m1 m2 h3 h4, k.dom, k.zl, fun i s a h1 m h3 => k.nz i s a (w.mut h1 m) m h3⟩, fun a x _ => ⟨rfl, n a x⟩, fun _ e => e, fun _ _ _ => rfl⟩
 obtain ⟨s₀, e, rfl | rfl | ⟨ds, rfl, rfl⟩ | ⟨ks, ds, rfl, rfl⟩⟩ := w.at_ h2
 ·have q := k.at_ i o s h1 e
  cases s with
  | no => trivial
  | val d => obtain ⟨v, e, r⟩ := q; exact ⟨v, e, r.mono (fun a x _ => ⟨n a x, rfl⟩) fun _ x => x⟩
  | fre d => obtain ⟨v, e, r⟩ := q; exact ⟨v, e, r.mono (fun a x _ => ⟨n a x, rfl⟩) fun _ x => x⟩
  | own ds => obtain ⟨a, vs, e, e', e0, r⟩ := q; exact ⟨a, vs, e, e', e0, r.mono (fun a x _ => ⟨n a x, rfl⟩) fun _ x => x⟩
  | pen ad ns => exact q
  | odi ks ds => obtain ⟨a, vs, e, e', e0, ek, r⟩ := q; exact ⟨a, vs, e, e', e0, ⟨ek.1, ek.2.mono (fun a x _ => ⟨n a x, rfl⟩) fun _ x => x⟩, r.mono (fun a x _ => ⟨n a x, rfl⟩) fun _ x => x⟩
  | obj k => obtain ⟨a, e, e0, r⟩ := q; exact ⟨a, e, e0, k.mono (fun a x _ => ⟨n a x, rfl⟩) rfl r⟩
 ·trivial
 ·obtain ⟨a, vs, e1, e2, e3, r⟩ := k.at_ i o _ h1 e
  subst e1
  refine ⟨.ref a, rfl, .lst ?_ trivial e2 (r.mono (fun a x _ => ⟨n a x, rfl⟩) fun _ _ => trivial)⟩
  intro z
  rcases z with ⟨j, s, g1, g2, g3⟩ | z
  ·have := k.inj i j a _ s e (w.mut g1 g2) rfl g2 h1 g3
   subst this
   rw [h2] at g1; cases g1; cases g2
  ·exact k.nz i _ a e rfl h1 z
 ·obtain ⟨a, vs, e1, ⟨ob, e2⟩, e3, ek, r⟩ := k.at_ i o _ h1 e
  subst e1
  refine ⟨.ref a, rfl, .dic ?_ trivial e2 ek.1 (ek.2.mono (fun a x _ => ⟨n a x, rfl⟩) fun _ _ => trivial) (r.mono (fun a x _ => ⟨n a x, rfl⟩) fun _ _ => trivial)⟩
  intro z
  rcases z with ⟨j, s, g1, g2, g3⟩ | z
  ·have := k.inj i j a _ s e (w.mut g1 g2) rfl g2 h1 g3
   subst this
   rw [h2] at g1; cases g1; cases g2
  ·exact k.nz i _ a e rfl h1 z
section
variable {K : PySem.W.Frag} {X : Cx} {m : Bool} {e a b c : Expr} {ta tb tc te : TE} {va vb vc : VT} {pos : Pos} {st : Stmt} {rest : List Stmt} {t u : TS} {v w : VTS}
def xw : VTS := fun V S => V.nx S
def BH (t u : VTS) : VTS := fun V S => t { V with nx := fun S' => ∃ S'', Wk S' S'' /\ u V S'' } S
theorem aQ : VSs K X [] qz xw := ⟨kh, fun H0 Z σ H S V E k h l => l.nx σ H S k .refl h⟩
theorem ay (h : VS K X st t v) : VSs K X [st] t v := ⟨ki h.ps, h.snd⟩
theorem ai (h1 : VS K X st t v) (h2 : VSs K X rest u w) : VSs K X (st :: rest) (ke t u) (BH v w) := ⟨cT h1.ps h2.ps, fun H0 Z σ H S V E k h l =>
 h1.snd H0 Z σ H S _ _ k h ⟨fun σ' H' S' k' st zt1 => by obtain ⟨S'', wk, q⟩ := zt1; exact h2.snd H0 Z σ' H' S'' V E (k'.wk wk).1 q (l.step (st.trans (k'.wk wk).2)), l.bk, l.ct, l.rt⟩⟩
def zm : VTS := fun _ _ => False
theorem cY : VS K X st gA zm := ⟨qB, fun _ _ _ _ _ _ _ _ h _ => h.elim⟩
def xy (va : VT) : VTS := fun V S => va S fun _ S1 => V.nx S1
theorem oG (h : VE K X false e te va) (hs : swapsWith e none pos.line X.env = pure false := by rfl) : VS K X (.Expr e pos) (xk te) (xy va) := ⟨uq h.pe hs, fun H0 Z σ H S V E k t l => h.snd H0 Z σ H S _ _ k t fun v H' r S' k' st _ q => l.nx σ H' S' k' st q⟩
def retO : Option Sl -> Option D
 | some (.own ds) => some (.lst ds)
 | some (.odi ks ds) => some (.dic ks ds)
 | _ => none
def retD (S : List Sl) : VR -> Option D
 | .d x => some x
 | .own i => retO S[i]?
def zo (va : VT) : VTS := fun V S => va S fun r S1 => ∃ d, retD S1 r = some d /\ V.rt d S1
theorem OK.ret {H0 H : Hp} {v : V} (k : OK K H0 Z σ H S) (h : fT K (FM H0 true) Z σ S H v r) (e : retD S r = some d) : Rep K (NP σ S) (Fr H0) H v d := by
 have np : ∀ a, NM Z σ S a -> NP σ S a := fun a n i ad ns h1 h2 => n (.inl ⟨i, _, h1, rfl, h2⟩)
 cases r with
 | d x => cases e; exact Rep.mono (fun a n _ => ⟨np a n, rfl⟩) (fun _ x => x rfl) h
 | own i =>
  have h : σ[i]? = some (some v) := h
  have e : retO S[i]? = some d := e
  cases es : S[i]? with
  | none => rw [es] at e; cases e
  | some s =>
   rw [es] at e
   cases s with
   | fre d => cases e
   | own ds =>
    cases e
    obtain ⟨a, vs, h1, h2, h3, h4⟩ := k.at_ _ _ _ h es
    cases h1
    refine .lst (fun i2 ad ns g1 g2 => ?_) ⟨a, rfl, h3⟩ h2 (h4.mono (fun a n _ => ⟨np a n, rfl⟩) fun _ x => x)
    have := k.inj _ _ a _ _ es g1 rfl rfl h g2
    subst this
    rw [es] at g1; cases g1
   | odi ks ds =>
    cases e
    obtain ⟨a, vs, h1, ⟨ob, h2⟩, h3, hk, h4⟩ := k.at_ _ _ _ h es
    cases h1
    refine .dic (fun i2 ad ns g1 g2 => ?_) ⟨a, rfl, h3⟩ h2 hk.1 (Reps.flat (hk.2.mono (fun a n _ => ⟨np a n, rfl⟩) fun _ x => x) (fR _)) (h4.mono (fun a n _ => ⟨np a n, rfl⟩) fun _ x => x)
    have := k.inj _ _ a _ _ es g1 rfl rfl h g2
    subst this
    rw [es] at g1; cases g1
   | no => cases e
   | val x => cases e
   | pen a b => cases e
   | obj k => cases e
theorem aP (h : VE K X true e te va) : VS K X (.Return (some e) pos) (yF te) (zo va) := ⟨qA h.pe, fun H0 Z σ H S V E k t l => h.snd H0 Z σ H S _ _ k t fun v H' r S' k' st rr zt1 => by obtain ⟨d, e, q⟩ := zt1; exact l.rt v d σ H' S' k' st (k'.ret rr e) q⟩
def BI (c : VTT) (t u : VTS) : VTS := fun V S => c S fun b S1 => if b = true then t V S1 else u V S1
theorem bA {A B : List Stmt} {tA : TT} {wA : VTT} (hc : VTe K X c tA wA) (ha : VSs K X A t v) (hb : VSs K X B u w) : VS K X (.If c A B pos) (yG tA t u) (BI wA v w) := ⟨xl hc.pe ha.ps hb.ps, fun H0 Z σ H S V E k t l =>
 hc.snd H0 Z σ H S _ _ k t fun b H1 S1 k1 st1 q => by
  cases b with
  | true => rw [if_pos rfl] at q ⊢; exact ha.snd H0 Z σ H1 S1 V E k1 q (l.step st1)
  | false => rw [if_neg Bool.false_ne_true] at q ⊢; exact hb.snd H0 Z σ H1 S1 V E k1 q (l.step st1)⟩
abbrev VG := D -> List Sl -> (List Sl -> Prop) -> Prop
def SndG (K : PySem.W.Frag) (g : TG) (vg : VG) : Prop := ∀ H0 Z σ H S v d Q C, OK K H0 Z σ H S -> Rep K (NM Z σ S) AnyF H v d -> vg d S Q -> (∀ σ' H' S', OK K H0 Z σ' H' S' -> Step Z σ S H σ' S' H' -> Q S' -> C σ' H') -> g v σ H C
def xA (g : TG) : Prop := ∀ x σ H Q1 Q2, (∀ σ H, Q1 σ H -> Q2 σ H) -> g x σ H Q1 -> g x σ H Q2
def zp (g : TGs) : Prop := ∀ x σ H Q1 Q2, (∀ σ H, Q1 σ H -> Q2 σ H) -> g x σ H Q1 -> g x σ H Q2
structure VGe (K : PySem.W.Frag) (X : Cx) (e : Expr) (g : TG) (vg : VG) : Prop where
 pg : PG X e g
 snd : SndG K g vg
 mono : xA g
def vgN (i : Nat) : VG := fun d S Q => i < S.length /\ Q (S.set i (.val d))
theorem az {i : Nat} (h : PG X e (bL i)) : VGe K X e (bL i) (vgN i) := ⟨h, fun H0 Z σ H S v d Q C k r zt1 hc => by obtain ⟨hi, q⟩ := zt1; exact hc _ _ _ (k.setVal hi r).1 (k.setVal hi r).2 q, fun _ _ _ _ _ h q => h _ _ q⟩
def BJ (K : PySem.W.Frag) (g : TGs) (vg : List D -> List Sl -> (List Sl -> Prop) -> Prop) : Prop := ∀ H0 Z σ H S vs ds Q C, OK K H0 Z σ H S -> Reps K (NM Z σ S) AnyF H vs ds -> vg ds S Q -> (∀ σ' H' S', OK K H0 Z σ' H' S' -> Step Z σ S H σ' S' H' -> Q S' -> C σ' H') -> g vs σ H C
structure VGs (K : PySem.W.Frag) (X : Cx) (es : List Expr) (g : TGs) (vg : List D -> List Sl -> (List Sl -> Prop) -> Prop) : Prop where
 pg : PGs X es g
 snd : BJ K g vg
 mono : zp g
def xB : List D -> List Sl -> (List Sl -> Prop) -> Prop := fun ds S Q => ds = [] /\ Q S
def rp (t : VG) (u : List D -> List Sl -> (List Sl -> Prop) -> Prop) : List D -> List Sl -> (List Sl -> Prop) -> Prop := fun ds S Q => ∃ d r, ds = d :: r /\ t d S fun S1 => u r S1 Q
theorem bP : VGs K X [] yI xB := ⟨ur, fun H0 Z σ H S vs ds Q C k r zq1 hc => by obtain ⟨e, q⟩ := zq1; subst e; cases r; exact ⟨rfl, hc _ _ _ k .refl q⟩, fun _ _ _ _ _ h q => ⟨q.1, h _ _ q.2⟩⟩
theorem aM {es : List Expr} {g : TG} {gs : TGs} {vg : VG} {vgs : List D -> List Sl -> (List Sl -> Prop) -> Prop} (h1 : VGe K X e g vg) (h2 : VGs K X es gs vgs) (hs : (assignEach (e :: es) X.env).map (·.2) = assign e X.env :: (assignEach es X.env).map (·.2) := by rfl) :
  VGs K X (e :: es) (n9 g gs) (rp vg vgs) := ⟨qC h1.pg h2.pg hs, fun H0 Z σ H S vs ds Q C k r zq1 hc => by
 obtain ⟨d, rd, e, q⟩ := zq1
 subst e
 cases r with
 | cons rv rr => exact ⟨_, _, rfl, h1.snd H0 Z σ H S _ _ _ _ k rv q fun σ1 H1 S1 k1 st1 q1 => h2.snd H0 Z σ1 H1 S1 _ _ _ _ k1 (rr.step st1) q1 fun σ2 H2 S2 k2 st2 q2 => hc _ _ _ k2 (st1.trans st2) q2⟩, fun x σ H Q1 Q2 h zt1 => by obtain ⟨v, r, e, q⟩ := zt1; exact ⟨v, r, e, h1.mono _ _ _ _ _ (fun σ' H' q' => h2.mono _ _ _ _ _ h q') q⟩⟩
def vgT (n : Nat) (u : List D -> List Sl -> (List Sl -> Prop) -> Prop) : VG := fun d S Q => ∃ ds, d = .tup ds /\ ds.length = n /\ u ds S Q
theorem ck {es : List Expr} {kk : Nat} {gs : TGs} {vgs : List D -> List Sl -> (List Sl -> Prop) -> Prop} {n : Nat} (hK : X.K = K) (hc : X.calm = true) (h : VGs K X es gs vgs) (hn : (assignEach es X.env).length = n := by rfl) (hst : (assignEach es X.env).findIdx? (·.1) = none := by rfl) :
  VGe K X (.Tuple es kk pos) (yJ K n gs) (vgT n vgs) := ⟨by subst hK; exact yK hc h.pg hn hst, fun H0 Z σ H S v d Q C k r zq1 hcc => by
 obtain ⟨ds, e, hl, q⟩ := zq1
 subst e
 obtain ⟨a, vs, rfl, hq, rr⟩ := r.sqT
 exact ⟨a, vs, rfl, hq, by rw [rr.length]; exact hl, h.snd H0 Z σ H S _ _ _ _ k rr q hcc⟩, fun x σ H Q1 Q2 hh zt1 => by obtain ⟨a, xs, e1, e2, e3, q⟩ := zt1; exact ⟨a, xs, e1, e2, e3, h.mono _ _ _ _ _ hh q⟩⟩
def qd (va : VT) (g : VG) : VTS := fun V S => va S fun r S1 => ∃ d, r = .d d /\ g d S1 V.nx
theorem nI {g : TG} {vg : VG} (ha : SndE K m te va) (hg : SndG K g vg) : zk K (dH te g) (qd va vg) := fun H0 Z σ H S V E k t l => ha H0 Z σ H S _ _ k t fun v H1 r S1 k1 st1 rr zq1 => by
 obtain ⟨d, e, q⟩ := zq1
 subst e
 exact hg H0 Z σ H1 S1 v d _ _ k1 (Rep.mono (fun _ n _ => ⟨n, rfl⟩) (fun _ _ => trivial) rr) q fun σ2 H2 S2 k2 st2 q2 => l.nx σ2 H2 S2 k2 (st1.trans st2) q2
theorem zr {i : Nat} {x : Str} {pos' : Pos} (ps : ∀ te, PE X e te -> PS X (.Assign [.Name x pos'] e pos) (dH te (bL i))) (h : VE K X false e te va) : VS K X (.Assign [.Name x pos'] e pos) (dH te (bL i)) (qd va (vgN i)) :=
 ⟨ps te h.pe, nI h.snd fun H0 Z σ H S v d Q C k r zt1 hc => by obtain ⟨hi, q⟩ := zt1; exact hc _ _ _ (k.setVal hi r).1 (k.setVal hi r).2 q⟩
theorem fA {tg : Expr} {g : TG} {vg : VG} (h : VE K X false e te va) (hg : VGe K X tg g vg) (hs : swapsWithSole [tg] e pos.line X.env = pure false := by rfl) (hw : swappedStores [tg] e X.env = pure none := by rfl)
  (h1 : (assignEach [tg] X.env).map (·.2) = [assign tg X.env] := by rfl) : VS K X (.Assign [tg] e pos) (dH te g) (qd va vg) := ⟨kj h.pe hg.pg hs hw h1, nI h.snd hg.snd⟩
def rq (i : Nat) (t : VTN) : VTS := fun V S => t S fun ds S1 => i < S1.length /\ V.nx (S1.set i (.own ds))
theorem dY {i : Nat} {x : Str} {pos' : Pos} {tn : VTN} (ps : ∀ te, PE X e te -> PS X (.Assign [.Name x pos'] e pos) (dH te (bL i))) (h : VN K X e te tn) : VS K X (.Assign [.Name x pos'] e pos) (dH te (bL i)) (rq i tn) :=
 ⟨ps te h.pe, fun H0 Z σ H S V E k t l => h.snd H0 Z σ H S _ _ k t fun a vs ds H1 H' S' k1 st1 ha hg hl rr zq1 => by
  obtain ⟨hi, q⟩ := zq1
  obtain ⟨k2, st2⟩ := k1.setNew (s := .own ds) hi ha hg ⟨a, vs, rfl, hl, k1.dom a ha, rr⟩ rfl
  exact l.nx _ _ _ k2 (st1.trans st2) q⟩
def xC (i : Nat) (t : VTN) : VTS := fun V S => t S fun ds S1 => ∃ ns : List Int, ds = ns.map .int /\ i < S1.length /\ V.nx (S1.set i (.pen none ns))
theorem uQ {i : Nat} {x : Str} {pos' : Pos} {tn : VTN} (ps : ∀ te, PE X e te -> PS X (.Assign [.Name x pos'] e pos) (dH te (bL i))) (h : VN K X e te tn) : VS K X (.Assign [.Name x pos'] e pos) (dH te (bL i)) (xC i tn) :=
 ⟨ps te h.pe, fun H0 Z σ H S V E k t l => h.snd H0 Z σ H S _ _ k t fun a vs ds H1 H' S' k1 st1 ha hg hl rr zq1 => by
  obtain ⟨ns, e, hi, q⟩ := zq1
  subst e
  obtain ⟨k2, st2⟩ := k1.setNew (s := .pen none ns) hi ha hg ⟨a, rfl, (fun _ z => nomatch z), by rw [<- Reps.toInts rr]; exact hl⟩ rfl
  exact l.nx _ _ _ k2 (st1.trans st2) q⟩
end
end VL
end
section
namespace VL
open PySem L2
section
variable {K : PySem.W.Frag} {X : Cx} {m : Bool} {e a b c : Expr} {ta tb tc te ti : TE} {va vb vc vi : VT} {pos : Pos} {st : Stmt} {rest : List Stmt} {t u : TS} {v w : VTS}
theorem OK.ownAt {H0 H : Hp} (k : OK K H0 Z σ H S) {i : Nat} {s : Sl} (e : S[i]? = some s) : ∃ o, σ[i]? = some o /\ qb K H0 (NM Z σ S) H o s := by
 have hi : i < σ.length := by rw [k.len]; exact (List.getElem?_eq_some_iff.mp e).1
 exact ⟨_, List.getElem?_eq_getElem hi, k.at_ i _ s (List.getElem?_eq_getElem hi) e⟩
def zt (i : Nat) (ve : VT) : VT := fun S Q => (∃ ds, S[i]? = some (.own ds)) /\ ve S fun r S1 => ∃ d ds, r = .d d /\ S1[i]? = some (.own ds) /\ ds.length <= 1000000 /\ Q (.d .non) (S1.set i (.own (ds ++ [d])))
theorem zu {apos : Pos} {o : Expr} (i : Nat) (hK : X.K = K) (ho : PE X o (cS i)) (h : VE K X true e te va) (pe : ∀ te, PE X e te -> PE X (.Call (.Attribute o "append" apos) [e] [] pos) (tBM X.K "list" iq (cS i) (cF te gF))) :
  VE K X m (.Call (.Attribute o "append" apos) [e] [] pos) (tBM K "list" iq (cS i) (cF te gF)) (zt i va) := ⟨by subst hK; exact pe te h.pe, fun H0 Z σ H S Q C k zq1 hc => by
 obtain ⟨⟨ds0, e0⟩, t⟩ := zq1
 obtain ⟨o, h1, a, vs, rfl, h2, h3, h4⟩ := k.ownAt e0
 refine ⟨.ref a, h1, .inl ⟨rfl, vs, .inl (.inl h2)⟩, ?_⟩
 refine h.snd H0 Z σ H S _ _ k t fun x H1 r S1 k1 st1 rr zr1 => ?_
 obtain ⟨d, ds, er, e1, hl, q⟩ := zr1
 subst er
 obtain ⟨o', g1, a', vs', rfl, g2, g3, g4⟩ := k1.ownAt e1
 rw [h1] at g1; cases g1
 refine ⟨a, vs', x, rfl, rfl, g2, by rw [g4.length, sizeLine_eq]; lia, ?_⟩
 have na : NM Z σ S1 a -> False := fun n => n (.inl ⟨i, _, e1, rfl, h1⟩)
 have hm : ∀ b, NM Z σ S1 b -> H1 b ≠ none -> NM Z σ S1 b /\ upd H1 a (.lst (vs' ++ [x])) b = H1 b := fun b n _ => ⟨n, aC fun z => na (by rw [<- z]; exact n)⟩
 obtain ⟨k2, st2⟩ := k1.chg (s := .own (ds ++ [d])) (o := .lst (vs' ++ [x])) e1 rfl h1 ⟨_, rfl⟩ rfl ⟨a, _, rfl, aG, g3, Reps.append (g4.mono hm fun _ x => x) (.cons (Rep.mono hm (fun _ x => x rfl) rr) .nil)⟩
 exact hc .non _ (.d .non) _ k2 (st1.trans st2) Rep.non q⟩
theorem rA {apos : Pos} {o : Expr} (i : Nat) (hK : X.K = K) (ho : PE X o (cS i)) (h : VE K X true e te va) (hbase : attributeBase o "append" X.env (eval o X.env) = eval o X.env := by rfl)
  (hfew : ((backTo pos (starEach (e :: []) X.env)).all (fun x => !x.1) && (backToKw pos (keywordEach [] X.env)).all (fun x => x.1.isSome)
   && decide ((e :: []).length + ([] : List Keyword).length + (if ([] : List Keyword).isEmpty then 0 else 1) < 30)) = true := by rfl)
  (hline : (apos.endLine == pos.line) = true := by rfl) (hs : starEach (e :: []) X.env = (false, eval e X.env) :: starEach [] X.env := by rfl) (hplain : (backTo pos (starEach [] X.env)).any (·.1) = false := by rfl) :
  VE K X m (.Call (.Attribute o "append" apos) [e] [] pos) (tBM K "list" iq (cS i) (cF te gF)) (zt i va) :=
 zu i hK ho h fun te hp => jN PySem.F.plainAttrs_list PySem.F.slot_list_append PySem.F.type_list_append pZ ho (bK hp dw hs) hbase hfew hline hs hplain
def rB (i : Nat) (ve vi : VT) : VTS := fun V S => ve S fun r S1 => (∃ s, S1[i]? = some s /\ s.mut = true) /\ vi S1 fun ri S2 => ∃ j, get S2 ri = some (.int j) /\
  ((∃ ad ns k n, S2[i]? = some (.pen ad ns) /\ ixN ns.length j = some k /\ r = .d (.int n) /\ V.nx (S2.set i (.pen ad (ns.set k n)))) \/
   (∃ ds k d, S2[i]? = some (.own ds) /\ ixN ds.length j = some k /\ r = .d d /\ V.nx (S2.set i (.own (ds.set k d)))))
theorem lZ {o ie : Expr} {posS : Pos} (i : Nat) (ho : PE X o (cS i)) (h : VE K X true e te va) (hi : VE K X false ie ti vi)
  (ha : ∀ v, assign (.Subscript o ie posS) X.env v = (do
   let ov <- holding [v] (eval o X.env)
   let iv <- holding [v, ov] (eval ie X.env)
   standAt posS
   holding [v, ov, iv] (setItem ov iv v)
   release [v, ov, iv] []) := by intro _; rfl)
  (hs : swapsWithSole [.Subscript o ie posS] e pos.line X.env = pure false := by rfl) (hw : swappedStores [.Subscript o ie posS] e X.env = pure none := by rfl)
  (h1 : (assignEach [.Subscript o ie posS] X.env).map (·.2) = [assign (.Subscript o ie posS) X.env] := by rfl) :
  VS K X (.Assign [.Subscript o ie posS] e pos) (dH te (qD (cS i) ti lN)) (rB i va vi) := ⟨kj h.pe (qE ho hi.pe set_list ha) hs hw h1, fun H0 Z σ H S V E k t l => by
 refine h.snd H0 Z σ H S _ _ k t fun x H1 r S1 k1 st1 rr zr1 => ?_
 obtain ⟨⟨s1, em, hm1⟩, q⟩ := zr1
 -- the slot's address stays: σ is one
 have fin : ∀ (p : Addr), σ[i]? = some (some (.ref p)) -> qD (cS i) ti lN x σ H1 E.nx := fun p hp => by
  refine ⟨.ref p, hp, hi.snd H0 Z σ H1 S1 _ _ k1 q fun y H2 ri S2 k2 st2 r2 zr1 => ?_⟩
  obtain ⟨j, ej, q2⟩ := zr1
  cases r2.get k2 ej
  have rr2 := rr.step st2
  rcases q2 with ⟨ad, ns, kk, n, e1, e2, er, q2⟩ | ⟨ds, kk, d, e1, e2, er, q2⟩
  ·subst er
   cases (show Rep K _ _ H2 x (.int n) from rr2)
   obtain ⟨o', g1, a', rfl, g2, g3⟩ := k2.ownAt e1
   rw [hp] at g1; cases g1
   refine ⟨p, _, j, kk, rfl, rfl, g3, by rw [List.length_map]; exact e2, ?_⟩
   obtain ⟨k3, st3⟩ := k2.chg (s := .pen ad (ns.set kk n)) (o := .lst ((ns.map L2.V.int).set kk (.int n))) e1 rfl hp ⟨_, rfl⟩ rfl ⟨p, rfl, g2, by rw [aG, List.map_set]⟩
   exact l.nx _ _ _ k3 ((st1.trans st2).trans st3) q2
  ·subst er
   obtain ⟨o', g1, a', vs, rfl, g2, g3, g4⟩ := k2.ownAt e1
   rw [hp] at g1; cases g1
   refine ⟨p, _, j, kk, rfl, rfl, g2, by rw [g4.length]; exact e2, ?_⟩
   have na : NM Z σ S2 p -> False := fun n => n (.inl ⟨i, _, e1, rfl, hp⟩)
   have hm : ∀ b, NM Z σ S2 b -> H2 b ≠ none -> NM Z σ S2 b /\ upd H2 p (.lst (vs.set kk x)) b = H2 b := fun b n _ => ⟨n, aC fun z => na (by rw [<- z]; exact n)⟩
   obtain ⟨k3, st3⟩ := k2.chg (s := .own (ds.set kk d)) (o := .lst (vs.set kk x)) e1 rfl hp ⟨_, rfl⟩ rfl ⟨p, _, rfl, aG, g3, Reps.set (Rep.mono hm (fun _ x => x rfl) rr2) kk (g4.mono hm fun _ x => x)⟩
   exact l.nx _ _ _ k3 ((st1.trans st2).trans st3) q2
 -- which address it is: look once
 obtain ⟨o1, g1, g2⟩ := k1.ownAt em
 cases s1 with
 | no => cases hm1
 | val d => cases hm1
 | fre d => cases hm1
 | own ds => obtain ⟨p, _, rfl, _⟩ := g2; exact fin p g1
 | pen ad ns => obtain ⟨p, rfl, _⟩ := g2; exact fin p g1
 | odi ks ds => obtain ⟨p, _, rfl, _⟩ := g2; exact fin p g1
 | obj k => obtain ⟨p, rfl, _⟩ := g2; exact fin p g1⟩
def pick : List VR -> Nat -> Option (Nat × List VR)
 | .own i :: r, 0 => some (i, r)
 | x :: r, j + 1 => (pick r j).map fun p => (p.1, x :: p.2)
 | _, _ => none
def BK (j : Nat) (p : List Int -> List D -> (D -> List Int -> Prop) -> Prop) (vr : VTA) : VT := fun S Q => vr S fun rs S1 => ∃ i rs' ad ns ds, pick rs j = some (i, rs') /\ S1[i]? = some (.pen ad ns) /\ allD rs' = some ds /\ p ns ds fun d ns' => Q (.d d) (S1.set i (.pen ad ns'))
theorem cP.pick : ∀ {j : Nat} {vs : List V} {rs : List VR} {i : Nat} {rs' : List VR}, cP K F Z σ S H vs rs -> VL.pick rs j = some (i, rs') -> ∃ v ws us, vs = ws ++ v :: us /\ ws.length = j /\ σ[i]? = some (some v) /\ cP K F Z σ S H (ws ++ us) rs' /\ ws.length <= (ws ++ us).length
 | 0, _, _, i, rs', .cons (r := r) h t, e => by
  cases r with
  | d x => cases e
  | own k => cases e; exact ⟨_, [], _, rfl, rfl, h, t, by simp⟩
 | j + 1, _, _, i, rs', .cons (r := r) (rs := rs) h t, e => by
  have e' : (VL.pick rs j).map (fun p => (p.1, r :: p.2)) = some (i, rs') := by cases r <;> exact e
  obtain ⟨⟨i', q⟩, h1, h2⟩ := Option.map_eq_some_iff.mp e'
  cases h2
  obtain ⟨v, ws, us, rfl, hl, hs, rr, _⟩ := cP.pick t h1
  exact ⟨v, _ :: ws, us, rfl, by simp [hl], hs, .cons h rr, by simp⟩
 | _, _, _, _, _, .nil, e => by cases e
theorem Reps.splitAt {N : AP} : ∀ {ws us : List V} {ds : List D}, Reps K N F H (ws ++ us) ds -> ∃ d1 d2, ds = d1 ++ d2 /\ Reps K N F H ws d1 /\ Reps K N F H us d2
 | [], us, ds, h => ⟨[], ds, rfl, .nil, h⟩
 | w :: ws, us, _, .cons h t => by
  obtain ⟨d1, d2, rfl, h1, h2⟩ := Reps.splitAt (ws := ws) t
  exact ⟨_ :: d1, d2, rfl, .cons h h1, h2⟩
section
variable {es : List Expr} {tr : TA} {vr : VTA} {x : Str} {p0 : Pos} {j k : Nat} {ps : List Str}
theorem bN {jj : Nat} {p : List Int -> List D -> (D -> List Int -> Prop) -> Prop} (E : Has X.prog X.w X.K X.mg X.base k x ps (spI K jj p)) (hr : b7 j X.A) (ha : VA K X false (e :: es) tr vr)
  (hk : k <= j := by decide) (hg : Gl X x := by rfl) (hdb : (x == ("__debug__" : Str)) = false := by decide) (he : starEach (e :: es) X.env = (false, eval e X.env) :: starEach es X.env := by rfl)
  (hpl : (backTo pos (starEach es X.env)).any (·.1) = false := by rfl) : VE K X m (.Call (.Name x p0) (e :: es) [] pos) (jI (spI K jj p) [] E0 tr) (BK jj p vr) := ⟨qU E hr ha.pe hk hg hdb he hpl, fun H0 Z σ H S Q C k t hc =>
 ha.snd H0 Z σ H S _ _ k t fun vs H1 rs S1 k1 st1 rrs zq1 => by
  obtain ⟨i, rs', ad, ns, ds, e1, e2, e3, q⟩ := zq1
  obtain ⟨v, ws, us, rfl, hl, hs, rr, _⟩ := rrs.pick e1
  obtain ⟨o, g1, a, rfl, g2, g3⟩ := k1.ownAt e2
  rw [hs] at g1; cases g1
  have ma : Mo Z σ S1 a := .inl ⟨i, _, e2, rfl, hs⟩
  obtain ⟨d1, d2, rfl, r1, r2⟩ := Reps.splitAt (rr.allD e3)
  have hm : ∀ b, NM Z σ S1 b -> H1 b ≠ none -> b ≠ a /\ H1 b = H1 b := fun b n _ => ⟨fun z => n (by rw [z]; exact ma), rfl⟩
  refine ⟨a, ws, us, ns, d1, d2, _, by rw [List.append_nil], hl, g3, r1.mono hm fun _ _ => trivial, r2.mono hm fun _ _ => trivial, q, fun d ns' v H' q g ga rv => ?_⟩
  -- the pen changed, and the heap grown
  have hG : ∀ b, upd H1 a (.lst (ns'.map V.int)) b ≠ none -> H' b = upd H1 a (.lst (ns'.map V.int)) b := fun b hb => by
   by_cases hba : b = a
   ·subst hba; rw [aG]; exact ga
   ·rw [aC hba] at hb ⊢; exact g b hba hb
  obtain ⟨k2, st2⟩ := k1.chg (s := .pen ad ns') (o := .lst (ns'.map V.int)) e2 rfl hs ⟨_, rfl⟩ rfl ⟨a, rfl, g2, aG⟩
  have k3 := k2.grow hG
  refine hc v H' (.d d) _ k3 ((st1.trans st2).trans (.grow hG)) (show Rep K _ _ H' v d from ?_) q
  refine (Rep.avoid (N' := NM Z σ (S1.set i (.pen ad ns'))) (fun b z => k3.mo (Classical.not_not.mp z)) (fun b zr1 => ?_) rv).mono (fun _ n _ => ⟨n, rfl⟩) (fun o zt1 _ => by obtain ⟨c, ec, f⟩ := zt1; exact ⟨c, ec, k1.dom c f⟩)
  obtain ⟨c, ec, f⟩ := zr1
  cases ec
  refine k2.nm ?_
  rw [aC]
  ·exact f
  ·intro z; subst z; rw [g3] at f; cases f⟩
end
end
end VL
end
section
namespace VL
open PySem L2
def Gd (K : PySem.W.Frag) (Z : AP) (J : It) (ds : List D) (σ : St) (S : List Sl) (H : Hp) : Prop := ∀ σ2 S2 H2, (∀ p, H2 p = none -> NM Z σ2 S2 p) -> Step Z σ S H σ2 S2 H2 -> ∀ i, (i < ds.length -> J.go i H2) /\ (∀ x H3, J.yld i H2 x H3 -> i < ds.length -> (∀ a, H2 a ≠ none -> H3 a = H2 a) /\ ∃ d, ds[i]? = some d /\ Rep K (NM Z σ2 S2) AnyF H3 x d) /\ (i = ds.length -> J.stop i H2)
def SndI (K : PySem.W.Frag) (wi : TI) (vi : VTN) : Prop := ∀ H0 Z σ H S Q C, OK K H0 Z σ H S -> vi S Q -> (∀ J ds H' S', OK K H0 Z σ H' S' -> Step Z σ S H σ S' H' -> Gd K Z J ds σ S' H' -> Q ds S' -> C J H') -> wi σ H C
structure VI (K : PySem.W.Frag) (X : Cx) (tg e : Expr) (wi : TI) (vi : VTN) : Prop where
 pi : PI X tg e wi
 snd : SndI K wi vi
section
variable {K : PySem.W.Frag} {X : Cx} {m : Bool} {e a b c tg : Expr} {ta tb tc te ti : TE} {va vb vc : VT} {pos : Pos} {st : Stmt} {rest : List Stmt} {t u : TS} {v w : VTS}
def BL (va : VT) : VTN := fun S Q => va S fun r S1 => ∃ ds, r = .d (.lst ds) /\ Q ds S1
theorem bI (hK : X.K = K) (h : VE K X false e te va) : VI K X tg e (qH K te) (BL va) := ⟨by subst hK; exact oa h.pe, fun H0 Z σ H S Q C k t hc => h.snd H0 Z σ H S _ _ k t fun v H1 r S1 k1 st1 rr zq1 => by
 obtain ⟨ds, e, q⟩ := zq1
 subst e
 have rr : Rep K _ _ H1 v (.lst ds) := rr
 obtain ⟨a, vs, rfl, hq, _⟩ := rr.sqL
 refine ⟨a, rfl, ⟨vs, hq⟩, hc _ ds H1 S1 k1 st1 (fun σ2 S2 H2 _ st2 i => ?_) q⟩
 obtain ⟨a', vs', e, hq2, r2⟩ := (rr.step st2).sqL
 cases e
 refine ⟨fun hi => ?_, fun x H3 hy hi => ?_, fun hi => ⟨vs', hq2, by rw [r2.length]; lia⟩⟩
 ·obtain ⟨v, h1, _⟩ := r2.getD (List.getElem?_eq_getElem hi)
  exact ⟨vs', v, hq2, h1⟩
 ·obtain ⟨e, h2⟩ := hy
  obtain ⟨d, h3, h4⟩ := r2.get (h2 vs' hq2)
  exact ⟨fun _ _ => by rw [e], d, h3, h4.mono (fun _ n _ => ⟨n, by rw [e]⟩) fun _ _ => trivial⟩⟩
def rg (lo : Int) (n : Nat) : List D := (List.range n).map fun (i : Nat) => D.int (lo + (i : Int))
theorem nJ (lo : Int) (n : Nat) : (rg lo n).length = n := by simp [rg]
theorem xD {lo : Int} {n i : Nat} (h : i < n) : (rg lo n)[i]? = some (.int (lo + (i : Int))) := by simp [rg, h]
theorem zv {lo : Int} {n : Nat} : Gd K Z (Itr lo n) (rg lo n) σ S H := fun σ2 S2 H2 _ st2 i => by
 rw [nJ]
 refine ⟨fun h => h, fun x H3 zt1 hi => by obtain ⟨e, hx⟩ := zt1; exact ⟨fun _ _ => by rw [e], _, xD hi, by rw [hx]; exact .int _⟩, fun h => by rw [h]; exact Nat.le_refl _⟩
section
variable {tr : TA} {vr : VTA} {p : Pos}
def zw (vr : VTA) : VTN := fun S Q => vr S fun rs S1 => ∃ j : Int, rs = [.d (.int j)] /\ -(2 ^ 62) <= j /\ j < 2 ^ 62 /\ Q (rg 0 j.toNat) S1
theorem bY (hg : Gl X "range") (hm : X.mg "range" = none) (ha : VA K X false [a] tr vr) (hs : starEach [a] X.env = [(false, eval a X.env)] := by rfl) : VI K X tg (.Call (.Name "range" p) [a] [] pos) (xm tr) (zw vr) := ⟨pU hg hm ha.pe hs, fun H0 Z σ H S Q C k t hc =>
 ha.snd H0 Z σ H S _ _ k t fun vs H1 rs S1 k1 st1 rrs zq1 => by
  obtain ⟨j, e, h1, h2, q⟩ := zq1
  subst e
  cases rrs with
  | cons r t =>
   cases t
   cases (show Rep K _ _ H1 _ (.int j) from r)
   exact ⟨j, rfl, h1, h2, hc _ _ H1 S1 k1 st1 zv q⟩⟩
end
def runFor (vg : VG) (vb : VTS) (V : bM) : List D -> List Sl -> Prop
 | [] => V.nx
 | d :: r => fun S => vg d S fun S3 => vb ⟨runFor vg vb V r, V.rt, V.nx, runFor vg vb V r⟩ S3
def BM (vi : VTN) (vg : VG) (vb : VTS) : VTS := fun V S => vi S fun ds S1 => runFor vg vb V ds S1 \/ ∃ Iv : Nat -> List Sl -> Prop, Iv 0 S1 /\ (∀ i d S2, ds[i]? = some d -> Iv i S2 -> vg d S2 fun S3 => vb { V with nx := Iv (i + 1), ct := Iv (i + 1), bk := V.nx } S3) /\ ∀ S2, Iv ds.length S2 -> V.nx S2
theorem iT {body : List Stmt} {wi : TI} {vi : VTN} {g : TG} {vg : VG} (hp : PassesOwn (model X.prog X.w) X.A X.env X.xe) (hc : X.calm = true) (hi : VI K X tg e wi vi) (hg : VGe K X tg g vg) (hb : VSs K X body t v) (hs : ∀ x, foldedSetIterable e X.env x = pure x := by intro _; rfl) :
  VS K X (.For tg e body [] pos) (yM wi g t) (BM vi vg v) := ⟨qJ hp hc hi.pi hg.pg hb.ps hs, fun H0 Z σ H S V E k t l => hi.snd H0 Z σ H S _ _ k t fun J ds H1 S1 k1 st1 gd hh => by
 rcases hh with hr | ⟨Iv, i0, hs, hd⟩
 ·refine ⟨fun i m σ H => m = ds.length - i /\ i <= ds.length /\ ∃ S2, OK K H0 Z σ H S2 /\ Step Z _ S1 H1 σ S2 H /\ runFor vg v V (ds.drop i) S2, ⟨ds.length, by simp, Nat.zero_le _, S1, k1, .refl, by simpa using hr⟩, ?_⟩
  rintro i m σ2 H2 ⟨rfl, hi, S2, k2, st2, p⟩
  obtain ⟨g1, g2, g3⟩ := gd σ2 S2 H2 (fun _ => k2.nm) st2 i
  by_cases hlt : i < ds.length
  ·rw [List.drop_eq_getElem_cons hlt] at p
   refine .inr ⟨g1 hlt, fun σ' H' => ∃ S', OK K H0 Z σ' H' S' /\ Step Z σ S1 H1 σ' S' H' /\ runFor vg v V (ds.drop (i + 1)) S', fun σ' H' p' => ⟨ds.length - (i + 1), by lia, rfl, hlt, p'⟩, fun x H3 y => ?_⟩
   obtain ⟨hgr, d, hd', rd⟩ := g2 x H3 y hlt
   replace k2 := k2.grow hgr
   replace st2 := st2.trans (.grow hgr)
   rw [List.getElem?_eq_getElem hlt] at hd'
   cases hd'
   refine hg.snd H0 Z σ2 H3 S2 x _ _ _ k2 rd p fun σ4 H4 S4 k4 st4 q4 => ?_
   refine hb.snd H0 Z σ4 H4 S4 _ _ k4 q4 ⟨fun σ' H' S' k' s' q' => ⟨S', k', (st2.trans st4).trans s', q'⟩, fun σ' H' S' k' s' q' => l.nx σ' H' S' k' (((st1.trans st2).trans st4).trans s') q', fun σ' H' S' k' s' q' => ⟨S', k', (st2.trans st4).trans s', q'⟩, fun v d σ' H' S' k' s' r' q' => l.rt v d σ' H' S' k' (((st1.trans st2).trans st4).trans s') r' q'⟩
  ·have e : i = ds.length := by lia
   rw [e, List.drop_length] at p
   exact .inl ⟨g3 e, l.nx _ _ _ k2 (st1.trans st2) p⟩
 refine ⟨fun i m σ H => m = ds.length - i /\ i <= ds.length /\ ∃ S2, OK K H0 Z σ H S2 /\ Step Z _ S1 H1 σ S2 H /\ Iv i S2, ⟨ds.length, by simp, Nat.zero_le _, S1, k1, .refl, i0⟩, ?_⟩
 rintro i m σ2 H2 ⟨rfl, hi, S2, k2, st2, p⟩
 obtain ⟨g1, g2, g3⟩ := gd σ2 S2 H2 (fun _ => k2.nm) st2 i
 by_cases hlt : i < ds.length
 ·refine .inr ⟨g1 hlt, fun σ' H' => ∃ S', OK K H0 Z σ' H' S' /\ Step Z σ S1 H1 σ' S' H' /\ Iv (i + 1) S', fun σ' H' p' => ⟨ds.length - (i + 1), by lia, rfl, hlt, p'⟩, fun x H3 y => ?_⟩
  obtain ⟨hgr, d, hd', rd⟩ := g2 x H3 y hlt
  replace k2 := k2.grow hgr
  replace st2 := st2.trans (.grow hgr)
  refine hg.snd H0 Z σ2 H3 S2 x d _ _ k2 rd (hs i d S2 hd' p) fun σ4 H4 S4 k4 st4 q4 => ?_
  refine hb.snd H0 Z σ4 H4 S4 _ _ k4 q4 ⟨fun σ' H' S' k' s' q' => ⟨S', k', (st2.trans st4).trans s', q'⟩, fun σ' H' S' k' s' q' => l.nx σ' H' S' k' (((st1.trans st2).trans st4).trans s') q', fun σ' H' S' k' s' q' => ⟨S', k', (st2.trans st4).trans s', q'⟩, fun v d σ' H' S' k' s' r' q' => l.rt v d σ' H' S' k' (((st1.trans st2).trans st4).trans s') r' q'⟩
 ·have e : i = ds.length := by lia
  exact .inl ⟨g3 e, l.nx _ _ _ k2 (st1.trans st2) (hd S2 (by rw [<- e]; exact p))⟩⟩
end
def bp (n : Nat) (ix : List Nat) (S : List Sl) : List Sl := List.replicate n .no ++ ix.map fun i => (S[i]?).getD .no
def md (s t : Sl) : Sl := if s.mut then (if t.mut then t else .no) else s
def dJ (n : Nat) (ix : List Nat) (T : List Sl) : Nat -> List Sl -> List Sl
 | _, [] => []
 | k, s :: r => (match ix.idxOf? k with | some j => md s ((T[n + j]?).getD .no) | none => s) :: dJ n ix T (k + 1) r
def backS (n : Nat) (ix : List Nat) (S T : List Sl) : List Sl := dJ n ix T 0 S
def Zin (Z : AP) (ix : List Nat) (σ : St) (S : List Sl) : AP := fun a => Z a \/ ∃ (i : Nat) (s : Sl), i ∉ ix /\ S[i]? = some s /\ s.mut = true /\ σ[i]? = some (some (V.ref a))
section
variable {K : PySem.W.Frag} {H H' H0 : Hp} {Z : AP} {σ σ' : St} {S T : List Sl} {n : Nat} {ix : List Nat}
theorem iU (k : Nat) : (dJ n ix T k S).length = S.length := by
 induction S generalizing k with
 | nil => rfl
 | cons s r ih => simp [dJ, ih]
theorem uR (k : Nat) {i : Nat} {s : Sl} (h : S[i]? = some s) : (dJ n ix T k S)[i]? = some (match ix.idxOf? (k + i) with | some j => md s ((T[n + j]?).getD .no) | none => s) := by
 induction S generalizing k i with
 | nil => simp at h
 | cons s' r ih =>
  cases i with
  | zero => simp at h; subst h; rfl
  | succ i =>
   simp at h
   simp only [dJ, List.getElem?_cons_succ]
   rw [ih (k + 1) h, show k + 1 + i = k + (i + 1) by lia]
theorem kE {j : Nat} {s : Sl} (h : (bp n ix S)[j]? = some s) (m : s.mut = true) : ∃ k i, j = n + k /\ ix[k]? = some i /\ S[i]? = some s := by
 unfold bp at h
 by_cases hj : j < n
 ·rw [List.getElem?_append_left (by simpa using hj)] at h
  simp [hj] at h
  subst h; cases m
 ·rw [List.getElem?_append_right (by simp; lia)] at h
  simp only [List.length_replicate, List.getElem?_map] at h
  cases hk : ix[j - n]? with
  | none => rw [hk] at h; cases h
  | some i =>
   rw [hk] at h
   simp at h
   refine ⟨j - n, i, by lia, hk, ?_⟩
   cases hs : S[i]? with
   | none => rw [hs] at h; simp at h; subst h; cases m
   | some s' => rw [hs] at h; simp at h; subst h; rfl
theorem uS {j : Nat} {s : Sl} (h : (bp n ix S)[j]? = some s) : s = .no \/ ∃ k i, j = n + k /\ ix[k]? = some i /\ S[i]? = some s := by
 unfold bp at h
 by_cases hj : j < n
 ·rw [List.getElem?_append_left (by simpa using hj)] at h
  simp [hj] at h
  exact .inl h.symm
 ·rw [List.getElem?_append_right (by simp; lia)] at h
  simp only [List.length_replicate, List.getElem?_map] at h
  cases hk : ix[j - n]? with
  | none => rw [hk] at h; cases h
  | some i =>
   rw [hk] at h
   simp at h
   cases hs : S[i]? with
   | none => rw [hs] at h; simp at h; exact .inl h.symm
   | some s' => rw [hs] at h; simp at h; subst h; exact .inr ⟨j - n, i, by lia, hk, hs⟩
theorem fX {k i : Nat} (h : ix[k]? = some i) : (capt n ix σ)[n + k]? = some ((σ[i]?).getD none) := by
 unfold capt
 rw [List.getElem?_append_right (by simp)]
 simp [h]
theorem uT {k i : Nat} (h : ix[k]? = some i) : (bp n ix S)[n + k]? = some ((S[i]?).getD .no) := by
 unfold bp
 rw [List.getElem?_append_right (by simp)]
 simp [h]
theorem dI {k i : Nat} (h : ix[k]? = some i) (e : (capt n ix σ)[n + k]? = some (some v)) : σ[i]? = some (some v) := by
 rw [fX h] at e
 cases hs : σ[i]? with
 | none => rw [hs] at e; cases e
 | some o => rw [hs] at e; simp at e; rw [e]
theorem gJ {a : Addr} : Mo (Zin Z ix σ S) (capt n ix σ) (bp n ix S) a ↔ Mo Z σ S a := by
 constructor
 ·rintro (⟨j, s, h1, h2, h3⟩ | h | ⟨i, s, _, h1, h2, h3⟩)
  ·obtain ⟨k, i, rfl, hk, hs⟩ := kE h1 h2
   exact .inl ⟨i, s, hs, h2, dI hk h3⟩
  ·exact .inr h
  ·exact .inl ⟨i, s, h1, h2, h3⟩
 ·rintro (⟨i, s, h1, h2, h3⟩ | h)
  ·by_cases hi : i ∈ ix
   ·obtain ⟨k, hk⟩ := List.getElem?_of_mem hi
    refine .inl ⟨n + k, s, ?_, h2, ?_⟩
    ·rw [uT hk, h1]; rfl
    ·rw [fX hk, h3]; rfl
   ·exact .inr (.inr ⟨i, s, hi, h1, h2, h3⟩)
  ·exact .inr (.inl h)
theorem qe {l : List Nat} (h : l.Nodup) : ∀ {i j x : Nat}, l[i]? = some x -> l[j]? = some x -> i = j := fun {i j x} h1 h2 => by
 obtain ⟨a, e1⟩ := List.getElem?_eq_some_iff.mp h1
 obtain ⟨b, e2⟩ := List.getElem?_eq_some_iff.mp h2
 have hp := List.pairwise_iff_getElem.mp h
 rcases Nat.lt_trichotomy i j with c | c | c
 ·exact (hp i j a b c (by rw [e1, e2])).elim
 ·exact c
 ·exact (hp j i b a c (by rw [e1, e2])).elim
theorem OK.capt (k : OK K H0 Z σ H S) (hn : ix.Nodup) : OK K H0 (Zin Z ix σ S) (L2.capt n ix σ) H (bp n ix S) where
 len := by simp [L2.capt, bp]
 dom := k.dom
 zl := fun a z => by
  rcases z with z | ⟨i, s, _, h1, h2, h3⟩
  ·exact k.zl a z
  ·exact k.mo (.inl ⟨i, s, h1, h2, h3⟩)
 nz := fun j s a h1 h2 h3 z => by
  obtain ⟨q, i, rfl, hk, hs⟩ := kE h1 h2
  have e := dI hk h3
  rcases z with z | ⟨i', s', hi', g1, g2, g3⟩
  ·exact k.nz i s a hs h2 e z
  ·have := k.inj i i' a s s' hs g1 h2 g2 e g3
   subst this
   exact hi' (List.mem_of_getElem? hk)
 inj := fun j j' a s s' h1 h2 m1 m2 h3 h4 => by
  obtain ⟨q, i, rfl, hk, hs⟩ := kE h1 m1
  obtain ⟨q', i', rfl, hk', hs'⟩ := kE h2 m2
  have := k.inj i i' a s s' hs hs' m1 m2 (dI hk h3) (dI hk' h4)
  subst this
  rw [qe hn hk hk']
 at_ := fun j o s h1 h2 => by
  have hN : ∀ a, NM Z σ S a -> NM (Zin Z ix σ S) (L2.capt n ix σ) (bp n ix S) a := fun a x z => x (gJ.mp z)
  rcases uS h2 with rfl | ⟨q, i, rfl, hk, hs⟩
  ·trivial
  ·rw [fX hk] at h1
   obtain ⟨o', e1, sl⟩ := k.ownAt hs
   rw [e1] at h1
   simp at h1
   subst h1
   cases s with
   | no => trivial
   | val d => obtain ⟨v, e, r⟩ := sl; exact ⟨v, e, r.mono (fun a x _ => ⟨hN a x, rfl⟩) fun _ x => x⟩
   | fre d => obtain ⟨v, e, r⟩ := sl; exact ⟨v, e, r.mono (fun a x _ => ⟨hN a x, rfl⟩) fun _ x => x⟩
   | own ds => obtain ⟨a, vs, e, e', e0, r⟩ := sl; exact ⟨a, vs, e, e', e0, r.mono (fun a x _ => ⟨hN a x, rfl⟩) fun _ x => x⟩
   | pen ad ns => exact sl
   | odi ks ds => obtain ⟨a, vs, e, e', e0, ek, r⟩ := sl; exact ⟨a, vs, e, e', e0, ⟨ek.1, ek.2.mono (fun a x _ => ⟨hN a x, rfl⟩) fun _ x => x⟩, r.mono (fun a x _ => ⟨hN a x, rfl⟩) fun _ x => x⟩
   | obj k => obtain ⟨a, e, e0, r⟩ := sl; exact ⟨a, e, e0, k.mono (fun a x _ => ⟨hN a x, rfl⟩) rfl r⟩
theorem rC {i j : Nat} (h : ix.idxOf? i = some j) : ix[j]? = some i := by
 unfold List.idxOf? at h
 obtain ⟨h1, h2, _⟩ := List.findIdx?_eq_some_iff_getElem.mp h
 rw [List.getElem?_eq_getElem h1]
 simpa using h2
theorem rD {i : Nat} (h : ix.idxOf? i = none) : i ∉ ix := by
 unfold List.idxOf? at h
 intro hm
 have := List.findIdx?_eq_none_iff.mp h i hm
 simp at this
theorem me {i : Nat} {s : Sl} (h : S[i]? = some s) : (backS n ix S T)[i]? = some (match ix.idxOf? i with | some j => md s ((T[n + j]?).getD .no) | none => s) := by
 have := uR (n := n) (ix := ix) (T := T) 0 h
 rwa [Nat.zero_add] at this
theorem dM {i : Nat} {s' : Sl} (h : (backS n ix S T)[i]? = some s') (m : s'.mut = true) : ∃ s, S[i]? = some s /\ s.mut = true /\ ((∃ j, ix[j]? = some i /\ T[n + j]? = some s') \/ (i ∉ ix /\ s = s')) := by
 have hl : i < S.length := by
  have := (List.getElem?_eq_some_iff.mp h).1
  rwa [show (backS n ix S T).length = S.length from iU 0] at this
 have e := me (n := n) (ix := ix) (T := T) (List.getElem?_eq_getElem hl)
 rw [h] at e
 have e := Option.some.inj e
 refine ⟨_, List.getElem?_eq_getElem hl, ?_⟩
 cases hx : ix.idxOf? i with
 | none =>
  rw [hx] at e
  have e : s' = S[i] := e
  exact ⟨by rw [<- e]; exact m, .inr ⟨rD hx, e.symm⟩⟩
 | some j =>
  rw [hx] at e
  simp only [md] at e
  by_cases hm : (S[i]).mut = true
  ·rw [if_pos hm] at e
   refine ⟨hm, .inl ⟨j, rC hx, ?_⟩⟩
   cases ht : T[n + j]? with
   | none => rw [ht] at e; simp [Sl.mut] at e; subst e; cases m
   | some t =>
    rw [ht] at e
    simp only [Option.getD_some] at e
    by_cases htm : t.mut = true
    ·rw [if_pos htm] at e; rw [e]
    ·rw [if_neg htm] at e; subst e; cases m
  ·rw [if_neg hm] at e; subst e; exact (hm m).elim
theorem qf {i : Nat} {s' : Sl} (h : (backS n ix S T)[i]? = some s') (m : s'.mut = false) : s' = .no \/ S[i]? = some s' := by
 have hl : i < S.length := by
  have := (List.getElem?_eq_some_iff.mp h).1
  rwa [show (backS n ix S T).length = S.length from iU 0] at this
 have e := me (n := n) (ix := ix) (T := T) (List.getElem?_eq_getElem hl)
 rw [h] at e
 have e := Option.some.inj e
 cases hx : ix.idxOf? i with
 | none => rw [hx] at e; exact .inr (by rw [List.getElem?_eq_getElem hl, e])
 | some j =>
  rw [hx] at e
  simp only [md] at e
  by_cases hm : (S[i]).mut = true
  ·rw [if_pos hm] at e
   by_cases htm : ((T[n + j]?).getD .no).mut = true
   ·rw [if_pos htm] at e; rw [e, htm] at m; cases m
   ·rw [if_neg htm] at e; exact .inl e
  ·rw [if_neg hm] at e; exact .inr (by rw [List.getElem?_eq_getElem hl, e])
theorem OK.back (k : OK K H0 Z σ H S) (k' : OK K H0 (Zin Z ix σ S) σ' H' T) (st : Step (Zin Z ix σ S) (L2.capt n ix σ) (bp n ix S) H σ' T H') (hσ : ∀ (i : Nat) (v : V), (L2.capt n ix σ)[i]? = some (some v) -> σ'[i]? = some (some v)) :
  OK K H0 Z σ H' (backS n ix S T) /\ Step Z σ S H σ (backS n ix S T) H' /\ ∀ a, NM (Zin Z ix σ S) σ' T a -> NM Z σ (backS n ix S T) a := by
 have mo' : ∀ a, Mo Z σ (backS n ix S T) a -> Mo (Zin Z ix σ S) σ' T a := fun a z => by
  rcases z with ⟨i, s', h1, h2, h3⟩ | z
  ·obtain ⟨s, e, em, ⟨j, hj, ht⟩ | ⟨hi, rfl⟩⟩ := dM h1 h2
   ·exact .inl ⟨n + j, s', ht, h2, hσ _ _ (by rw [fX hj, h3]; rfl)⟩
   ·exact .inr (.inr ⟨i, s, hi, e, em, h3⟩)
  ·exact .inr (.inl z)
 have nm' : ∀ a, NM (Zin Z ix σ S) σ' T a -> NM Z σ (backS n ix S T) a := fun a x z => x (mo' a z)
 have nm0 : ∀ a, NM Z σ S a -> NM (Zin Z ix σ S) (L2.capt n ix σ) (bp n ix S) a := fun a x z => x (gJ.mp z)
 have old : ∀ a, NM Z σ S a -> H a ≠ none -> NM Z σ (backS n ix S T) a /\ H' a = H a := fun a x e => ⟨nm' a (st.1 a (nm0 a x) e).2, (st.1 a (nm0 a x) e).1⟩
 refine ⟨⟨by rw [show (backS n ix S T).length = S.length from iU 0]; exact k.len, fun i o s' h1 h2 => ?_, fun i j a s t h1 h2 m1 m2 h3 h4 => ?_, fun a e => k'.dom a e, fun a z => k'.zl a (.inl z), fun i s a h1 m h3 z => ?_⟩, ⟨fun a x e => ⟨(old a x e).2, (old a x e).1⟩, st.2.1, fun a z e => st.2.2 a (.inl z) e⟩, nm'⟩
 ·cases hm : s'.mut with
  | true =>
   obtain ⟨s, e, em, ⟨j, hj, ht⟩ | ⟨hi, rfl⟩⟩ := dM h2 hm
   ·have eo : ∃ v, o = some v := by
     obtain ⟨o', e1, q⟩ := k.ownAt e
     rw [h1] at e1; cases e1
     cases s with
     | no => cases em
     | val d => cases em
     | fre d => cases em
     | own ds => obtain ⟨a, _, e, _⟩ := q; exact ⟨_, e⟩
     | pen ad ns => obtain ⟨a, e, _⟩ := q; exact ⟨_, e⟩
     | odi ks ds => obtain ⟨a, _, e, _⟩ := q; exact ⟨_, e⟩
     | obj k => obtain ⟨a, e, _⟩ := q; exact ⟨_, e⟩
    obtain ⟨v, rfl⟩ := eo
    have q := k'.at_ (n + j) (some v) s' (hσ _ _ (by rw [fX hj, h1]; rfl)) ht
    cases s' with
    | no => cases hm
    | val d => cases hm
    | fre d => cases hm
    | own ds => obtain ⟨a, vs, e, e', e0, r⟩ := q; exact ⟨a, vs, e, e', e0, r.mono (fun a x _ => ⟨nm' a x, rfl⟩) fun _ x => x⟩
    | pen ad ns => exact q
    | odi ks ds => obtain ⟨a, vs, e, e', e0, ek, r⟩ := q; exact ⟨a, vs, e, e', e0, ⟨ek.1, ek.2.mono (fun a x _ => ⟨nm' a x, rfl⟩) fun _ x => x⟩, r.mono (fun a x _ => ⟨nm' a x, rfl⟩) fun _ x => x⟩
    | obj k => obtain ⟨a, e, e0, r⟩ := q; exact ⟨a, e, e0, k.mono (fun a x _ => ⟨nm' a x, rfl⟩) rfl r⟩
   ·obtain ⟨o', e1, q⟩ := k.ownAt e
    rw [h1] at e1; cases e1
    have hz : ∀ a us, o = some (V.ref a) -> H a = some us -> H' a = H a := fun a us eo ea => st.2.2 a (.inr ⟨i, s, hi, e, em, by rw [h1, eo]⟩) (by simp [ea])
    cases s with
    | no => cases hm
    | val d => cases hm
    | fre d => cases hm
    | own ds => obtain ⟨a, vs, e, e', e0, r⟩ := q; exact ⟨a, vs, e, (hz a _ e e').trans e', e0, r.mono old fun _ x => x⟩
    | pen ad ns => obtain ⟨a, e, e1, e'⟩ := q; exact ⟨a, e, e1, (hz a _ e e').trans e'⟩
    | odi ks ds => obtain ⟨a, vs, e, ⟨ob, e'⟩, e0, ek, r⟩ := q; exact ⟨a, vs, e, ⟨ob, (hz a _ e e').trans e'⟩, e0, ⟨ek.1, ek.2.mono old fun _ x => x⟩, r.mono old fun _ x => x⟩
    | obj k => obtain ⟨a, e, e0, r⟩ := q; exact ⟨a, e, e0, k.mono old (hz a _ e (Option.ne_none_iff_exists'.mp (k.ism r).ne).choose_spec) r⟩
  | false =>
   rcases qf h2 hm with rfl | e
   ·trivial
   ·have q := k.at_ i o s' h1 e
    cases s' with
    | no => trivial
    | val d => obtain ⟨v, e, r⟩ := q; exact ⟨v, e, r.mono old fun _ x => x⟩
    | fre d => obtain ⟨v, e, r⟩ := q; exact ⟨v, e, r.mono old fun _ x => x⟩
    | own ds => cases hm
    | pen ad ns => cases hm
    | odi ks ds => cases hm
    | obj k => cases hm
 ·obtain ⟨s0, e0, em0, c1⟩ := dM h1 m1
  obtain ⟨t0, f0, fm0, c2⟩ := dM h2 m2
  exact k.inj i j a s0 t0 e0 f0 em0 fm0 h3 h4
 ·obtain ⟨s0, e0, em0, c1⟩ := dM h1 m
  exact k.nz i s0 a e0 em0 h3 z
end
section
variable {K : PySem.W.Frag} {X : Cx} {e a b c tg elt iter : Expr} {te : TE} {va : VT} {pos : Pos}
structure VTs (K : PySem.W.Frag) (X : Cx) (ifs : List Expr) (te : TT) (t : VTT) : Prop where
 pe : PTs X ifs te
 snd : SndT K te t
def rE : VTT := fun S Q => Q true S
theorem ba : VTs K X [] oz rE := ⟨oA, fun _ _ _ _ _ _ _ k h q => q _ _ _ k .refl h⟩
theorem iw {tA : TT} {wA : VTT} (h : VTe K X c tA wA) : VTs K X [c] tA wA := ⟨uL h.pe, h.snd⟩
def oH (vi : VTN) (n : Nat) (ix : List Nat) (vg : VG) (vt : VTT) (ve : VT) : VTN := fun S Q => vi S fun ds S1 => ds.length <= 1000000 /\ ∃ Iv : Nat -> List D -> List Sl -> Prop, Iv 0 [] S1 /\
 (∀ i d ys S2, ds[i]? = some d -> Iv i ys S2 -> vg d (bp n ix S2) fun S3 => vt S3 fun b S4 => if b = true then ve S4 fun r S5 => ∃ x, r = .d x /\ Iv (i + 1) (ys ++ [x]) (backS n ix S2 S5) else Iv (i + 1) ys (backS n ix S2 S4)) /\
 ∀ ys S2, Iv ds.length ys S2 -> Q ys S2
theorem bf {ifs : List Expr} {scope : Scope} {tg cs : List Str} {target : Expr} {wi : TI} {vi : VTN} {g : TG} {vg : VG} {tc : TT} {vt : VTT} {te : TE} {ve : VT} (Sc : bt X scope tg cs ix) (hcalm : X.calm = true) (kg : dU tg.length ix g) (hnd : ix.Nodup)
  (hi : VI K X target iter wi vi) (hg : ∀ C fp s H, VGe K (aq X scope (tg ++ cs) C fp s H) target g vg) (hc : ∀ C fp s H, VTs K (aq X scope (tg ++ cs) C fp s H) ifs tc vt) (he : ∀ C fp s H, VE K (aq X scope (tg ++ cs) C fp s H) true elt te ve)
  (hs : ∀ x, foldedSetIterable iter X.env x = pure x := by intro _; rfl) : VN K X (.ListComp elt [⟨target, iter, ifs, 0⟩] scope pos) (iK wi tg.length ix g tc te) (oH vi tg.length ix vg vt ve) := by
 have sg : SndG K g vg := (hg 0 [] X.s₀ (fun _ => none)).snd
 have sc : SndT K tc vt := (hc 0 [] X.s₀ (fun _ => none)).snd
 have se : SndE K true te ve := (he 0 [] X.s₀ (fun _ => none)).snd
 refine ⟨uM Sc hcalm kg hi.pi (fun C fp s H => (hg C fp s H).pg) (fun C fp s H => (hc C fp s H).pe) (fun C fp s H => (he C fp s H).pe) hs, fun H0 Z σ H S Q C k t hq => ?_⟩
 refine hi.snd H0 Z σ H S _ _ k t fun J ds H1 S1 k1 st1 gd zr1 => ?_
 obtain ⟨hl, Iv, i0, hs, hd⟩ := zr1
 refine ⟨fun i m ys H => m = ds.length - i /\ i <= ds.length /\ ys.length <= i /\ ∃ S2 zs, OK K H0 Z σ H S2 /\ Step Z σ S1 H1 σ S2 H /\ Reps K (NM Z σ S2) (Fr H0) H ys zs /\ Iv i zs S2, ⟨ds.length, by simp, Nat.zero_le _, Nat.le_refl _, S1, [], k1, .refl, .nil, i0⟩, ?_⟩
 rintro i m ys H2 ⟨rfl, hi, hy, S2, zs, k2, st2, rz, p⟩
 obtain ⟨g1, g2, g3⟩ := gd σ S2 H2 (fun _ => k2.nm) st2 i
 have hsz : (1000000 : Nat) < sizeLine := by rw [sizeLine_eq]; lia
 by_cases hlt : i < ds.length
 ·refine .inr ⟨g1 hlt, by lia, fun ys' H' => ys'.length <= i + 1 /\ ∃ S' zs', OK K H0 Z σ H' S' /\ Step Z σ S1 H1 σ S' H' /\ Reps K (NM Z σ S') (Fr H0) H' ys' zs' /\ Iv (i + 1) zs' S', fun ys' H' zt1 => by obtain ⟨p1, p2⟩ := zt1; exact ⟨ds.length - (i + 1), by lia, rfl, hlt, p1, p2⟩, fun x H3 y => ?_⟩
  obtain ⟨hgr, d, hd', rd⟩ := g2 x H3 y hlt
  replace k2 := k2.grow hgr
  replace st2 := st2.trans (.grow hgr)
  replace rz := rz.step (.grow hgr)
  have kc := k2.capt (n := tg.length) hnd
  have rd' : Rep K (NM (Zin Z ix σ S2) (L2.capt tg.length ix σ) (bp tg.length ix S2)) AnyF H3 x d := rd.mono (fun a n _ => ⟨fun z => n (gJ.mp z), rfl⟩) fun _ x => x
  -- the target leaves what the block took over
  have h1 := sg H0 _ _ H3 _ x d _ (fun σ4 H4 => ∃ S4, OK K H0 (Zin Z ix σ S2) σ4 H4 S4 /\ Step (Zin Z ix σ S2) (L2.capt tg.length ix σ) (bp tg.length ix S2) H3 σ4 S4 H4 /\ vt S4 fun b S5 => if b = true then ve S5 fun r S6 => ∃ x, r = .d x /\ Iv (i + 1) (zs ++ [x]) (backS tg.length ix S2 S6) else Iv (i + 1) zs (backS tg.length ix S2 S5)) kc rd' (hs i d zs S2 hd' p) (fun σ4 H4 S4 k4 st4 q4 => ⟨S4, k4, st4, q4⟩)
  have h2 := kg x σ H3 _ h1
  refine (hg 0 [] X.s₀ (fun _ => none)).mono _ _ _ _ _ ?_ h2
  rintro σ4 H4 ⟨⟨hl4, hσ4⟩, S4, k4, st4, q4⟩
  refine sc H0 _ σ4 H4 S4 _ _ k4 q4 fun bb H5 S5 k5 st5 q5 => ?_
  cases bb with
  | false =>
   rw [if_neg Bool.false_ne_true] at q5 ⊢
   obtain ⟨kb, sb, nb⟩ := k2.back k5 (st4.trans st5) hσ4
   exact ⟨by lia, _, zs, kb, st2.trans sb, rz.step sb, q5⟩
  | true =>
   rw [if_pos rfl] at q5 ⊢
   refine se H0 _ σ4 H5 S5 _ _ k5 q5 fun vv H6 r S6 k6 st6 rr zr1 => ?_
   obtain ⟨xx, er, q6⟩ := zr1
   subst er
   obtain ⟨kb, sb, nb⟩ := k2.back k6 ((st4.trans st5).trans st6) hσ4
   refine ⟨by simp; lia, _, zs ++ [xx], kb, st2.trans sb, Reps.append (rz.step sb) (.cons (Rep.mono (fun a n _ => ⟨nb a n, rfl⟩) (fun _ x => x rfl) rr) .nil), q6⟩
 ·have e : i = ds.length := by lia
  refine .inl ⟨g3 e, by lia, fun l hp => ?_⟩
  exact hq l ys zs H2 _ S2 k2 (st1.trans st2) hp (aU hp) aG (bV hp (rz.mono (fun _ n _ => ⟨n, rfl⟩) fun _ x _ => x)) (hd zs S2 (by rw [<- e]; exact p))
theorem mf {elt iter : Expr} {pos spos py : Pos} {yy : Str} {ii : Nat} {ifs : List Expr} {scope : Scope} {tg cs : List Str} {target : Expr} {wi : TI} {vi : VTN} {g : TG} {vg : VG} {tc : TT} {vt : VTT} {te : TE} {ve : VT} (hN0 : X.N.Nodup) (hi0 : X.N[ii]? = some yy) (hx0 : Loc X.env.scope yy) (hf0 : X.fn yy = true \/ X.env.scope.names.lookup yy = some .local)
  (Sc : bt X scope tg cs ix) (hcalm : X.calm = true) (kg : dU tg.length ix g) (hnd : ix.Nodup)
  (hi : VI K X target iter wi vi) (hg : ∀ C fp s H, VGe K (aq X scope (tg ++ cs) C fp s H) target g vg) (hc : ∀ C fp s H, VTs K (aq X scope (tg ++ cs) C fp s H) ifs tc vt) (he : ∀ C fp s H, VE K (aq X scope (tg ++ cs) C fp s H) true elt te ve)
  (hsw : swapsWith (.ListComp elt [⟨target, iter, ifs, 0⟩] scope pos) (some (.Name yy py)) spos.line X.env = pure true := by rfl) (hs : ∀ x, foldedSetIterable iter X.env x = pure x := by intro _; rfl) : VS K X (.Assign [.Name yy py] (.ListComp elt [⟨target, iter, ifs, 0⟩] scope pos) spos) (dH (iK wi tg.length ix g tc te) (bL ii)) (qd (zi (oH vi tg.length ix vg vt ve)) (vgN ii)) := by
 have h := bf (pos := pos) Sc hcalm kg hnd hi hg hc he hs
 refine ⟨lT hN0 hi0 hx0 Sc hcalm kg hi.pi (fun C fp s H => (hg C fp s H).pg) (fun C fp s H => (hc C fp s H).pe) (fun C fp s H => (he C fp s H).pe) hf0 hsw hs, nI (aL (m := false) h).snd fun H0 Z σ H S v d Q C k r zt1 hc => by obtain ⟨hi, q⟩ := zt1; exact hc _ _ _ (k.setVal hi r).1 (k.setVal hi r).2 q⟩
end
end VL
end
section
namespace VL
open PySem L2
section
variable {P : Program} {w : World} {K : PySem.W.Frag} {mg : Str -> Option Value} {base : Heap}
def slots (n : Nat) (ds : List D) : List Sl := ds.map .val ++ List.replicate (n - ds.length) .no
theorem iV {N : List Str} {i : Nat} (h : vs[i]? = some v) : (start N vs)[i]? = some (some v) := by
 unfold L2.start
 have hi := (List.getElem?_eq_some_iff.mp h).1
 rw [List.getElem?_append_left (by simpa using hi)]
 simp [h]
theorem mh {n : Nat} {i : Nat} {s : Sl} (h : (slots n ds)[i]? = some s) : s = .no \/ ∃ d, s = .val d /\ ds[i]? = some d := by
 unfold slots at h
 by_cases hi : i < ds.length
 ·rw [List.getElem?_append_left (by simpa using hi)] at h
  simp [hi] at h
  subst h
  exact .inr ⟨_, rfl, by simp [hi]⟩
 ·rw [List.getElem?_append_right (by simpa using hi)] at h
  have := List.mem_of_getElem? h
  exact .inl (List.eq_of_mem_replicate this)
theorem cI {n : Nat} {i : Nat} {s : Sl} (h : (slots n ds)[i]? = some s) : s.mut = false := by
 rcases mh h with rfl | ⟨d, rfl, _⟩ <;> rfl
theorem mi {N : List Str} (r : Reps K Any AnyF H vs ds) : OK K H (fun _ => False) (start N vs) H (slots N.length ds) where
 len := by simp [L2.start, slots, r.length]
 dom := fun _ e => e
 zl := fun _ z => z.elim
 nz := fun i s a h m _ => by rw [cI h] at m; cases m
 inj := fun i j a s t h1 h2 m1 => by rw [cI h1] at m1; cases m1
 at_ := fun i o s h1 h2 => by
  rcases mh h2 with rfl | ⟨d, rfl, e⟩
  ·trivial
  ·obtain ⟨v, e1, e2⟩ := r.getD e
   rw [iV e1] at h1
   cases h1
   refine ⟨v, rfl, e2.mono (fun a _ _ => ⟨?_, rfl⟩) fun _ x => x⟩
   rintro (⟨j, s, g1, g2, _⟩ | z)
   ·rw [cI g1] at g2; cases g2
   ·exact z
theorem cZ {x : Str} {st : Stmt} {N ps : List Str} {k : Nat} (S : Src K mg x st) (sc : aS N ps (aj st))
  (hb : ∀ (kV doc pm : Value) (an : Option Addr) (cdv ct : Value) (us : List Value), us.length = ps.length -> bindArgs (PySem.W.fnOf x x (cz st) (bG st) (aj st) .none kV doc pm an cdv ct) ⟨us, []⟩ = pure (ps.zip us))
  (len : ∀ ds R, p ds R -> ds.length = ps.length)
  (hbody : ∀ (f : Addr) (cdv : Value) (A : Around) (outer : List Env) (s : Shared) (H : Hp) (E : XK), b7 k (A.deeper (PyProof.Rows.envOfC x (aj st) s.heap.objs.size f cdv)) ->
   ∃ ts t, VSs K (ig CX0 P w K mg base N x (aj st) f cdv A outer s H E).nox (bG st) ts t /\ ∀ ds R, p ds R -> t { nx := fun _ => R .non, rt := fun d _ => R d } (slots N.length ds)) : Has P w K mg base (k + 1) x ps (spP K p) := by
 refine S.has sc hb (fun vs H Q E zq1 => by obtain ⟨ds, R, r, h, _⟩ := zq1; rw [r.length]; exact len ds R h) fun f cdv A outer s H vs Q E hr ⟨ds, R, r, h, fin⟩ => ?_
 obtain ⟨ts, t, vs', q⟩ := hbody f cdv A outer s H E hr
 have k0 := mi (N := N) r
 have st0 : ∀ {σ' S' H'}, Step (fun _ => False) (start N vs) (slots N.length ds) H σ' S' H' -> ∀ a, H a ≠ none -> H' a = H a := fun st a e => (st.1 a (by
  rintro (⟨j, s, g1, g2, _⟩ | z)
  ·rw [cI g1] at g2; cases g2
  ·exact z) e).1
 refine ⟨ts, vs'.ps, vs'.snd H _ _ H _ _ _ k0 (q ds R h) ⟨fun σ' H' S' k' st q => fin .non .non H' q (st0 st) .non, fun σ' H' S' k' st q => q.elim, fun σ' H' S' k' st q => q.elim, fun v d σ' H' S' k' st rr q => fin d v H' q (st0 st) (rr.mono (fun _ _ _ => ⟨trivial, rfl⟩) fun _ x => x)⟩⟩
def dZ (n : Nat) (a : Addr) (ns : List Int) (ds es : List D) : List Sl := ds.map .val ++ .pen (some a) ns :: (es.map .val ++ List.replicate (n - (ds.length + 1 + es.length)) .no)
theorem jV {n : Nat} {a : Addr} {ds es : List D} {i : Nat} {s : Sl} (h : (dZ n a ns ds es)[i]? = some s) : s = .no \/ (∃ d, s = .val d /\ (ds ++ .non :: es)[i]? = some d /\ i ≠ ds.length) \/ (i = ds.length /\ s = .pen (some a) ns) := by
 unfold dZ at h
 by_cases hi : i < ds.length
 ·rw [List.getElem?_append_left (by simpa using hi)] at h
  simp [hi] at h
  subst h
  exact .inr (.inl ⟨_, rfl, by rw [List.getElem?_append_left hi]; simp [hi], by lia⟩)
 ·by_cases hi2 : i = ds.length
  ·subst hi2
   rw [List.getElem?_append_right (by simp)] at h
   simp at h
   exact .inr (.inr ⟨rfl, h.symm⟩)
  ·rw [List.getElem?_append_right (by simp; lia)] at h
   rw [List.length_map] at h
   obtain ⟨j, hj⟩ : ∃ j, i - ds.length = j + 1 := ⟨i - ds.length - 1, by lia⟩
   rw [hj, List.getElem?_cons_succ] at h
   by_cases hj2 : j < es.length
   ·rw [List.getElem?_append_left (by simpa using hj2)] at h
    simp [hj2] at h
    subst h
    refine .inr (.inl ⟨_, rfl, ?_, hi2⟩)
    rw [List.getElem?_append_right (by lia), hj, List.getElem?_cons_succ]
    simp [hj2]
   ·rw [List.getElem?_append_right (by simpa using hj2)] at h
    exact .inl (List.eq_of_mem_replicate (List.mem_of_getElem? h))
theorem oI {x : Str} {st : Stmt} {N ps : List Str} {k : Nat} (j : Nat) {p : List Int -> List D -> (D -> List Int -> Prop) -> Prop} (S : Src K mg x st) (sc : aS N ps (aj st))
  (hb : ∀ (kV doc pm : Value) (an : Option Addr) (cdv ct : Value) (us : List Value), us.length = ps.length -> bindArgs (PySem.W.fnOf x x (cz st) (bG st) (aj st) .none kV doc pm an cdv ct) ⟨us, []⟩ = pure (ps.zip us))
  (len : ∀ ns ds R, p ns ds R -> ds.length + 1 = ps.length)
  (hbody : ∀ (f : Addr) (cdv : Value) (A : Around) (outer : List Env) (s : Shared) (H : Hp) (E : XK), b7 k (A.deeper (PyProof.Rows.envOfC x (aj st) s.heap.objs.size f cdv)) ->
   ∃ ts t, VSs K (ig CX0 P w K mg base N x (aj st) f cdv A outer s H E).nox (bG st) ts t /\ ∀ a ns ds es R, ds.length = j -> p ns (ds ++ es) R -> t { nx := fun S' => ∃ ns', S'[j]? = some (.pen (some a) ns') /\ R .non ns', rt := fun d S' => ∃ ns', S'[j]? = some (.pen (some a) ns') /\ R d ns' } (dZ N.length a ns ds es)) :
  Has P w K mg base (k + 1) x ps (spI K j p) := by
 refine S.has sc hb (fun vs H Q E zq1 => by
  obtain ⟨a, ws, us, ns, ds, es, R, e, hl, hp, r1, r2, h, _⟩ := zq1
  have := len _ _ _ h
  rw [e, List.length_append, List.length_cons, r1.length, r2.length]
  rw [List.length_append] at this
  lia) fun f cdv A outer s H vs Q E hr zr1 => ?_
 obtain ⟨a, ws, us, ns, ds, es, R, e, hl, hp, r1, r2, h, fin⟩ := zr1
 subst e
 obtain ⟨ts, t, vs', q⟩ := hbody f cdv A outer s H E hr
 have hdl : ds.length = j := by rw [<- r1.length]; exact hl
 subst hdl
 have hmut : ∀ {i : Nat} {s : Sl}, (dZ N.length a ns ds es)[i]? = some s -> s.mut = true -> i = ds.length /\ s = .pen (some a) ns := fun {i s} h m => by
  rcases jV h with rfl | ⟨d, rfl, _⟩ | h
  ·cases m
  ·cases m
  ·exact h
 have hpen : (start N (ws ++ .ref a :: us))[ds.length]? = some (some (V.ref a)) := iV (by rw [<- hl]; simp)
 have hmo : ∀ b, Mo (fun _ => False) (start N (ws ++ .ref a :: us)) (dZ N.length a ns ds es) b -> b = a := fun b z => by
  rcases z with ⟨i, s, g1, g2, g3⟩ | z
  ·obtain ⟨rfl, _⟩ := hmut g1 g2
   rw [hpen] at g3; cases g3; rfl
  ·exact z.elim
 have hll : N.length - (ws.length + (us.length + 1)) = N.length - (ds.length + 1 + es.length) := by rw [r1.length, r2.length]; lia
 have k0 : OK K H (fun _ => False) (start N (ws ++ .ref a :: us)) H (dZ N.length a ns ds es) := {
  len := by simp [L2.start, dZ, r1.length, r2.length]; lia
  dom := fun _ e => e
  zl := fun _ z => z.elim
  nz := fun _ _ _ _ _ _ z => z
  inj := fun i j a s t h1 h2 m1 m2 _ _ => by rw [(hmut h1 m1).1, (hmut h2 m2).1]
  at_ := fun i o s h1 h2 => by
   rcases jV h2 with rfl | ⟨d, rfl, e, hi⟩ | ⟨rfl, rfl⟩
   ·trivial
   ·have rr : ∃ v, (ws ++ .ref a :: us)[i]? = some v /\ Rep K (· ≠ a) AnyF H v d := by
     by_cases hi2 : i < ds.length
     ·rw [List.getElem?_append_left hi2] at e
      obtain ⟨v, e1, e2⟩ := r1.getD e
      exact ⟨v, by rw [List.getElem?_append_left (by rw [r1.length]; exact hi2)]; exact e1, e2⟩
     ·rw [List.getElem?_append_right (by lia)] at e
      obtain ⟨j, hj⟩ : ∃ j, i - ds.length = j + 1 := ⟨i - ds.length - 1, by lia⟩
      rw [hj, List.getElem?_cons_succ] at e
      obtain ⟨v, e1, e2⟩ := r2.getD e
      exact ⟨v, by rw [List.getElem?_append_right (by rw [r1.length]; lia), r1.length, hj, List.getElem?_cons_succ]; exact e1, e2⟩
    obtain ⟨v, e1, e2⟩ := rr
    rw [iV e1] at h1
    cases h1
    exact ⟨v, rfl, e2.mono (fun b n _ => ⟨fun z => n (hmo b z), rfl⟩) fun _ x => x⟩
   ·rw [hpen] at h1
    cases h1
    exact ⟨a, rfl, fun b z => by cases z; rfl, hp⟩ }
 have st0 : ∀ {σ' S' H'}, Step (fun _ => False) (start N (ws ++ .ref a :: us)) (dZ N.length a ns ds es) H σ' S' H' -> ∀ b, b ≠ a -> H b ≠ none -> H' b = H b := fun st b n e => (st.1 b (fun z => n (hmo b z)) e).1
 have pn : ∀ {σ' S' H' ns'}, OK K H (fun _ => False) σ' H' S' -> S'[ds.length]? = some (.pen (some a) ns') -> σ'[ds.length]? = some (some (V.ref a)) /\ H' a = some (.lst (ns'.map .int)) := fun k' e => by
  obtain ⟨o, e1, b, rfl, e2, e3⟩ := k'.ownAt e
  obtain rfl := e2 a rfl
  exact ⟨e1, e3⟩
 refine ⟨ts, vs'.ps, vs'.snd H _ _ H _ _ _ k0 (q a ns ds es R rfl h) ⟨fun σ' H' S' k' st zt1 => by obtain ⟨ns', e, q⟩ := zt1; exact fin .non ns' .non H' q (st0 st) (pn k' e).2 .non, fun σ' H' S' k' st q => q.elim, fun σ' H' S' k' st q => q.elim, fun v d σ' H' S' k' st rr ⟨ns', e, q⟩ => fin d ns' v H' q (st0 st) (pn k' e).2 (rr.mono (fun b n _ => ⟨fun z => ?_, rfl⟩) fun _ x => x)⟩⟩
 subst z
 exact n _ _ _ e (pn k' e).1
end
end VL
end
section
namespace VL
open PySem L2
mutual
def pd : D -> PyData
 | .int i => .int i
 | .bl b => .bool b
 | .non => .none
 | .str x => .str x
 | .ty _ => .none
 | .dic _ _ => .none
 | .exc _ => .none
 | .tup ds => .tuple (pds ds)
 | .lst ds => .list (pds ds)
def pds : List D -> List PyData
 | [] => []
 | d :: r => pd d :: pds r
end
mutual
def noTy : D -> Bool
 | .ty _ => false
 | .dic _ _ => false
 | .exc _ => false
 | .tup ds => iW ds
 | .lst ds => iW ds
 | _ => true
def iW : List D -> Bool
 | [] => true
 | d :: r => noTy d && iW r
end
section
variable {K : PySem.W.Frag} {X : Cx} {pins : List (Addr × Obj)} {σ : St} {H : Hp} {s : Shared} {N : AP} {F : FP}
mutual
theorem bE (I : Inv X pins σ H s) (hK : X.K = K) {v : V} {d : D} {u : Value} : Rep K N F H v d -> noTy d = true -> RelV v u -> ∃ as, Reads s.heap u (pd d) as := fun hh ee rr => by
 cases hh with
 | int i => have r := rr; obtain ⟨t, rfl⟩ := r; exact ⟨_, .int i t⟩
 | bl b => have r := rr; cases r; exact ⟨_, .bool b⟩
 | non => have r := rr; cases r; exact ⟨_, .none⟩
 | str x => have r := rr; obtain ⟨t, rfl⟩ := r; exact ⟨_, .str x t⟩
 | ty x => have e := ee; cases e
 | dic n f h _ _ rs => have e := ee; simp [noTy] at e
 | exc n h _ => have e := ee; simp [noTy] at e
 | tup n h rs =>
  have e := ee
  have r := rr
  cases r
  obtain ⟨its, rv, ⟨o, ho, hc, n, hd⟩, _⟩ := I.tuple (xs := _) (.inl h)
  obtain ⟨as, ra⟩ := cq I hK rs (by simpa [noTy] using e) rv
  exact ⟨as, .tuple ho hc hd (by simpa using ra)⟩
 | tupK h rs =>
  have e := ee
  have r := rr
  cases r
  obtain ⟨its, rv, ⟨o, ho, hc, n, hd⟩, _⟩ := I.tuple (xs := _) (by rw [hK]; exact fS h)
  obtain ⟨as, ra⟩ := cq I hK rs (by simpa [noTy] using e) rv
  exact ⟨as, .tuple ho hc hd (by simpa using ra)⟩
 | lst n f h rs =>
  have e := ee
  have r := rr
  cases r
  obtain ⟨its, rv, pl, _⟩ := I.list (xs := _) (.inl (.inl h))
  obtain ⟨o, ho, hc, n, hd⟩ := pl.isList
  obtain ⟨as, ra⟩ := cq I hK rs (by simpa [noTy] using e) rv
  exact ⟨_, .list ho hc hd (by simpa using ra)⟩
 | lstF n f h rs =>
  have e := ee
  have r := rr
  cases r
  obtain ⟨its, rv, pl, _⟩ := I.list (xs := _) (.inl (.inr ⟨_, h⟩))
  obtain ⟨o, ho, hc, n, hd⟩ := pl.isList
  obtain ⟨as, ra⟩ := cq I hK rs (by simpa [noTy] using e) rv
  exact ⟨_, .list ho hc hd (by simpa using ra)⟩
 | lstK f h rs =>
  have e := ee
  have r := rr
  cases r
  obtain ⟨its, rv, pl, _⟩ := I.list (xs := _) (by rw [hK]; exact iP h)
  obtain ⟨o, ho, hc, n, hd⟩ := pl.isList
  obtain ⟨as, ra⟩ := cq I hK rs (by simpa [noTy] using e) rv
  exact ⟨_, .list ho hc hd (by simpa using ra)⟩
theorem cq (I : Inv X pins σ H s) (hK : X.K = K) {vs : List V} {ds : List D} {us : List Value} : Reps K N F H vs ds -> iW ds = true -> Vals vs us -> ∃ as, ReadsAll s.heap us (pds ds) as := fun hh ee rr => by
 cases hh with
 | nil => have r := rr; cases r; exact ⟨_, .nil⟩
 | cons h t =>
  have e := ee
  have r := rr
  simp only [iW, Bool.and_eq_true] at e
  cases r with
  | cons r1 r2 =>
   obtain ⟨as, ra⟩ := bE I hK h e.1 r1
   obtain ⟨bs, rb⟩ := cq I hK t e.2 r2
   exact ⟨_, .cons ra rb⟩
end
end
structure Okd (d : D) : Prop where
 ty : noTy d = true
 lay : (pd d).canLay0 = true
 dep : (pd d).depth <= 40
def zx (K : PySem.W.Frag) (neg : Bool) : R2 := fun x y H Q => ∃ d1 d2, Rep K Any AnyF H x d1 /\ Rep K Any AnyF H y d2 /\ Okd d1 /\ Okd d2 /\ Q (.bl (if neg then !PyData.eqv (pd d1) (pd d2) else PyData.eqv (pd d1) (pd d2))) H
def iX (neg : Bool) : D -> D -> (D -> Prop) -> Prop := fun d1 d2 q => Okd d1 /\ Okd d2 /\ q (.bl (if neg then !PyData.eqv (pd d1) (pd d2) else PyData.eqv (pd d1) (pd d2)))
def zy (K : PySem.W.Frag) (neg : Bool) : R2 := fun x y H Q => ∃ d ds, Rep K Any AnyF H x d /\ (Rep K Any AnyF H y (.lst ds) \/ Rep K Any AnyF H y (.tup ds)) /\ Okd d /\ Okd (.lst ds) /\ Q (.bl (if neg then !(pds ds).any (fun y => PyData.eqv y (pd d)) else (pds ds).any (fun y => PyData.eqv y (pd d)))) H
def mj (neg : Bool) : D -> D -> (D -> Prop) -> Prop := fun d d2 q => ∃ ds, (d2 = .lst ds \/ d2 = .tup ds) /\ Okd d /\ Okd (.lst ds) /\ q (.bl (if neg then !(pds ds).any (fun y => PyData.eqv y (pd d)) else (pds ds).any (fun y => PyData.eqv y (pd d))))
section
variable {K : PySem.W.Frag} {X : Cx}
theorem rF (hK : X.K = K) (hu : X.A.units + 64 < cLine) : OpR X (compareOp .Eq) (zx K false) := by
 rintro pins s σ H x y v u Q I rx ry ⟨d1, d2, r1, r2, o1, o2, q⟩
 obtain ⟨as, ra⟩ := bE I hK r1 o1.ty rx
 obtain ⟨bs, rb⟩ := bE I hK r2 o2.ty ry
 exact SeqAt.compareEq_reads ra rb o1.lay o2.lay (by have := o1.dep; lia) ⟨.bl _, H, I, rfl, q⟩
theorem rG (hK : X.K = K) (hu : X.A.units + 64 < cLine) : OpR X (compareOp .NotEq) (zx K true) := by
 rintro pins s σ H x y v u Q I rx ry ⟨d1, d2, r1, r2, o1, o2, q⟩
 obtain ⟨as, ra⟩ := bE I hK r1 o1.ty rx
 obtain ⟨bs, rb⟩ := bE I hK r2 o2.ty ry
 exact SeqAt.compareNe_reads ra rb o1.lay o2.lay (by have := o1.dep; lia) ⟨.bl _, H, I, rfl, q⟩
theorem jW (o : Okd (.lst ds)) : PyData.canLayAll0 (pds ds) = true /\ PyData.depthAll (pds ds) <= 40 /\ noTy (.tup ds) = true := by
 refine ⟨by simpa [pd, PyData.canLay0] using o.lay, ?_, by simpa [noTy] using o.ty⟩
 have := o.dep
 simp only [pd, PyData.depth] at this
 lia
theorem zz (hK : X.K = K) (hu : X.A.units + 64 < cLine) : OpR X (compareOp .In) (zy K false) := by
 rintro pins s σ H x y v u Q I rx ry ⟨d, ds, r1, r2, o1, o2, q⟩
 obtain ⟨as, ra⟩ := bE I hK r1 o1.ty rx
 obtain ⟨h1, h2, h3⟩ := jW o2
 rcases r2 with r2 | r2
 ·obtain ⟨bs, rb⟩ := bE I hK r2 o2.ty ry
  exact SeqAt.in_list_reads (by simpa [pd] using rb) ra h1 o1.lay (by lia) ⟨.bl _, H, I, rfl, q⟩
 ·obtain ⟨bs, rb⟩ := bE I hK r2 h3 ry
  exact SeqAt.in_tuple_reads (by simpa [pd] using rb) ra h1 o1.lay (by lia) ⟨.bl _, H, I, rfl, q⟩
theorem qg (hK : X.K = K) (hu : X.A.units + 64 < cLine) : OpR X (compareOp .NotIn) (zy K true) := by
 rintro pins s σ H x y v u Q I rx ry ⟨d, ds, r1, r2, o1, o2, q⟩
 obtain ⟨as, ra⟩ := bE I hK r1 o1.ty rx
 obtain ⟨h1, h2, h3⟩ := jW o2
 rcases r2 with r2 | r2
 ·obtain ⟨bs, rb⟩ := bE I hK r2 o2.ty ry
  exact SeqAt.notIn_list_reads (by simpa [pd] using rb) ra h1 o1.lay (by lia) ⟨.bl _, H, I, rfl, q⟩
 ·obtain ⟨bs, rb⟩ := bE I hK r2 h3 ry
  exact SeqAt.notIn_tuple_reads (by simpa [pd] using rb) ra h1 o1.lay (by lia) ⟨.bl _, H, I, rfl, q⟩
theorem oJ {neg : Bool} : bT K (zx K neg) (iX neg) := fun x y H d1 d2 q C r1 r2 zt1 hc => by obtain ⟨o1, o2, h⟩ := zt1; exact ⟨d1, d2, r1, r2, o1, o2, hc _ _ h fun _ _ => .bl _⟩
theorem xE {neg : Bool} : bT K (zy K neg) (mj neg) := fun x y H d1 d2 q C r1 r2 zt1 hc => by obtain ⟨ds, e, o1, o2, h⟩ := zt1; exact ⟨d1, ds, r1, e.imp (fun e => by rw [<- e]; exact r2) (fun e => by rw [<- e]; exact r2), o1, o2, hc _ _ h fun _ _ => .bl _⟩
end
theorem du {α : Type} (f : α -> D) : ∀ l : List α, pds (l.map f) = l.map fun x => pd (f x)
 | [] => rfl
 | _ :: r => by simp [pds, du f r]
theorem gK {α : Type} {f : α -> D} (h : ∀ x, noTy (f x) = true) : ∀ l : List α, iW (l.map f) = true
 | [] => rfl
 | _ :: r => by simp [iW, h, gK h r]
theorem iY {α : Type} {f : α -> PyData} (h : ∀ x, (f x).canLay0 = true) : ∀ l : List α, PyData.canLayAll0 (l.map f) = true
 | [] => rfl
 | _ :: r => by simp [PyData.canLayAll0, h, iY h r]
theorem iZ {α : Type} {f : α -> PyData} {n : Nat} (h : ∀ x, (f x).depth <= n) : ∀ l : List α, PyData.depthAll (l.map f) <= n
 | [] => by simp [PyData.depthAll]
 | x :: r => by simp only [List.map_cons, PyData.depthAll]; exact Nat.max_le.mpr ⟨h x, iZ h r⟩
structure Enc {α : Type} (n : Nat) (f : α -> D) : Prop where
 ty : ∀ x, noTy (f x) = true
 lay : ∀ x, (pd (f x)).canLay0 = true
 dep : ∀ x, (pd (f x)).depth <= n
 eq : ∀ x y, PyData.eqv (pd (f x)) (pd (f y)) = true ↔ x = y
theorem fB {α : Type} {f : α -> PyData} (h : ∀ x y, PyData.eqv (f x) (f y) = true ↔ x = y) : ∀ l m : List α, PyData.eqvAll (l.map f) (m.map f) = true ↔ l = m
 | [], [] => by simp [PyData.eqvAll]
 | [], _ :: _ => by simp [PyData.eqvAll]
 | _ :: _, [] => by simp [PyData.eqvAll]
 | x :: r, y :: t => by simp [PyData.eqvAll, h, fB h r t]
theorem uU : Enc 0 D.int := ⟨fun _ => rfl, fun _ => rfl, fun _ => Nat.le_refl _, fun x y => by simp [pd, PyData.eqv]⟩
theorem Enc.tup {α : Type} {n : Nat} {f : α -> D} (e : Enc n f) : Enc (n + 1) (fun l : List α => D.tup (l.map f)) where
 ty := fun l => by simp only [noTy]; exact gK e.ty l
 lay := fun l => by simp only [pd, PyData.canLay0, du]; exact iY e.lay l
 dep := fun l => by simp only [pd, PyData.depth, du]; exact Nat.succ_le_succ (iZ e.dep l)
 eq := fun l m => by simp only [pd, PyData.eqv, du]; exact fB e.eq l m
theorem Enc.lst {α : Type} {n : Nat} {f : α -> D} (e : Enc n f) : Enc (n + 1) (fun l : List α => D.lst (l.map f)) where
 ty := fun l => by simp only [noTy]; exact gK e.ty l
 lay := fun l => by simp only [pd, PyData.canLay0, du]; exact iY e.lay l
 dep := fun l => by simp only [pd, PyData.depth, du]; exact Nat.succ_le_succ (iZ e.dep l)
 eq := fun l m => by simp only [pd, PyData.eqv, du]; exact fB e.eq l m
theorem d7 : Enc 1 eT := uU.tup
theorem nK : Enc 2 eL := d7.lst
theorem Enc.okd {α : Type} {n : Nat} {f : α -> D} (e : Enc n f) (hn : n <= 40) (x : α) : Okd (f x) := ⟨e.ty x, e.lay x, Nat.le_trans (e.dep x) hn⟩
theorem Enc.eqv {α : Type} [DecidableEq α] {n : Nat} {f : α -> D} (e : Enc n f) (x y : α) : PyData.eqv (pd (f x)) (pd (f y)) = decide (x = y) := by
 rw [Bool.eq_iff_iff, e.eq, decide_eq_true_iff]
theorem Enc.any {α : Type} [DecidableEq α] {n : Nat} {f : α -> D} (e : Enc n f) (x : α) (l : List α) : (pds (l.map f)).any (fun y => PyData.eqv y (pd (f x))) = decide (x ∈ l) := by
 rw [du, List.any_map]
 induction l with
 | nil => simp
 | cons a r ih =>
  rw [List.any_cons, ih]
  simp only [Function.comp, e.eqv]
  rw [Bool.eq_iff_iff]
  simp only [Bool.or_eq_true, decide_eq_true_eq, List.mem_cons]
  exact ⟨fun z => z.elim (fun z => .inl z.symm) .inr, fun z => z.elim (fun z => .inl z.symm) .inr⟩
theorem xF {α : Type} [DecidableEq α] {n : Nat} {f : α -> D} (e : Enc n f) {x y : α} (h : q (.bl (decide (x = y)))) (hn : n <= 40 := by decide) : iX false (f x) (f y) q := ⟨e.okd hn x, e.okd hn y, by simpa [e.eqv] using h⟩
theorem xG {α : Type} [DecidableEq α] {n : Nat} {f : α -> D} (e : Enc n f) {x y : α} (h : q (.bl (!decide (x = y)))) (hn : n <= 40 := by decide) : iX true (f x) (f y) q := ⟨e.okd hn x, e.okd hn y, by simpa [e.eqv] using h⟩
theorem xH {α : Type} [DecidableEq α] {n : Nat} {f : α -> D} (e : Enc n f) {x : α} {l : List α} (h : q (.bl (decide (x ∈ l)))) (hn : n + 1 <= 40 := by decide) : mj false (f x) (.lst (l.map f)) q := ⟨_, .inl rfl, e.okd (by lia) x, e.lst.okd hn l, by simpa only [e.any, Bool.false_eq_true, if_false] using h⟩
theorem ml {α : Type} [DecidableEq α] {n : Nat} {f : α -> D} (e : Enc n f) {x : α} {l : List α} (h : q (.bl (!decide (x ∈ l)))) (hn : n + 1 <= 40 := by decide) : mj true (f x) (.lst (l.map f)) q := ⟨_, .inl rfl, e.okd (by lia) x, e.lst.okd hn l, by simpa only [e.any, if_true] using h⟩
end VL
namespace VL
open PySem L2
section
variable {K : PySem.W.Frag} {X : Cx}
theorem ft (hK : X.K = K) : cE X (.builtin "len") (fun xs H Q => ∃ p ys, xs = [.ref p] /\ (SqL K H p ys \/ SqT K H p ys) /\ Q (.int ys.length) H) := by subst hK; exact kq
theorem i6 (hK : X.K = K) : cE X (.builtin "isinstance") (y9 K) := by subst hK; exact qW
theorem jX : bootBuiltins "sorted" = some (.builtin "sorted") := by decide +kernel
theorem gL : bootBuiltins "max" = some (.builtin "max") := by decide +kernel
theorem kF : bootBuiltins "min" = some (.builtin "min") := by decide +kernel
theorem fC : bootBuiltins "all" = some (.builtin "all") := by decide +kernel
theorem gM : bootBuiltins "str" = some (.type "str") := by decide +kernel
end
end VL
end
section
namespace VL
open PySem L2
section
variable {S S1 : List Sl} {Q : VR -> List Sl -> Prop} {QT : Bool -> List Sl -> Prop} {QN : List D -> List Sl -> Prop} {QA : List VR -> List Sl -> Prop} {W : bM} {va vb : VT} {vr : VTA} {vt vu : VTT} {vn : VTN} {s t : VTS} {g : VG}
def BN (u : VTS) (W : bM) : List Sl -> Prop := fun S' => ∃ S'', Wk S' S'' /\ u W S''
theorem BO {u : VTS} (h : t ⟨BN u W, W.rt, W.bk, W.ct⟩ S) : BH t u W S := h
theorem zA {u : VTS} (h : u W S) : BN u W S := ⟨S, Wk.refl S, h⟩
def BP (g : VG) (W : bM) : VR -> List Sl -> Prop := fun r S1 => ∃ d, r = .d d /\ g d S1 W.nx
theorem BQ (h : va S (BP g W)) : qd va g W S := h
theorem zB (h : g d S W.nx) : BP g W (.d d) S := ⟨d, rfl, h⟩
theorem DZ {i : Nat} {q : List Sl -> Prop} (e : Nat.ble (i + 1) S.length = true) (h : q (S.set i (.val d))) : vgN i d S q := ⟨Nat.le_of_ble_eq_true e, h⟩
theorem D0 {n : Nat} {u : List D -> List Sl -> (List Sl -> Prop) -> Prop} {q : List Sl -> Prop} (e : ds.length = n) (h : u ds S q) : vgT n u (.tup ds) S q := ⟨ds, rfl, e, h⟩
theorem zC {q : List Sl -> Prop} (h : q S) : xB [] S q := ⟨rfl, h⟩
theorem uV {r : List D} {u : List D -> List Sl -> (List Sl -> Prop) -> Prop} {q : List Sl -> Prop} (h : g d S fun S1 => u r S1 q) : rp g u (d :: r) S q := ⟨d, r, rfl, h⟩
def xJ (i : Nat) (W : bM) : List D -> List Sl -> Prop := fun ds S1 => i < S1.length /\ W.nx (S1.set i (.own ds))
theorem zD {i : Nat} (h : vn S (xJ i W)) : rq i vn W S := h
theorem uW {i : Nat} (e : Nat.ble (i + 1) S.length = true) (h : W.nx (S.set i (.own ds))) : xJ i W ds S := ⟨Nat.le_of_ble_eq_true e, h⟩
def xK (i : Nat) (W : bM) : List D -> List Sl -> Prop := fun ds S1 => ∃ ns : List Int, ds = ns.map .int /\ i < S1.length /\ W.nx (S1.set i (.pen none ns))
theorem zE {i : Nat} (h : vn S (xK i W)) : xC i vn W S := h
theorem oK {i : Nat} (e : Nat.ble (i + 1) S.length = true) (h : W.nx (S.set i (.pen none ns))) : xK i W (ns.map .int) S := ⟨ns, rfl, Nat.le_of_ble_eq_true e, h⟩
def BR (W : bM) : VR -> List Sl -> Prop := fun r S1 => ∃ d, retD S1 r = some d /\ W.rt d S1
theorem BS (h : va S (BR W)) : zo va W S := h
theorem rH (e : retD S r = some d) (h : W.rt d S) : BR W r S := ⟨d, e, h⟩
def kIf (t u : VTS) (W : bM) : Bool -> List Sl -> Prop := fun b S1 => if b = true then t W S1 else u W S1
theorem BU {u : VTS} (h : vt S (kIf t u W)) : BI vt t u W S := h
theorem BV {u : VTS} {b : Bool} (h1 : b = true -> t W S) (h2 : b = false -> u W S) : kIf t u W b S := by
 cases b with
 | true => show (if true = true then _ else _); rw [if_pos rfl]; exact h1 rfl
 | false => show (if false = true then _ else _); rw [if_neg Bool.false_ne_true]; exact h2 rfl
theorem rJ {u : VTS} (h : t W S) : kIf t u W true S := by show (if true = true then _ else _); rw [if_pos rfl]; exact h
theorem rK {u : VTS} (h : u W S) : kIf t u W false S := by show (if false = true then _ else _); rw [if_neg Bool.false_ne_true]; exact h
theorem eN {u : VTS} {p : Prop} [Decidable p] (h1 : p -> t W S) (h2 : ¬p -> u W S) : kIf t u W (decide p) S := BV (fun e => h1 (of_decide_eq_true e)) (fun e => h2 (of_decide_eq_false e))
def xM (W : bM) : VR -> List Sl -> Prop := fun _ S1 => W.nx S1
theorem zF (h : va S (xM W)) : xy va W S := h
theorem uX (h : W.nx S) : xM W r S := h
theorem zG (h : W.nx S) : xw W S := h
theorem j_c (h : Q (.d d) S) : vC d S Q := h
theorem BW {i : Nat} (e : rdO i S[i]? = some r) (h : Q r S) : jH i S Q := ⟨r, e, h⟩
def rL (Q : VR -> List Sl -> Prop) : VR -> List Sl -> Prop := fun r S' => (match r with | .d d => flat d = true | .own _ => True) /\ Q r S'
theorem zH (h : va S (rL Q)) : xr va S Q := h
theorem uY (e : flat d = true) (h : Q (.d d) S) : rL Q (.d d) S := ⟨e, h⟩
theorem rM {i : Nat} (h : Q (.own i) S) : rL Q (.own i) S := ⟨trivial, h⟩
def k2a (w : D -> D -> (D -> Prop) -> Prop) (vb : VT) (Q : VR -> List Sl -> Prop) : VR -> List Sl -> Prop := fun ra S1 => vb S1 fun rb S2 => ∃ d1 d2, get S2 ra = some d1 /\ get S2 rb = some d2 /\ w d1 d2 fun d => Q (.d d) S2
def k2b (w : D -> D -> (D -> Prop) -> Prop) (Q : VR -> List Sl -> Prop) (ra : VR) : VR -> List Sl -> Prop := fun rb S2 => ∃ d1 d2, get S2 ra = some d1 /\ get S2 rb = some d2 /\ w d1 d2 fun d => Q (.d d) S2
theorem j_2 {w : D -> D -> (D -> Prop) -> Prop} (h : va S (k2a w vb Q)) : v2 w va vb S Q := h
theorem D1 {w : D -> D -> (D -> Prop) -> Prop} {ra : VR} (h : vb S (k2b w Q ra)) : k2a w vb Q ra S := h
theorem D2 {w : D -> D -> (D -> Prop) -> Prop} {ra rb : VR} {d1 d2 : D} (e1 : get S ra = some d1) (e2 : get S rb = some d2) (h : w d1 d2 fun d => Q (.d d) S) : k2b w Q ra rb S := ⟨d1, d2, e1, e2, h⟩
theorem BX {f : Int -> Int -> L2.V} {i j : Int} (h : q (ofV (f i j))) : wI0 f (.int i) (.int j) q := ⟨i, j, rfl, rfl, h⟩
theorem BY {C : Int -> Int -> Prop} {f : Int -> Int -> L2.V} {i j : Int} (c : C i j) (h : q (ofV (f i j))) : wI C f (.int i) (.int j) q := ⟨i, j, rfl, rfl, c, h⟩
theorem BZ {neg : Bool} (h : q (.bl (if neg then !rh d else rh d))) : zf neg d .non q := ⟨rfl, h⟩
def B0 (vb : VT) (Q : VR -> List Sl -> Prop) : VR -> List Sl -> Prop := fun ra S1 => vb S1 fun rb S2 => ∃ ds i d, (get S2 ra = some (.lst ds) \/ get S2 ra = some (.tup ds)) /\ get S2 rb = some (.int i) /\ atI ds i = some d /\ Q (.d d) S2
def zI (Q : VR -> List Sl -> Prop) (ra : VR) : VR -> List Sl -> Prop := fun rb S2 => ∃ ds i d, (get S2 ra = some (.lst ds) \/ get S2 ra = some (.tup ds)) /\ get S2 rb = some (.int i) /\ atI ds i = some d /\ Q (.d d) S2
theorem D3 (h : va S (B0 vb Q)) : vIx va vb S Q := h
theorem B1 {ra : VR} (h : vb S (zI Q ra)) : B0 vb Q ra S := h
theorem fY {ra rb : VR} {i : Int} (e1 : get S ra = some (.lst ds)) (e2 : get S rb = some (.int i)) (e3 : atI ds i = some d) (h : Q (.d d) S) : zI Q ra rb S := ⟨ds, i, d, .inl e1, e2, e3, h⟩
theorem B2 {ra rb : VR} {i : Int} (e1 : get S ra = some (.tup ds)) (e2 : get S rb = some (.int i)) (e3 : atI ds i = some d) (h : Q (.d d) S) : zI Q ra rb S := ⟨ds, i, d, .inr e1, e2, e3, h⟩
def xN (QT : Bool -> List Sl -> Prop) : VR -> List Sl -> Prop := fun r S' => ∃ k, r = .d (.bl k) /\ QT k S'
theorem zJ (h : va S (xN QT)) : iQ va S QT := h
theorem uZ {k : Bool} (h : QT k S) : xN QT (.d (.bl k)) S := ⟨k, rfl, h⟩
def qh (u : VTT) (QT : Bool -> List Sl -> Prop) : Bool -> List Sl -> Prop := fun c S1 => if c = true then u S1 QT else QT false S1
def kOr (u : VTT) (QT : Bool -> List Sl -> Prop) : Bool -> List Sl -> Prop := fun c S1 => if c = true then QT true S1 else u S1 QT
def B3 (QT : Bool -> List Sl -> Prop) : Bool -> List Sl -> Prop := fun c S1 => QT (!c) S1
theorem B4 (h : vt S (qh vu QT)) : By vt vu S QT := h
theorem D4 (h : vt S (kOr vu QT)) : vOr vt vu S QT := h
theorem B5 (h : vt S (B3 QT)) : BA vt S QT := h
theorem zK {b : Bool} (h : QT (!b) S) : B3 QT b S := h
theorem rN {b : Bool} (h1 : b = true -> vu S QT) (h2 : b = false -> QT false S) : qh vu QT b S := by
 cases b with
 | true => show (if true = true then _ else _); rw [if_pos rfl]; exact h1 rfl
 | false => show (if false = true then _ else _); rw [if_neg Bool.false_ne_true]; exact h2 rfl
theorem xO {b : Bool} (h1 : b = true -> QT true S) (h2 : b = false -> vu S QT) : kOr vu QT b S := by
 cases b with
 | true => show (if true = true then _ else _); rw [if_pos rfl]; exact h1 rfl
 | false => show (if false = true then _ else _); rw [if_neg Bool.false_ne_true]; exact h2 rfl
theorem rO (h : vu S QT) : kOr vu QT false S := xO (fun e => nomatch e) fun _ => h
theorem rP (h : QT true S) : kOr vu QT true S := xO (fun _ => h) fun e => nomatch e
theorem oM (h : vu S QT) : qh vu QT true S := rN (fun _ => h) fun e => nomatch e
theorem oN (h : QT false S) : qh vu QT false S := rN (fun e => nomatch e) fun _ => h
def mn (vb : VT) (Q : VR -> List Sl -> Prop) : VR -> List Sl -> Prop := fun r S1 => ∃ c, r = .d (.bl c) /\ if c = true then vb S1 Q else Q (.d (.bl false)) S1
def xP (Q : VR -> List Sl -> Prop) : VR -> List Sl -> Prop := fun r S1 => ∃ c, r = .d (.bl c) /\ Q (.d (.bl (!c))) S1
theorem zL (h : va S (mn vb Q)) : xt va vb S Q := h
theorem zM (h : va S (xP Q)) : xu va S Q := h
theorem u0 {c : Bool} (h : Q (.d (.bl (!c))) S) : xP Q (.d (.bl c)) S := ⟨c, rfl, h⟩
theorem oO {c : Bool} (h1 : c = true -> vb S Q) (h2 : c = false -> Q (.d (.bl false)) S) : mn vb Q (.d (.bl c)) S := ⟨c, rfl, by
 cases c with
 | true => rw [if_pos rfl]; exact h1 rfl
 | false => rw [if_neg Bool.false_ne_true]; exact h2 rfl⟩
def zN (va vb : VT) (Q : VR -> List Sl -> Prop) : Bool -> List Sl -> Prop := fun c S1 => if c = true then va S1 Q else vb S1 Q
theorem rQ {b : Bool} (h1 : b = true -> va S Q) (h2 : b = false -> vb S Q) : zN va vb Q b S := by
 cases b with
 | true => show (if true = true then _ else _); rw [if_pos rfl]; exact h1 rfl
 | false => show (if false = true then _ else _); rw [if_neg Bool.false_ne_true]; exact h2 rfl
theorem B6 (h : QA [] S) : uP S QA := h
def rR (vr : VTA) (QA : List VR -> List Sl -> Prop) : VR -> List Sl -> Prop := fun r S1 => vr S1 fun rs S2 => QA (r :: rs) S2
theorem zO (h : va S (rR vr QA)) : lW va vr S QA := h
theorem u5 (h : vr S fun rs S2 => QA (r :: rs) S2) : rR vr QA r S := h
def B7 (Q : VR -> List Sl -> Prop) : List VR -> List Sl -> Prop := fun rs S1 => ∃ ds, allD rs = some ds /\ ds.length <= 1000 /\ Q (.d (.tup ds)) S1
theorem B8 (h : vr S (B7 Q)) : zh vr S Q := h
theorem zP (e : allD rs = some ds) (e2 : Nat.ble ds.length 1000 = true) (h : Q (.d (.tup ds)) S) : B7 Q rs S := ⟨ds, e, Nat.le_of_ble_eq_true e2, h⟩
def B9 (QN : List D -> List Sl -> Prop) : List VR -> List Sl -> Prop := fun rs S1 => ∃ ds, allD rs = some ds /\ ds.length <= 1000 /\ QN ds S1
theorem Ca (h : vr S (B9 QN)) : BB vr S QN := h
theorem zQ (e : allD rs = some ds) (e2 : Nat.ble ds.length 1000 = true) (h : QN ds S) : B9 QN rs S := ⟨ds, e, Nat.le_of_ble_eq_true e2, h⟩
def Cb (Q : VR -> List Sl -> Prop) : List D -> List Sl -> Prop := fun ds S1 => Q (.d (.lst ds)) S1
theorem Cd (h : vn S (Cb Q)) : zi vn S Q := h
theorem zR (h : Q (.d (.lst ds)) S) : Cb Q ds S := h
def kCB (w : List D -> (D -> Prop) -> Prop) (Q : VR -> List Sl -> Prop) : List VR -> List Sl -> Prop := fun rs S1 => ∃ ds, gets S1 rs = some ds /\ w ds fun d => Q (.d d) S1
theorem D5 {w : List D -> (D -> Prop) -> Prop} (h : vr S (kCB w Q)) : vCB w vr S Q := h
theorem Ce {w : List D -> (D -> Prop) -> Prop} (e : gets S rs = some ds) (h : w ds fun d => Q (.d d) S) : kCB w Q rs S := ⟨ds, e, h⟩
theorem zS {es : List D} (h : q (.int es.length)) : zj [.lst es] q := ⟨es, .inl rfl, h⟩
theorem zT {es : List D} (h : q (.int es.length)) : zj [.tup es] q := ⟨es, .inr rfl, h⟩
theorem Cf {i : Int} (h : q (.int (if i < 0 then -i else i))) : BD [.int i] q := ⟨i, rfl, h⟩
theorem D6 (h : vr S (kCB p Q)) : vFn p vr S Q := h
def Cg (p : List D -> (D -> Prop) -> Prop) (QN : List D -> List Sl -> Prop) : List VR -> List Sl -> Prop := fun rs S1 => ∃ ds, gets S1 rs = some ds /\ p ds fun d => ∃ es, d = .lst es /\ flats es = true /\ QN es S1
theorem Ci (h : vr S (Cg p QN)) : BF p vr S QN := h
theorem zU (e : gets S rs = some ds) (h : p ds fun d => ∃ es, d = .lst es /\ flats es = true /\ QN es S) : Cg p QN rs S := ⟨ds, e, h⟩
def Cj (j : Nat) (p : List Int -> List D -> (D -> List Int -> Prop) -> Prop) (Q : VR -> List Sl -> Prop) : List VR -> List Sl -> Prop := fun rs S1 => ∃ i rs' ad ns ds, pick rs j = some (i, rs') /\ S1[i]? = some (.pen ad ns) /\ allD rs' = some ds /\ p ns ds fun d ns' => Q (.d d) (S1.set i (.pen ad ns'))
theorem Ck {j : Nat} {p : List Int -> List D -> (D -> List Int -> Prop) -> Prop} (h : vr S (Cj j p Q)) : BK j p vr S Q := h
theorem zV {j : Nat} {p : List Int -> List D -> (D -> List Int -> Prop) -> Prop} {rs rs' : List VR} {i : Nat} {ad : Option Addr} (e1 : pick rs j = some (i, rs')) (e2 : S[i]? = some (.pen ad ns)) (e3 : allD rs' = some ds) (h : p ns ds fun d ns' => Q (.d d) (S.set i (.pen ad ns'))) : Cj j p Q rs S := ⟨i, rs', ad, ns, ds, e1, e2, e3, h⟩
def rS (QN : List D -> List Sl -> Prop) : List VR -> List Sl -> Prop := fun rs S1 => ∃ r mss, rs = [r] /\ get S1 r = some (eL mss) /\ (∀ ms ∈ mss, ms ≠ []) /\ mss.length < 64 /\ QN ((srt mss).map eT) S1
theorem u6 (h : vr S (rS QN)) : rn vr S QN := h
theorem mq (e : get S r = some (eL mss)) (h1 : ∀ ms ∈ mss, ms ≠ []) (h2 : mss.length < 64) (h : QN ((srt mss).map eT) S) : rS QN [r] S := ⟨r, mss, rfl, e, h1, h2, h⟩
def Cm (i : Nat) (Q : VR -> List Sl -> Prop) : VR -> List Sl -> Prop := fun r S1 => ∃ d ds, r = .d d /\ S1[i]? = some (.own ds) /\ ds.length <= 1000000 /\ Q (.d .non) (S1.set i (.own (ds ++ [d])))
theorem Co {i : Nat} (e : S[i]? = some (.own ds)) (h : va S (Cm i Q)) : zt i va S Q := ⟨⟨ds, e⟩, h⟩
theorem rT {i : Nat} (e : S[i]? = some (.own ds)) (e2 : ds.length <= 1000000) (h : Q (.d .non) (S.set i (.own (ds ++ [d])))) : Cm i Q (.d d) S := ⟨d, ds, rfl, e, e2, h⟩
def oP (i : Nat) (vi : VT) (W : bM) : VR -> List Sl -> Prop := fun r S1 => (∃ s, S1[i]? = some s /\ s.mut = true) /\ vi S1 fun ri S2 => ∃ j, get S2 ri = some (.int j) /\
  ((∃ ad ns k n, S2[i]? = some (.pen ad ns) /\ ixN ns.length j = some k /\ r = .d (.int n) /\ W.nx (S2.set i (.pen ad (ns.set k n)))) \/
   (∃ ds k d, S2[i]? = some (.own ds) /\ ixN ds.length j = some k /\ r = .d d /\ W.nx (S2.set i (.own (ds.set k d)))))
def oQ (i : Nat) (W : bM) (r : VR) : VR -> List Sl -> Prop := fun ri S2 => ∃ j, get S2 ri = some (.int j) /\
  ((∃ ad ns k n, S2[i]? = some (.pen ad ns) /\ ixN ns.length j = some k /\ r = .d (.int n) /\ W.nx (S2.set i (.pen ad (ns.set k n)))) \/
   (∃ ds k d, S2[i]? = some (.own ds) /\ ixN ds.length j = some k /\ r = .d d /\ W.nx (S2.set i (.own (ds.set k d)))))
theorem u7 {i : Nat} (h : va S (oP i vb W)) : rB i va vb W S := h
theorem rU {i : Nat} {s : Sl} (e : S[i]? = some s) (m : s.mut = true) (h : vb S (oQ i W r)) : oP i vb W r S := ⟨⟨s, e, m⟩, h⟩
theorem qj {i : Nat} {ri : VR} {j n : Int} {ad : Option Addr} {k : Nat} (e1 : get S ri = some (.int j)) (e2 : S[i]? = some (.pen ad ns)) (e3 : ixN ns.length j = some k) (h : W.nx (S.set i (.pen ad (ns.set k n)))) : oQ i W (.d (.int n)) ri S := ⟨j, e1, .inl ⟨ad, ns, k, n, e2, e3, rfl, h⟩⟩
def kFor (g : VG) (b : VTS) (W : bM) : List D -> List Sl -> Prop := fun ds S1 => runFor g b W ds S1 \/ ∃ Iv : Nat -> List Sl -> Prop, Iv 0 S1 /\ (∀ i d S2, ds[i]? = some d -> Iv i S2 -> g d S2 fun S3 => b { W with nx := Iv (i + 1), ct := Iv (i + 1), bk := W.nx } S3) /\ ∀ S2, Iv ds.length S2 -> W.nx S2
theorem Cp {b : VTS} (h : vn S (kFor g b W)) : BM vn g b W S := h
theorem rV {b : VTS} (Iv : Nat -> List Sl -> Prop) (h0 : Iv 0 S) (h1 : ∀ i d S2, ds[i]? = some d -> Iv i S2 -> g d S2 fun S3 => b ⟨Iv (i + 1), W.rt, W.nx, Iv (i + 1)⟩ S3) (h2 : ∀ S2, Iv ds.length S2 -> W.nx S2) : kFor g b W ds S := .inr ⟨Iv, h0, h1, h2⟩
theorem u9 {b : VTS} (h : runFor g b W ds S) : kFor g b W ds S := .inl h
theorem zW {b : VTS} (h : W.nx S) : runFor g b W [] S := h
theorem zX {b : VTS} {r : List D} (h : g d S fun S3 => b ⟨runFor g b W r, W.rt, W.nx, runFor g b W r⟩ S3) : runFor g b W (d :: r) S := h
theorem oR {b : VTS} {lo : Int} {n : Nat} (Iv : Nat -> List Sl -> Prop) (h0 : Iv 0 S) (h1 : ∀ i S2, i < n -> Iv i S2 -> g (.int (lo + (i : Int))) S2 fun S3 => b ⟨Iv (i + 1), W.rt, W.nx, Iv (i + 1)⟩ S3) (h2 : ∀ S2, Iv n S2 -> W.nx S2) : kFor g b W (rg lo n) S :=
 .inr ⟨Iv, h0, fun i d S2 e p => by
  have hi : i < n := by have := (List.getElem?_eq_some_iff.mp e).1; rwa [nJ] at this
  rw [xD hi] at e
  cases e
  exact h1 i S2 hi p, fun S2 p => h2 S2 (by rwa [nJ] at p)⟩
def Cq (QN : List D -> List Sl -> Prop) : VR -> List Sl -> Prop := fun r S1 => ∃ ds, r = .d (.lst ds) /\ QN ds S1
theorem Cr (h : va S (Cq QN)) : BL va S QN := h
theorem zY (h : QN ds S) : Cq QN (.d (.lst ds)) S := ⟨ds, rfl, h⟩
def Cs (QN : List D -> List Sl -> Prop) : List VR -> List Sl -> Prop := fun rs S1 => ∃ j : Int, rs = [.d (.int j)] /\ -(2 ^ 62) <= j /\ j < 2 ^ 62 /\ QN (rg 0 j.toNat) S1
theorem Ct (h : vr S (Cs QN)) : zw vr S QN := h
theorem zZ {j : Int} (h1 : 0 <= j /\ j < 1000000) (h : QN (rg 0 j.toNat) S) : Cs QN [.d (.int j)] S := ⟨j, rfl, by lia, by lia, h⟩
def oS (n : Nat) (ix : List Nat) (g : VG) (vt : VTT) (ve : VT) (QN : List D -> List Sl -> Prop) : List D -> List Sl -> Prop := fun ds S1 => ds.length <= 1000000 /\ ∃ Iv : Nat -> List D -> List Sl -> Prop, Iv 0 [] S1 /\
 (∀ i d ys S2, ds[i]? = some d -> Iv i ys S2 -> g d (bp n ix S2) fun S3 => vt S3 fun b S4 => if b = true then ve S4 fun r S5 => ∃ x, r = .d x /\ Iv (i + 1) (ys ++ [x]) (backS n ix S2 S5) else Iv (i + 1) ys (backS n ix S2 S4)) /\
 ∀ ys S2, Iv ds.length ys S2 -> QN ys S2
theorem Aa {n : Nat} {ve : VT} (h : vn S (oS n ix g vt ve QN)) : oH vn n ix g vt ve S QN := h
def fD (ve : VT) (A : D -> List Sl -> Prop) (B : List Sl -> Prop) : Bool -> List Sl -> Prop := fun b S4 => if b = true then ve S4 fun r S5 => ∃ x, r = .d x /\ A x S5 else B S4
def nL (A : D -> List Sl -> Prop) : VR -> List Sl -> Prop := fun r S5 => ∃ x, r = .d x /\ A x S5
theorem vf {n : Nat} {ve : VT} (Iv : Nat -> List D -> List Sl -> Prop) (hl : ds.length <= 1000000) (h0 : Iv 0 [] S)
  (h1 : ∀ i d ys S2, ds[i]? = some d -> Iv i ys S2 -> g d (bp n ix S2) fun S3 => vt S3 (fD ve (fun x S5 => Iv (i + 1) (ys ++ [x]) (backS n ix S2 S5)) (fun S4 => Iv (i + 1) ys (backS n ix S2 S4)))) (h2 : ∀ ys S2, Iv ds.length ys S2 -> QN ys S2) : oS n ix g vt ve QN ds S := ⟨hl, Iv, h0, h1, h2⟩
theorem Ab (h : QT true S) : rE S QT := h
theorem i7 {ve : VT} {A : D -> List Sl -> Prop} {B : List Sl -> Prop} {b : Bool} (h1 : b = true -> ve S (nL A)) (h2 : b = false -> B S) : fD ve A B b S := by
 cases b with
 | true => show (if true = true then _ else _); rw [if_pos rfl]; exact h1 rfl
 | false => show (if false = true then _ else _); rw [if_neg Bool.false_ne_true]; exact h2 rfl
theorem qk {ve : VT} {A : D -> List Sl -> Prop} {B : List Sl -> Prop} (h : ve S (nL A)) : fD ve A B true S := i7 (fun _ => h) fun e => nomatch e
theorem rW {A : D -> List Sl -> Prop} {x : D} (h : A x S) : nL A (.d x) S := ⟨x, rfl, h⟩
theorem Cu {i j : Int} (h : q (.bl (decide (i = j)))) : wEq (.int i) (.int j) q := ⟨.int i, .int j, rfl, rfl, rfl, by simpa using h⟩
theorem Cv {i j : Int} (h : q (.bl (!decide (i = j)))) : wNe (.int i) (.int j) q := ⟨.int i, .int j, rfl, rfl, rfl, by simpa using h⟩
theorem Cw {c : String} {b : Bool} (hn : ∀ n, d ≠ .ty n) (e : p9 (tyD d) c = some b) (h : q (.bl b)) (hE : isE d = false := by with_unfolding_all rfl) : BE [d, .ty c] q := ⟨d, c, b, rfl, hn, hE, e, h⟩
end
end VL
end
section
namespace VL
open PySem L2
section
variable {K : PySem.W.Frag} {X : Cx} {m : Bool} {e a b c o : Expr} {ta tb tc te : TE} {va vb vc : VT} {pos : Pos}
def Cy : D -> D -> (D -> Prop) -> Prop := fun d1 d2 q => ∃ ns ms, d1 = eT ns /\ d2 = eT ms /\ q (.bl (HT.lexLt ns ms))
theorem Cz (hK : X.K = K) (hu : X.A.units + 64 < cLine) : OpR X (compareOp .Lt) (yT K) := by subst hK; exact yU (by lia)
theorem CA : bT K (yT K) Cy := by
 rintro x y H d1 d2 q C r1 r2 ⟨ns, ms, rfl, rfl, h⟩ hc
 obtain ⟨p, vs, rfl, h1, rr⟩ := Rep.sqT r1
 obtain ⟨p', vs', rfl, h2, rr'⟩ := Rep.sqT r2
 cases Reps.toInts rr
 cases Reps.toInts rr'
 exact ⟨p, p', ns, ms, rfl, rfl, h1, h2, hc _ _ h fun _ _ => .bl _⟩
theorem CC {ns ms : List Int} (h : q (.bl (HT.lexLt ns ms))) : Cy (eT ns) (eT ms) q := ⟨ns, ms, rfl, rfl, h⟩
def kG (w w' : D -> D -> (D -> Prop) -> Prop) (va vb vc : VT) : VT := fun S Q => va S fun ra S1 => vb S1 fun rb S2 => ∃ d1 d2, get S2 ra = some d1 /\ get S2 rb = some d2 /\ w d1 d2 fun d => ∃ k, d = .bl k /\
 if k = true then vc S2 fun rc S3 => ∃ d2' d3, get S3 rb = some d2' /\ get S3 rc = some d3 /\ w' d2' d3 fun d => Q (.d d) S3 else Q (.d (.bl false)) S2
theorem rX {r r' : R2} {w w' : D -> D -> (D -> Prop) -> Prop} (L : bT K r w) (L' : bT K r' w') (ha : SndE K false ta va) (hb : SndE K false tb vb) (hc : SndE K false tc vc) : SndE K m (m6 r r' ta tb tc) (kG w w' va vb vc) := by
 intro H0 Z σ H S Q C k t hq
 refine ha H0 Z σ H S _ _ k t fun x H1 ra S1 k1 st1 r1 t1 => ?_
 refine hb H0 Z σ H1 S1 _ _ k1 t1 fun y H2 rb S2 k2 st2 r2 zr1 => ?_
 obtain ⟨d1, d2, e1, e2, t2⟩ := zr1
 refine L x y H2 d1 d2 _ _ ((r1.step st2).get k2 e1) (r2.get k2 e2) t2 fun z dz zr1 rz => ?_
 obtain ⟨b, eb, q⟩ := zr1
 subst eb
 cases rz Any AnyF
 refine ⟨b, rfl, ?_⟩
 cases b with
 | false => rw [if_neg Bool.false_ne_true] at q ⊢; exact hq _ H2 (.d (.bl false)) S2 k2 (st1.trans st2) (Rep.bl false) q
 | true =>
  rw [if_pos rfl] at q ⊢
  refine hc H0 Z σ H2 S2 _ _ k2 q fun u H3 rc S3 k3 st3 r3 zr1 => ?_
  obtain ⟨d2', d3, g1, g2, t3⟩ := zr1
  exact L' y u H3 d2' d3 _ _ ((r2.step st3).get k3 g1) (r3.get k3 g2) t3 fun z dz q rz => hq z H3 (.d dz) S3 k3 ((st1.trans st2).trans st3) (rz _ _) q
theorem mr {op op' : CmpOp} {r r' : R2} {w w' : D -> D -> (D -> Prop) -> Prop} (ho : OpR X (compareOp op) r) (L : bT K r w) (ho' : OpR X (compareOp op') r') (L' : bT K r' w') (ha : VE K X false a ta va) (hb : VE K X false b tb vb) (hc : VE K X false c tc vc)
  (hm : lastMarks [op, op'] [b, c] = false := by with_unfolding_all rfl) : VTe K X (.Compare a [op, op'] [b, c] pos) (lI (m6 r r' ta tb tc)) (iQ (kG w w' va vb vc)) := ⟨qL ho ho' ha.pe hb.pe hc.pe hm, oE (m := false) (rX L L' ha.snd hb.snd hc.snd)⟩
end
section
variable {S : List Sl} {Q : VR -> List Sl -> Prop} {QT : Bool -> List Sl -> Prop} {W : bM} {va vb : VT} {vt vu : VTT} {t u : VTS} {b : Bool}
theorem Ac (e : b = true) (h : vu S QT) : qh vu QT b S := by subst e; exact oM h
theorem Ad (e : b = false) (h : QT false S) : qh vu QT b S := by subst e; exact oN h
theorem CD (e : b = true) (h : QT true S) : kOr vu QT b S := by subst e; exact rP h
theorem CF (e : b = false) (h : vu S QT) : kOr vu QT b S := by subst e; exact rO h
theorem CG (e : b = true) (h : t W S) : kIf t u W b S := by subst e; exact rJ h
theorem CH (e : b = false) (h : u W S) : kIf t u W b S := by subst e; exact rK h
theorem D7 (e : b = true) (h : va S Q) : zN va vb Q b S := by subst e; exact rQ (fun _ => h) fun e => nomatch e
theorem D8 (e : b = false) (h : vb S Q) : zN va vb Q b S := by subst e; exact rQ (fun e => nomatch e) fun _ => h
theorem xQ {c : Bool} (e : c = true) (h : vb S Q) : mn vb Q (.d (.bl c)) S := by subst e; exact oO (fun _ => h) fun e => nomatch e
theorem xR {c : Bool} (e : c = false) (h : Q (.d (.bl false)) S) : mn vb Q (.d (.bl c)) S := by subst e; exact oO (fun e => nomatch e) fun _ => h
end
section
variable {α : Type} {S : List Sl} {QN : List D -> List Sl -> Prop} {g : VG} {vt : VTT} {ve : VT} {n : Nat} {ix : List Nat}
theorem cA {β : Type} {xs : List α} {en : α -> β} {i : Nat} {d : β} (h : (xs.map en)[i]? = some d) : ∃ x, xs[i]? = some x /\ d = en x /\ x ∈ xs /\ xs.take (i + 1) = xs.take i ++ [x] := by
 rw [List.getElem?_map] at h
 obtain ⟨x, h1, h2⟩ := Option.map_eq_some_iff.mp h
 refine ⟨x, h1, h2.symm, List.mem_of_getElem? h1, ?_⟩
 rw [List.take_add_one, h1]
 rfl
theorem eO {xs : List α} {en f : α -> D} {p : α -> Bool} (hl : xs.length <= 1000000)
  (h : ∀ x ∈ xs, ∀ (A : D -> List Sl -> Prop) (B : List Sl -> Prop), (∀ S5, backS n ix S S5 = S -> p x = true -> A (f x) S5) -> (∀ S5, backS n ix S S5 = S -> p x = false -> B S5) -> g (en x) (bp n ix S) fun S3 => vt S3 (fD ve A B))
  (h2 : QN ((xs.filter p).map f) S) : oS n ix g vt ve QN (xs.map en) S := by
 refine vf (fun i ys S' => S' = S /\ ys = ((xs.take i).filter p).map f) (by simpa using hl) ⟨rfl, by simp⟩ ?_ ?_
 ·rintro i d ys S2 e ⟨rfl, rfl⟩
  obtain ⟨x, h1, rfl, hm, ht⟩ := cA e
  refine h x hm _ _ (fun S5 e5 hp => ⟨e5, ?_⟩) (fun S5 e5 hp => ⟨e5, ?_⟩)
  ·rw [ht, List.filter_append, List.map_append]
   simp [hp]
  ·rw [ht, List.filter_append, List.map_append]
   simp [hp]
 ·rintro ys S2 ⟨rfl, rfl⟩
  rw [List.length_map, List.take_length]
  exact h2
theorem comp_map {xs : List α} {en f : α -> D} (hl : xs.length <= 1000000)
  (h : ∀ x ∈ xs, ∀ (A : D -> List Sl -> Prop) (B : List Sl -> Prop), (∀ S5, backS n ix S S5 = S -> A (f x) S5) -> g (en x) (bp n ix S) fun S3 => vt S3 (fD ve A B))
  (h2 : QN (xs.map f) S) : oS n ix g vt ve QN (xs.map en) S := by
 refine eO (p := fun _ => true) hl (fun x hx A B hA _ => h x hx A B fun S5 e => hA S5 e rfl) ?_
 rwa [List.filter_eq_self.mpr (by intros; rfl)]
end
theorem vm {p : Prop} [Decidable p] {t u : VTS} {W : bM} (P : List Sl -> Prop) (fin : ∀ S', P S' -> W.nx S') (h1 : ∀ nx, (∀ S', P S' -> nx S') -> p -> t ⟨nx, W.rt, W.bk, W.ct⟩ S) (h2 : ∀ nx, (∀ S', P S' -> nx S') -> ¬p -> u ⟨nx, W.rt, W.bk, W.ct⟩ S) : kIf t u W (decide p) S :=
 eN (fun h => h1 W.nx fin h) fun h => h2 W.nx fin h
theorem oT {n : Nat} {r : Int} (h0 : 0 <= r) (h1 : r < n) : ixN n r = some r.toNat := by
 unfold ixN
 rw [if_pos h0, if_pos h1]
section
variable {α : Type} [DecidableEq α] {n : Nat} {f : α -> D} {x y : α} {l : List α} {q : D -> Prop}
theorem CI (e : Enc n f) (hx : x ∈ l) (h : q (.bl true)) (hn : n + 1 <= 40 := by decide) : mj false (f x) (.lst (l.map f)) q := xH e (by rw [decide_eq_true hx]; exact h) hn
theorem CJ (e : Enc n f) (hx : x ∉ l) (h : q (.bl false)) (hn : n + 1 <= 40 := by decide) : mj false (f x) (.lst (l.map f)) q := xH e (by rw [decide_eq_false hx]; exact h) hn
theorem CK (e : Enc n f) (hx : x ∉ l) (h : q (.bl true)) (hn : n + 1 <= 40 := by decide) : mj true (f x) (.lst (l.map f)) q := ml e (by rw [decide_eq_false hx]; exact h) hn
theorem CL (e : Enc n f) (hx : x ∈ l) (h : q (.bl false)) (hn : n + 1 <= 40 := by decide) : mj true (f x) (.lst (l.map f)) q := ml e (by rw [decide_eq_true hx]; exact h) hn
theorem xS (e : Enc n f) (hx : x = y) (h : q (.bl true)) (hn : n <= 40 := by decide) : iX false (f x) (f y) q := xF e (by rw [decide_eq_true hx]; exact h) hn
theorem CM (e : Enc n f) (hx : x ≠ y) (h : q (.bl false)) (hn : n <= 40 := by decide) : iX false (f x) (f y) q := xF e (by rw [decide_eq_false hx]; exact h) hn
theorem xT (e : Enc n f) (hx : x ≠ y) (h : q (.bl true)) (hn : n <= 40 := by decide) : iX true (f x) (f y) q := xG e (by rw [decide_eq_false hx]; exact h) hn
theorem CN (e : Enc n f) (hx : x = y) (h : q (.bl false)) (hn : n <= 40 := by decide) : iX true (f x) (f y) q := xG e (by rw [decide_eq_true hx]; exact h) hn
end
theorem rY : ∀ {S : List Sl} {i : Nat} {ds : List D}, S[i]? = some (.own ds) -> Wk S (S.set i (.val (.lst ds)))
 | [], _, _, h => by simp at h
 | s :: r, 0, ds, h => by simp at h; subst h; exact .fz (Wk.refl r)
 | s :: r, i + 1, ds, h => by simpa using Wk.keep (s := s) (rY (i := i) (by simpa using h))
def FlS (S : List Sl) : Prop := (∀ (j : Nat) es, S[j]? = some (.own es) -> flats es = true) /\ (∀ (j : Nat) ks es, S[j]? = some (.odi ks es) -> flats es = true) /\ ∀ (j : Nat) k, S[j]? ≠ some (.obj k)
def oU (i : Nat) (t : VTN) : VTN := fun S Q => ∃ ds, S[i]? = some (.own ds) /\ FlS S /\ t (S.set i (.val (.lst ds))) fun ys S1 => flats ys = true /\ S1 = S.set i (.val (.lst ds)) /\ Q ys S
theorem eZ {X : Cx} {e : Expr} {te : TE} {t : VTN} (i : Nat) (h : VN K X e te t) : VN K X e te (oU i t) := ⟨h.pe, fun H0 Z σ H S Q C k zq1 hc => by
 obtain ⟨ds, e0, hfl, t⟩ := zq1
 have w := rY e0
 obtain ⟨k', st0⟩ := k.wk w
 refine h.snd H0 Z σ H _ _ _ k' t fun a' vs ys H1 H' S1 k1 st1 ha hg hl rr zr1 => ?_
 obtain ⟨fy, eS, q⟩ := zr1
 subst eS
 have hi : i < S.length := (List.getElem?_eq_some_iff.mp e0).1
 obtain ⟨o, g1, a, us, rfl, g2, g3, g4⟩ := k.ownAt e0
 have nS : ∀ b, NM Z σ S b -> NM Z σ (S.set i (.val (.lst ds))) b := fun b n z => by
  rcases z with ⟨j, s, z1, z2, z3⟩ | z
  ·exact n (.inl ⟨j, s, w.mut z1 z2, z2, z3⟩)
  ·exact n (.inr z)
 have nA : NM Z σ (S.set i (.val (.lst ds))) a := fun z => by
  rcases z with ⟨j, s, z1, z2, z3⟩ | z
  ·have := k.inj j i a s _ (w.mut z1 z2) e0 z2 rfl z3 g1
   subst this
   rw [List.getElem?_set_self hi] at z1
   cases z1; cases z2
  ·exact k.nz i _ a e0 rfl g1 z
 have eA : H1 a = some (.lst us) := ((st1.1 a nA (by simp [g2])).1).trans g2
 have old : ∀ b, NM Z σ S b -> H b ≠ none -> NM Z σ S b /\ H1 b = H b := fun b n e => ⟨n, (st1.1 b (nS b n) e).1⟩
 have mo1 : ∀ b, Mo Z σ S b -> IsM (H1 b) := fun b z => by
  rcases z with ⟨j, s, z1, z2, z3⟩ | z
  ·by_cases hj : i = j
   ·subst hj
    rw [g1] at z3; cases z3
    rw [eA]; trivial
   ·exact k1.mo (.inl ⟨j, s, by rw [List.getElem?_set_ne hj]; exact z1, z2, z3⟩)
  ·exact k1.zl b z
 have k2 : OK K H0 Z σ H1 S := ⟨k.len, fun j o s z1 z2 => by
  cases s with
  | no => trivial
  | val d => obtain ⟨v, e, r⟩ := k.at_ j o _ z1 z2; exact ⟨v, e, r.mono old fun _ x => x⟩
  | fre d => obtain ⟨v, e, r⟩ := k.at_ j o _ z1 z2; exact ⟨v, e, r.mono old fun _ x => x⟩
  | own es =>
   by_cases hj : i = j
   ·subst hj
    rw [g1] at z1; cases z1
    rw [e0] at z2; cases z2
    exact ⟨a, us, rfl, eA, g3, g4.mono old fun _ x => x⟩
   ·obtain ⟨b, vs, e, e', e0, r⟩ := k1.at_ j o (.own es) z1 (by rw [List.getElem?_set_ne hj]; exact z2)
    exact ⟨b, vs, e, e', e0, (Reps.avoid (N' := NM Z σ S) (fun c z => mo1 c (Classical.not_not.mp z)) (fun _ f => f.elim) (Reps.flat (F' := fun _ => False) r (hfl.1 j es z2))).mono (fun _ n _ => ⟨n, rfl⟩) fun _ f => f.elim⟩
  | pen ad ns =>
   by_cases hj : i = j
   ·subst hj; rw [e0] at z2; cases z2
   ·exact k1.at_ j o (.pen ad ns) z1 (by rw [List.getElem?_set_ne hj]; exact z2)
  | obj k => exact absurd z2 (hfl.2.2 j k)
  | odi ks es =>
   by_cases hj : i = j
   ·subst hj; rw [e0] at z2; cases z2
   ·obtain ⟨b, vs, e, e', e0, ek, r⟩ := k1.at_ j o (.odi ks es) z1 (by rw [List.getElem?_set_ne hj]; exact z2)
    exact ⟨b, vs, e, e', e0, ⟨ek.1, (Reps.avoid (N' := NM Z σ S) (fun c z => mo1 c (Classical.not_not.mp z)) (fun _ f => f.elim) (Reps.flat (F' := fun _ => False) ek.2 (fR _))).mono (fun _ n _ => ⟨n, rfl⟩) fun _ f => f.elim⟩, (Reps.avoid (N' := NM Z σ S) (fun c z => mo1 c (Classical.not_not.mp z)) (fun _ f => f.elim) (Reps.flat (F' := fun _ => False) r (hfl.2.1 j ks es z2))).mono (fun _ n _ => ⟨n, rfl⟩) fun _ f => f.elim⟩, k.inj, k1.dom, k1.zl, k.nz⟩
 refine hc a' vs ys H1 H' S k2 ⟨fun b n e => ⟨(old b n e).2, n⟩, st1.2.1, st1.2.2⟩ ha hg hl ?_ q
 refine (Reps.avoid (N' := fun b => NM Z σ S b /\ b ≠ a') (fun b z => ?_) (fun _ f => f.elim) (Reps.flat (F' := fun _ => False) rr fy)).mono (fun _ n _ => ⟨n, rfl⟩) fun _ f => f.elim
 by_cases hb : b = a'
 ·subst hb; rw [hl]; trivial
 ·have e := mo1 b (Classical.byContradiction fun y => z ⟨y, hb⟩)
  rw [hg b e.ne]; exact e⟩
theorem fZ {i : Nat} {t : VTN} {Q : List D -> List Sl -> Prop} (e : S[i]? = some (.own ds)) (hf : FlS S) (h : t (S.set i (.val (.lst ds))) fun ys S1 => flats ys = true /\ S1 = S.set i (.val (.lst ds)) /\ Q ys S) : oU i t S Q := ⟨ds, e, hf, h⟩
def flatS : List Sl -> Bool
 | [] => true
 | .own ds :: r => flats ds && flatS r
 | .odi _ ds :: r => flats ds && flatS r
 | .obj _ :: r => false && flatS r
 | _ :: r => flatS r
theorem de {s : Sl} {r : List Sl} (h : flatS (s :: r) = true) : flatS r = true := by
 cases s <;> simp only [flatS, Bool.and_eq_true] at h <;> first | exact h | exact h.2
theorem jY : ∀ {S : List Sl}, flatS S = true -> ∀ (j : Nat) es, S[j]? = some (.own es) -> flats es = true
 | s :: r, h, 0, es, e => by simp at e; subst e; simp only [flatS, Bool.and_eq_true] at h; exact h.1
 | s :: r, h, j + 1, es, e => jY (S := r) (de h) j es (by simpa using e)
 | [], _, _, _, e => by simp at e
theorem jZ : ∀ {S : List Sl}, flatS S = true -> ∀ (j : Nat) ks es, S[j]? = some (.odi ks es) -> flats es = true
 | s :: r, h, 0, ks, es, e => by simp at e; subst e; simp only [flatS, Bool.and_eq_true] at h; exact h.1
 | s :: r, h, j + 1, ks, es, e => jZ (S := r) (de h) j ks es (by simpa using e)
 | [], _, _, _, _, e => by simp at e
theorem j2 : ∀ {S : List Sl}, flatS S = true -> ∀ (j : Nat) k, S[j]? ≠ some (.obj k)
 | s :: r, h, 0, k, e => by simp at e; subst e; simp [flatS] at h
 | s :: r, h, j + 1, k, e => j2 (S := r) (de h) j k (by simpa using e)
 | [], _, _, _, e => by simp at e
theorem mw (h : flatS S = true) : FlS S := ⟨jY h, jZ h, j2 h⟩
end VL
end
section
namespace VL
open PySem L2 PySem.SeqAt PySem.Spec PyProof.Rows
section
variable {X : Cx} {pins : List (Addr × Obj)} {σ : L2.St} {H : Hp} {s : Shared} {K : PySem.W.Frag}
def CO (K : PySem.W.Frag) (g : List Bool -> Bool) : List V -> Hp -> VK -> Prop := fun xs H Q => ∃ (l : Addr) (bs : List Bool), xs = [.ref l] /\ SqL K H l (bs.map V.bl) /\ Q (.bl (g bs)) H
theorem mz : ∀ {bs : List Bool} {us : List Value}, Vals (bs.map V.bl) us -> PyProof.Rows.LSm.BoolsAre us bs
 | [], _, .nil => .nil
 | _ :: r, _, .cons h t => by cases h; exact .cons _ (mz (bs := r) t)
theorem i8 (hK : X.K = K) (hc : X.calm = true) : cE X (.builtin "all") (CO K (·.all id)) := by
 rintro pins s σ H xs us Q I r ⟨l, bs, e, hq, q⟩
 subst e hK
 obtain ⟨u, rfl, rx⟩ := Vals.one r
 cases rx
 obtain ⟨vs, rv, pl, _⟩ := I.list hq
 obtain ⟨m, F⟩ := I.fr
 exact PyProof.Rows.LSm.all_bools F dD (I.ok.hd hc) pl.isList (mz rv) fun h' tk F' N' => ⟨.bl _, H, I.led (t' := tk) F.ns F' N', rfl, q⟩
def rZ (K : PySem.W.Frag) (le : Int -> Int -> Prop) : List V -> Hp -> VK -> Prop := fun xs H Q => ∃ (l : Addr) (ns : List Int), xs = [.ref l] /\ SqL K H l (ns.map V.int) /\ ns ≠ [] /\ ∀ M, M ∈ ns -> (∀ a ∈ ns, le M a) -> Q (.int M) H
theorem kH (hK : X.K = K) (hc : X.calm = true) : cE X (.builtin "min") (rZ K (· <= ·)) := by
 rintro pins s σ H xs us Q I r ⟨l, ns, e, hq, hne, q⟩
 subst e hK
 obtain ⟨u, rfl, rx⟩ := Vals.one r
 cases rx
 obtain ⟨vs, rv, pl, _⟩ := I.list hq
 obtain ⟨m, F⟩ := I.fr
 exact PySem.W.kso_min F dD pl.isList (by simpa using intsAre_of rv) (List.length_pos_iff.mpr hne) (I.ok.hd hc) fun h' M t tk F' N' h1 h2 => ⟨.int M, H, I.led (t' := tk) F.ns F' N', ⟨_, rfl⟩, q M h1 h2⟩
theorem gN (hK : X.K = K) (hc : X.calm = true) : cE X (.builtin "max") (rZ K fun M a => a <= M) := by
 rintro pins s σ H xs us Q I r ⟨l, ns, e, hq, hne, q⟩
 subst e hK
 obtain ⟨u, rfl, rx⟩ := Vals.one r
 cases rx
 obtain ⟨vs, rv, pl, _⟩ := I.list hq
 obtain ⟨m, F⟩ := I.fr
 exact PySem.W.kso_max F dD pl.isList (by simpa using intsAre_of rv) (List.length_pos_iff.mpr hne) (I.ok.hd hc) fun h' M t tk F' N' h1 h2 => ⟨.int M, H, I.led (t' := tk) F.ns F' N', ⟨_, rfl⟩, q M h1 h2⟩
theorem mB {N : AP} {H : Hp} : ∀ {vs : List V} {bs : List Bool}, Reps K N F H vs (bs.map D.bl) -> vs = bs.map V.bl
 | _, [], .nil => rfl
 | _, b :: bs, .cons h t => by cases h; rw [mB t]; rfl
def CP (g : List Bool -> Bool) : List D -> (D -> Prop) -> Prop := fun ds q => ∃ bs : List Bool, ds = [.lst (bs.map .bl)] /\ q (.bl (g bs))
theorem i9 {g : List Bool -> Bool} : eJ K (CO K g) (CP g) := by
 rintro xs H ds q C r ⟨bs, rfl, h⟩ hc
 obtain ⟨v, rfl, rv⟩ := rep1 r
 obtain ⟨a, vs, rfl, hq, rr⟩ := rv.sqL
 cases mB rr
 exact ⟨a, bs, rfl, hq, hc _ _ h fun _ _ => .bl _⟩
def xU (le : Int -> Int -> Prop) : List D -> (D -> Prop) -> Prop := fun ds q => ∃ ns : List Int, ds = [.lst (ns.map .int)] /\ ns ≠ [] /\ ∀ M, M ∈ ns -> (∀ a ∈ ns, le M a) -> q (.int M)
theorem dA {le : Int -> Int -> Prop} : eJ K (rZ K le) (xU le) := by
 rintro xs H ds q C r ⟨ns, rfl, hne, h⟩ hc
 obtain ⟨v, rfl, rv⟩ := rep1 r
 obtain ⟨a, vs, rfl, hq, rr⟩ := rv.sqL
 cases Reps.toInts rr
 exact ⟨a, ns, rfl, hq, hne, fun M h1 h2 => hc _ _ (h M h1 h2) fun _ _ => .int _⟩
end
section
variable {K : PySem.W.Frag} {X : Cx} {m : Bool} {e a b : Expr} {ta tb te : TE} {va vb : VT} {tr : TA} {vr : VTA} {pos p : Pos}
def CQ (va : VT) : VTT := fun S Q => va S fun r S1 => ∃ d b, get S1 r = some d /\ tru d = some b /\ Q b S1
theorem Ae (hK : X.K = K) (h : VE K X false e te va) (he : ∀ whole, isTrue e X.env whole = (do let v <- whole; standAt e.pos; holding [v] (truthy v)) := by intro _; rfl) : VTe K X e (fun σ H Q => te σ H fun x H' => ∃ k, TruV K x H' k /\ Q k H') (CQ va) :=
 ⟨by subst hK; exact qM h.pe he, fun H0 Z σ H S Q C k t hc => h.snd H0 Z σ H S _ _ k t fun v H1 r S1 k1 st1 rr zq1 => by
  obtain ⟨d, b, e1, e2, q⟩ := zq1
  refine ⟨b, ?_, hc b H1 S1 k1 st1 q⟩
  have r1 := rr.get k1 e1
  cases d with
  | int i => cases r1; cases e2; rfl
  | bl i => cases r1; cases e2; rfl
  | non => cases r1; cases e2; rfl
  | str i => cases e2
  | ty i => cases e2
  | dic ks i => cases e2
  | exc i => cases e2
  | tup ds => obtain ⟨a, vs, rfl, hq, rr'⟩ := r1.sqT; cases e2; exact .inr (.inl ⟨vs, hq, by cases rr' <;> rfl⟩)
  | lst ds => obtain ⟨a, vs, rfl, hq, rr'⟩ := r1.sqL; cases e2; exact .inl ⟨vs, hq, by cases rr' <;> rfl⟩⟩
def Af (i j : Nat) (vr : VTA) : VTS := fun W S => vr S fun rs S1 => ∃ d1 d2, rs = [.d d1, .d d2] /\ i < S1.length /\ j < S1.length /\ W.nx ((S1.set i (.val d1)).set j (.val d2))
theorem Ag {i j : Nat} {stm : Stmt} (hp : PS X stm (qF i j tr)) (ha : zd K false tr vr) : VS K X stm (qF i j tr) (Af i j vr) := ⟨hp, fun H0 Z σ H S W E k t l => ha H0 Z σ H S _ _ k t fun vs H1 rs S1 k1 st1 rrs zq1 => by
 obtain ⟨d1, d2, e, hi, hj, q⟩ := zq1
 subst e
 cases rrs with
 | cons r1 t1 =>
  cases t1 with
  | cons r2 t2 =>
   cases t2
   have r1 : Rep K (NM Z σ S1) AnyF H1 _ d1 := Rep.mono (fun _ n _ => ⟨n, rfl⟩) (fun _ _ => trivial) r1
   have r2 : Rep K (NM Z σ S1) AnyF H1 _ d2 := Rep.mono (fun _ n _ => ⟨n, rfl⟩) (fun _ _ => trivial) r2
   obtain ⟨k2, st2⟩ := k1.setVal hi r1
   obtain ⟨k3, st3⟩ := k2.setVal (i := j) (by simpa using hj) (r2.step st2)
   exact ⟨_, _, rfl, l.nx _ _ _ k3 ((st1.trans st2).trans st3) q⟩⟩
def CS (i : Nat) (t : VTN) : VTN := fun S Q => (∃ ds, S[i]? = some (.own ds)) /\ t S fun es S1 => ∃ ds, S1[i]? = some (.own ds) /\ ds.length + es.length <= 1000000 /\ Q (ds ++ es) S1
theorem kI {t : VTN} (i : Nat) (ho : PE X a (cS i)) (h : VN K X b tb t) : VN K X (.BinOp a .Add b pos) (tOp yY (cS i) tb) (CS i t) := ⟨oe qR ho h.pe, fun H0 Z σ H S Q C k zq1 hc => by
 obtain ⟨⟨ds0, e0⟩, t⟩ := zq1
 obtain ⟨o, g1, c, us, rfl, g2, g3, g4⟩ := k.ownAt e0
 refine ⟨.ref c, g1, h.snd H0 Z σ H S _ _ k t fun a' vs es H1 H' S1 k1 st1 ha hg hl rr zr1 => ?_⟩
 obtain ⟨ds, e1, hlen, q⟩ := zr1
 obtain ⟨o', g1', c', us', rfl, g2', g3', g4'⟩ := k1.ownAt e1
 rw [g1] at g1'; cases g1'
 have k2 := k1.grow hg
 have g2'' : H' c = some (.lst us') := by rw [hg c (by simp [g2'])]; exact g2'
 refine ⟨c, a', us', vs, rfl, rfl, g2'', hl, by rw [g4'.length, rr.length, sizeLine_eq]; lia, fun p hp => ?_⟩
 refine hc p _ _ H' _ S1 k2 (st1.trans (.grow hg)) hp (aU hp) aG (Reps.append ?_ ?_) q
 ·exact bV hp ((g4'.mono (fun b n e => ⟨n, hg b e⟩) fun _ x => x).mono (fun _ n _ => ⟨n, rfl⟩) fun _ x _ => x)
 ·exact bV hp (rr.mono (fun _ n _ => ⟨n.1, rfl⟩) fun _ x _ => x)⟩
abbrev VO := List Sl -> (Option Int -> List Sl -> Prop) -> Prop
def D9 (K : PySem.W.Frag) (te : TO) (t : VO) : Prop := ∀ H0 Z σ H S Q C, OK K H0 Z σ H S -> t S Q -> (∀ o H' S', OK K H0 Z σ H' S' -> Step Z σ S H σ S' H' -> Q o S' -> C o H') -> te σ H C
structure VOe (K : PySem.W.Frag) (X : Cx) (e : Option Expr) (te : TO) (t : VO) : Prop where
 pe : PO X e te
 snd : D9 K te t
def CT : VO := fun S Q => Q none S
def sh (va : VT) : VO := fun S Q => va S fun r S1 => ∃ i, r = .d (.int i) /\ Q (some i) S1
theorem bQ : VOe K X none ou CT := ⟨uC, fun _ _ _ _ _ _ _ k h q => q _ _ _ k .refl h⟩
theorem bR (h : VE K X false e te va) : VOe K X (some e) (xq te) (sh va) := ⟨uD h.pe, fun H0 Z σ H S Q C k t hc => h.snd H0 Z σ H S _ _ k t fun v H1 r S1 k1 st1 rr zq1 => by
 obtain ⟨i, e, q⟩ := zq1
 subst e
 cases (show Rep K _ _ H1 v (.int i) from rr)
 exact ⟨i, rfl, hc _ H1 S1 k1 st1 q⟩⟩
def cutD (ds : List D) (lo hi : Option Int) : List D := (ds.drop (HT.sIx ds.length 0 lo)).take (HT.sIx ds.length ds.length hi - HT.sIx ds.length 0 lo)
theorem sk {N : AP} (r : Reps K N F H vs ds) (lo hi : Option Int) : Reps K N F H (pY vs lo hi) (cutD ds lo hi) := by
 unfold pY cutD
 rw [r.length]
 exact (r.drop _).take _
def vSl (va : VT) (vl vh : VO) : VTN := fun S Q => va S fun r S1 => vl S1 fun lo S2 => vh S2 fun hi S3 => ∃ ds, get S3 r = some (.lst ds) /\ flats ds = true /\ Q (cutD ds lo hi) S3
theorem ja : ∀ {ds : List D} (n : Nat), flats ds = true -> flats (ds.drop n) = true
 | _, 0, h => by simpa using h
 | [], _ + 1, h => by simpa using h
 | d :: r, n + 1, h => by simp only [flats, Bool.and_eq_true] at h; simpa using ja n h.2
theorem jb : ∀ {ds : List D} (n : Nat), flats ds = true -> flats (ds.take n) = true
 | _, 0, h => by simp [flats]
 | [], _ + 1, h => by simpa using h
 | d :: r, n + 1, h => by simp only [flats, Bool.and_eq_true] at h; simp [flats, h.1, jb n h.2]
theorem CU {lo hi : Option Expr} {tl th : TO} {vl vh : VO} {p2 : Pos} (hK : X.K = K) (h : VE K X false e te va) (hl : VOe K X lo tl vl) (hh : VOe K X hi th vh) : VN K X (.Subscript e (.Slice lo hi none p2) pos) (tSl (Bt K) te tl th) (vSl va vl vh) :=
 ⟨by subst hK; exact lK uF h.pe hl.pe hh.pe, fun H0 Z σ H S Q C k t hc => h.snd H0 Z σ H S _ _ k t fun v H1 r S1 k1 st1 rr t1 => hl.snd H0 Z σ H1 S1 _ _ k1 t1 fun lo H2 S2 k2 st2 t2 => hh.snd H0 Z σ H2 S2 _ _ k2 t2 fun hi H3 S3 k3 st3 zq1 => by
  obtain ⟨ds, e, f, q⟩ := zq1
  obtain ⟨a, vs, rfl, hq, rs⟩ := ((rr.step st2).step st3).elems k3 e
  exact ⟨a, vs, rfl, hq, fun p hp => hc p _ _ H3 _ S3 k3 ((st1.trans st2).trans st3) hp (aU hp) aG (qc hp (sk rs lo hi) (by unfold cutD; exact jb _ (ja _ f))) q⟩⟩
end
end VL
end
section
namespace VL
open PySem L2
theorem vo {X : Cx} {i j : Nat} {stm : Stmt} {a b : Expr} {tr : TA} {vr : VTA} (hp : ∀ tr, PA X [a, b] tr -> PS X stm (qF i j tr)) (ha : VA K X false [a, b] tr vr) : VS K X stm (qF i j tr) (Af i j vr) := Ag (hp _ ha.pe) ha.snd
section
variable {S : List Sl} {Q : VR -> List Sl -> Prop} {QT : Bool -> List Sl -> Prop} {QN : List D -> List Sl -> Prop} {W : bM} {va vb : VT} {vr : VTA} {vn : VTN} {vl vh : VO}
@[irreducible] def vp (i : Nat) (QN : List D -> List Sl -> Prop) : List D -> List Sl -> Prop := fun es S1 => ∃ ds, S1[i]? = some (.own ds) /\ ds.length + es.length <= 1000000 /\ QN (ds ++ es) S1
theorem CV {i : Nat} (e : S[i]? = some (.own ds)) (h : vn S (vp i QN)) : CS i vn S QN := by unfold vp at h; exact ⟨⟨ds, e⟩, h⟩
theorem kJ {i : Nat} {es ds : List D} (e : S[i]? = some (.own ds)) (hl : ds.length + es.length <= 1000000) (h : QN (ds ++ es) S) : vp i QN es S := by unfold vp; exact ⟨ds, e, hl, h⟩
@[irreducible] def vq (QT : Bool -> List Sl -> Prop) : VR -> List Sl -> Prop := fun r S1 => ∃ d b, get S1 r = some d /\ tru d = some b /\ QT b S1
theorem CW (h : va S (vq QT)) : CQ va S QT := by unfold vq at h; exact h
theorem sm {b : Bool} (e : get S r = some d) (e2 : tru d = some b) (h : QT b S) : vq QT r S := by unfold vq; exact ⟨d, b, e, e2, h⟩
@[irreducible] def vw (i j : Nat) (W : bM) : List VR -> List Sl -> Prop := fun rs S1 => ∃ d1 d2, rs = [.d d1, .d d2] /\ i < S1.length /\ j < S1.length /\ W.nx ((S1.set i (.val d1)).set j (.val d2))
theorem CY {i j : Nat} (h : vr S (vw i j W)) : Af i j vr W S := by unfold vw at h; exact h
theorem Ah {i j : Nat} {d1 d2 : D} (h1 : i < S.length) (h2 : j < S.length) (h : W.nx ((S.set i (.val d1)).set j (.val d2))) : vw i j W [.d d1, .d d2] S := by unfold vw; exact ⟨d1, d2, rfl, h1, h2, h⟩
@[irreducible] def vz (vl vh : VO) (QN : List D -> List Sl -> Prop) : VR -> List Sl -> Prop := fun r S1 => vl S1 fun lo S2 => vh S2 fun hi S3 => ∃ ds, get S3 r = some (.lst ds) /\ flats ds = true /\ QN (cutD ds lo hi) S3
@[irreducible] def vA (r : VR) (vh : VO) (QN : List D -> List Sl -> Prop) : Option Int -> List Sl -> Prop := fun lo S2 => vh S2 fun hi S3 => ∃ ds, get S3 r = some (.lst ds) /\ flats ds = true /\ QN (cutD ds lo hi) S3
@[irreducible] def sq (r : VR) (lo : Option Int) (QN : List D -> List Sl -> Prop) : Option Int -> List Sl -> Prop := fun hi S3 => ∃ ds, get S3 r = some (.lst ds) /\ flats ds = true /\ QN (cutD ds lo hi) S3
theorem Ea (h : va S (vz vl vh QN)) : vSl va vl vh S QN := by unfold vz at h; exact h
theorem Ai (h : vl S (vA r vh QN)) : vz vl vh QN r S := by unfold vz; unfold vA at h; exact h
theorem Aj {lo : Option Int} (h : vh S (sq r lo QN)) : vA r vh QN lo S := by unfold vA; unfold sq at h; exact h
theorem Ak {lo hi : Option Int} (e : get S r = some (.lst ds)) (f : flats ds = true) (h : QN (cutD ds lo hi) S) : sq r lo QN hi S := by unfold sq; exact ⟨ds, e, f, h⟩
theorem vB {lo hi : Option Int} {ds es : List D} (e : get S r = some (.lst ds)) (f : flats ds = true) (e2 : cutD ds lo hi = es) (h : QN es S) : sq r lo QN hi S := Ak e f (by rw [e2]; exact h)
variable {QO : Option Int -> List Sl -> Prop}
theorem Al (h : QO none S) : CT S QO := h
@[irreducible] def kVo (QO : Option Int -> List Sl -> Prop) : VR -> List Sl -> Prop := fun r S1 => ∃ i, r = .d (.int i) /\ QO (some i) S1
theorem su (h : va S (kVo QO)) : sh va S QO := by unfold kVo at h; exact h
theorem CZ {i : Int} (h : QO (some i) S) : kVo QO (.d (.int i)) S := by unfold kVo; exact ⟨i, rfl, h⟩
theorem dB {le : Int -> Int -> Prop} (hne : ns ≠ []) (h : ∀ M, M ∈ ns -> (∀ a ∈ ns, le M a) -> q (.int M)) : xU le [.lst (ns.map .int)] q := ⟨ns, rfl, hne, h⟩
end
def mnI : List Int -> Int
 | [] => 0
 | [a] => a
 | a :: r => min a (mnI r)
theorem gO : ∀ {ns : List Int} {a : Int}, a ∈ ns -> mnI ns <= a
 | [b], a, h => by simp at h; subst h; exact Int.le_refl _
 | b :: c :: r, a, h => by
  rw [mnI]
  ·rcases List.mem_cons.mp h with rfl | h
   ·exact Int.min_le_left ..
   ·exact Int.le_trans (Int.min_le_right ..) (gO h)
  ·simp
theorem bC : ∀ {ns : List Int}, ns ≠ [] -> mnI ns ∈ ns
 | [b], _ => by simp [mnI]
 | b :: c :: r, _ => by
  rw [show mnI (b :: c :: r) = min b (mnI (c :: r)) from rfl]
  have := bC (ns := c :: r) (by simp)
  rcases Int.le_total b (mnI (c :: r)) with h | h
  ·rw [Int.min_eq_left h]; simp
  ·rw [Int.min_eq_right h]; exact List.mem_cons_of_mem _ this
theorem gP {M : Int} (h : M ∈ ns) (h2 : ∀ a ∈ ns, M <= a) : M = mnI ns :=
 Int.le_antisymm (h2 _ (bC (List.ne_nil_of_mem h))) (gO h)
end VL
end
section
namespace L2
open PySem PySem.Spec PyProof.Rows
theorem Inv.made_list {X : Cx} {s : Shared} {m : Str -> Option Value} {h' : Heap} {D : Addr} {vs' : List Value} {c : Nat} {ws : List V} (hex : X.ex = []) (I : Inv X pins σ H s) (Fn : s.heap.Ns X.env.locals m) (F' : Fr X.base X.env.locals h' m)
  (N' : News X.base X.env.locals h' ((D, PySem.W.listOf vs'.toArray c) :: bF X.base s.heap X.env.locals)) (hlt : ∀ q ∈ bF X.base s.heap X.env.locals, q.1 < D) (r : Vals ws vs') (hz : ws.length <= sizeLine) :
  H D = none /\ Inv X pins σ (upd H D (.lst ws)) { s with heap := h' } := by
 have N1 : News X.base X.env.locals h' (bF X.base s.heap X.env.locals) := fun p hp => N' p (List.mem_cons_of_mem _ hp)
 have I1 : Inv X pins σ H { s with heap := h' } := I.led (t' := s.toks) Fn F' N1
 have ND := N' (D, _) List.mem_cons_self
 have young : ∀ b o, s.heap.get? b = some o -> b ≠ D := fun b o e z => by
  by_cases hb : b = X.env.locals
  ·exact ND.2.1 (z ▸ hb)
  ·cases q : X.base.get? b with
   | some u => rw [z, ND.2.2] at q; cases q
   | none => exact absurd (hlt (b, o) (dk hb q e)) (by rw [z]; exact Nat.lt_irrefl _)
 have hDn : H D = none := by
  cases z : H D with
  | none => rfl
  | some u =>
   obtain ⟨ob, eo⟩ := bu.there (I.hok D u z)
   exact absurd rfl (young D ob eo)
 have s0D : X.s₀.heap.get? D = none := by
  cases z : X.s₀.heap.get? D with
  | none => rfl
  | some ob =>
   obtain ⟨o', e'⟩ := I.base.there D ob z (by rw [hex]; simp)
   exact absurd rfl (young D o' e')
 refine ⟨hDn, I1.trackN hDn s0D ND.2.1 (fun x c e z => ?_) (fun p hp z => ?_) ⟨hz, vs', c, r, ND.1⟩⟩
 ·obtain ⟨v, o, ho, _⟩ := I.cell x c e
  exact young c o ho z
 ·exact young p.1 p.2 (I.pin p hp).1 z
end L2
end
section
namespace L2
open PySem PySem.Spec PyProof.Rows
section
variable {X : Cx} {o i value : Expr} {pos pos' : Pos} {td ty tv : TE}
theorem Am {s : Shared} (I : Inv X pins σ H s) : sysModules < s.heap.objs.size := by
 have h : mainGlobals < s.heap.objs.size := (I.mod.glob.keeps I.bk).lt
 exact Nat.lt_trans (by decide) h
def xV : TE := fun _ H Q => ∀ p ob, H p = none -> Q (.ref p) (upd H p (kx p ob []))
theorem vD : PE X (.Dict [] [] pos) xV := fun pins s σ H Q I h =>
 wpAny_Dict_empty ⟨.ref s.heap.objs.size, _, I.laid (a := s.heap.objs.size) (o := kx s.heap.objs.size _ []) (t' := s.toks) (fun _ _ q => Heap.get?_push_of_some _ q) (Nat.le_refl _)
  (nj.ok ⟨Nat.zero_le _, beq_eq_false_iff_ne.mpr (Ne.symm (Nat.ne_of_lt (Am I))), List.nodup_nil, [], .nil, _, #[], 0, Heap.get?_push_size _ rfl, ⟨rfl, rfl, rfl⟩, rfl, rfl⟩ (Heap.get?_push_size _ rfl)), rfl, h _ _ (I.hok.fresh (Nat.le_refl _))⟩
end
end L2
namespace VL
open PySem L2
def dc (kvs : List (List Int × D)) : D := .dic (kvs.map (·.1)) (kvs.map (·.2))
section
variable {K : PySem.W.Frag} {X : Cx} {m : Bool} {e o ie : Expr} {te ti : TE} {va vi : VT} {pos posS : Pos}
abbrev VTD := List Sl -> (List (List Int × D) -> List Sl -> Prop) -> Prop
def Eb (K : PySem.W.Frag) (te : TE) (t : VTD) : Prop := ∀ H0 Z σ H S Q C, OK K H0 Z σ H S -> t S Q -> (∀ a es kvs H1 H' S', OK K H0 Z σ H1 S' -> Step Z σ S H σ S' H1 -> H1 a = none -> (∀ b, H1 b ≠ none -> H' b = H1 b) -> (∃ ob, H' a = some (kx a ob es)) ->
 es.map (·.1) = kvs.map (·.1) -> Reps K (fun b => NM Z σ S' b /\ b ≠ a) AnyF H' (es.map fun x => V.ref x.2.1) ((kvs.map (·.1)).map kT) -> Reps K (fun b => NM Z σ S' b /\ b ≠ a) (Fr H0) H' (es.map (·.2.2)) (kvs.map (·.2)) -> Q kvs S' -> C (.ref a) H') -> te σ H C
structure VDe (K : PySem.W.Frag) (X : Cx) (e : Expr) (te : TE) (t : VTD) : Prop where
 pe : PE X e te
 snd : Eb K te t
def xW : VTD := fun S Q => Q [] S
theorem An : VDe K X (.Dict [] [] pos) xV xW := ⟨vD, fun H0 Z σ H S Q C k t hc => fun p ob hp => hc p [] [] H _ S k .refl hp (aU hp) ⟨ob, aG⟩ rfl .nil .nil t⟩
def xX (t : VTD) : VT := fun S Q => t S fun kvs S1 => Q (.d (dc kvs)) S1
theorem vE {t : VTD} (h : VDe K X e te t) : VE K X m e te (xX t) := ⟨h.pe, fun H0 Z σ H S Q C k t hc => h.snd H0 Z σ H S _ _ k t fun a es kvs H1 H' S1 k1 st1 ha hg zq1 ek rk rr q => by
 obtain ⟨ob, hl⟩ := zq1
 refine hc _ H' (.d (dc kvs)) S1 (k1.grow hg) (st1.trans (.grow hg)) (Rep.dic (k1.nm ha) (fun _ => ⟨a, rfl, k1.dom a ha⟩) hl ek (Reps.flat (rk.mono (fun b n e => ⟨n.1, rfl⟩) fun _ x => x) (fR _)) (rr.mono (fun b n e => ⟨n.1, rfl⟩) fun _ x _ => x)) q⟩
end
end VL
end
section
namespace VL
open PySem L2
section
variable {S : List Sl} {Q : VR -> List Sl -> Prop} {QN : List D -> List Sl -> Prop} {QD : List (List Int × D) -> List Sl -> Prop} {W : bM} {va vb : VT} {vr : VTA} {vd : VTD}
theorem Ao (h : QD [] S) : xW S QD := h
@[irreducible] def oV (Q : VR -> List Sl -> Prop) : List (List Int × D) -> List Sl -> Prop := fun kvs S1 => Q (.d (dc kvs)) S1
theorem Ap (h : vd S (oV Q)) : xX vd S Q := by unfold oV at h; exact h
theorem vF (h : Q (.d (dc kvs)) S) : oV Q kvs S := by unfold oV; exact h
end
section
variable {K : PySem.W.Frag} {X : Cx} {e : Expr} {te : TE} {va : VT} {pos pos' : Pos} {x : Str}
theorem aE {i : Nat} (hN : X.N.Nodup) (hi : X.N[i]? = some x) (hx : Loc X.env.scope x) (h : VE K X false e te va) (hs : swapsWith e (some (.Name x pos')) pos.line X.env = pure false := by rfl)
  (hf : X.fn x = true \/ X.env.scope.names.lookup x = some .local := by first | exact .inl rfl | exact .inr rfl | assumption) : VS K X (.Assign [.Name x pos'] e pos) (dH te (bL i)) (qd va (vgN i)) := zr (fun _ h => dR hN hi hx h hs hf) h
end
end VL
end
section
namespace VL
open PySem L2
section
variable {K : PySem.W.Frag} {X : Cx} {m : Bool} {e a b o : Expr} {te ta tb : TE} {va vb : VT} {pos apos : Pos}
def C1 (i : Nat) (vb : VT) : VT := fun S Q => (∃ ds, S[i]? = some (.own ds)) /\ vb S fun rb S1 => ∃ ds j d, S1[i]? = some (.own ds) /\ get S1 rb = some (.int j) /\ atI ds j = some d /\ Q (.d d) S1
theorem Aq (i : Nat) (hK : X.K = K) (ho : PE X o (cS i)) (hb : VE K X false b tb vb) (hs : eU b) : VE K X m (.Subscript o b pos) (tOp (rIx K) (cS i) tb) (C1 i vb) := ⟨by subst hK; exact lM kn ho hb.pe hs, fun H0 Z σ H S Q C k zq1 hc => by
 obtain ⟨⟨ds0, e0⟩, t⟩ := zq1
 obtain ⟨o0, g0, p, vs0, rfl, _⟩ := k.ownAt e0
 refine ⟨.ref p, g0, hb.snd H0 Z σ H S _ _ k t fun y H2 rb S2 k2 st2 r2 zr1 => ?_⟩
 obtain ⟨ds, j, d, e1, e2, e3, q⟩ := zr1
 cases r2.get k2 e2
 obtain ⟨o1, g1, p', vs, e4, h1, h2, rr⟩ := k2.ownAt e1
 rw [g0] at g1; cases g1; cases e4
 obtain ⟨v, h3, h4⟩ := fV rr e3
 exact .inl ⟨p, vs, j, v, rfl, rfl, .inl (.inl h1), h3, hc v H2 (.d d) S2 k2 st2 (show Rep K _ _ H2 v d from h4.mono (fun _ n _ => ⟨n, rfl⟩) fun _ x _ => x) q⟩⟩
def C2 (t : VTN) (vb : VT) : VT := fun S Q => t S fun ds S1 => vb S1 fun rb S2 => ∃ j d, get S2 rb = some (.int j) /\ atI ds j = some d /\ Q (.d d) S2
theorem Ar {t : VTN} (hK : X.K = K) (ha : VN K X a ta t) (hb : VE K X false b tb vb) (hs : eU b) : VE K X m (.Subscript a b pos) (tOp (rIx K) ta tb) (C2 t vb) := ⟨by subst hK; exact lM kn ha.pe hb.pe hs, fun H0 Z σ H S Q C k t hc =>
 ha.snd H0 Z σ H S _ _ k t fun p vs ds H1 H' S1 k1 st1 hp hg hl rr t1 => by
  have k1' := k1.grow hg
  have rl : Rep K (NM Z σ S1) (FM H0 true) H' (.ref p) (.lst ds) := .lst (k1.nm hp) (fun _ => ⟨p, rfl, k1.dom p hp⟩) hl (rr.mono (fun b n _ => ⟨n.1, rfl⟩) fun _ x _ => x)
  refine hb.snd H0 Z σ H' S1 _ _ k1' t1 fun y H2 rb S2 k2 st2 r2 zr1 => ?_
  obtain ⟨j, d, e2, e3, q⟩ := zr1
  cases r2.get k2 e2
  have rl2 := rl.step st2
  cases rl2 with
  | lst n f h r =>
   obtain ⟨v, h3, h4⟩ := fV r e3
   exact .inl ⟨p, _, j, v, rfl, rfl, .inl (.inl h), h3, hc v H2 (.d d) S2 k2 ((st1.trans (.grow hg)).trans st2) (show Rep K _ _ H2 v d from h4.mono (fun _ n _ => ⟨n, rfl⟩) fun _ x _ => x rfl) q⟩
  | lstF n f h r => obtain ⟨c, ec, _⟩ := f rfl; cases ec
  | lstK f h r => obtain ⟨c, ec, _⟩ := f rfl; cases ec⟩
def xY : List D -> (D -> Prop) -> Prop := fun ds q => ∃ i : Int, ds = [.int i] /\ i.natAbs.log2 < 1920 /\ q (.str (toString i))
theorem kK : eJ K (fun xs H Q => ∃ i : Int, xs = [.int i] /\ i.natAbs.log2 < 1920 /\ Q (.str (toString i)) H) xY := by
 rintro xs H ds q C r ⟨i, rfl, hb, h⟩ hc
 obtain ⟨v, rfl, rv⟩ := rep1 r
 cases rv
 exact ⟨i, rfl, hb, hc _ _ h fun _ _ => .str _⟩
end
section
variable {S : List Sl} {Q : VR -> List Sl -> Prop} {va vb : VT} {vn : VTN}
@[irreducible] def vG (i : Nat) (Q : VR -> List Sl -> Prop) : VR -> List Sl -> Prop := fun rb S1 => ∃ ds j d, S1[i]? = some (.own ds) /\ get S1 rb = some (.int j) /\ atI ds j = some d /\ Q (.d d) S1
theorem C3 {i : Nat} (e : S[i]? = some (.own ds)) (h : vb S (vG i Q)) : C1 i vb S Q := by unfold vG at h; exact ⟨⟨ds, e⟩, h⟩
theorem nM {i : Nat} {j : Int} (e1 : S[i]? = some (.own ds)) (e2 : get S r = some (.int j)) (e3 : atI ds j = some d) (h : Q (.d d) S) : vG i Q r S := by unfold vG; exact ⟨ds, j, d, e1, e2, e3, h⟩
@[irreducible] def oW (vb : VT) (Q : VR -> List Sl -> Prop) : List D -> List Sl -> Prop := fun ds S1 => vb S1 fun rb S2 => ∃ j d, get S2 rb = some (.int j) /\ atI ds j = some d /\ Q (.d d) S2
@[irreducible] def oX (ds : List D) (Q : VR -> List Sl -> Prop) : VR -> List Sl -> Prop := fun rb S2 => ∃ j d, get S2 rb = some (.int j) /\ atI ds j = some d /\ Q (.d d) S2
theorem C4 (h : vn S (oW vb Q)) : C2 vn vb S Q := by unfold oW at h; exact h
theorem vH (h : vb S (oX ds Q)) : oW vb Q ds S := by unfold oW; unfold oX at h; exact h
theorem oY {j : Int} (e2 : get S r = some (.int j)) (e3 : atI ds j = some d) (h : Q (.d d) S) : oX ds Q r S := by unfold oX; exact ⟨j, d, e2, e3, h⟩
theorem kL {i : Int} (hb : i.natAbs.log2 < 1920) (h : q (.str (toString i))) : xY [.int i] q := ⟨i, rfl, hb, h⟩
theorem C5 {x y : Str} (h : q (.bl (decide (x = y)))) : wEq (.str x) (.str y) q := ⟨.str x, .str y, rfl, rfl, rfl, by simpa using h⟩
theorem C6 {x y : Str} (h : q (.bl (!decide (x = y)))) : wNe (.str x) (.str y) q := ⟨.str x, .str y, rfl, rfl, rfl, by simpa using h⟩
end
end VL
end
section
namespace L2
open PySem PySem.Spec PyProof.Rows PySem.W
structure Flies (P : Program) (w : World) (outer : List Env) (H : Hp) (s : Shared) (x : Addr) (cls a0 : Value) (B : Heap) (H' : Hp) (s' : Shared) : Prop where
 os : s'.os = s.os
 bare : AllBare s'.gens
 fly : Heap.FlyingW B outer x cls a0 s'.heap
 frm : ∀ b ∈ frs outer, ∀ o, s.heap.get? b = some o -> ∃ sl, s'.heap.get? b = some { o with slots := sl }
 hok : HOk P w H' B
 cov : ∀ b o, s.heap.get? b = some o -> H b = none -> b ∉ frs outer -> B.get? b = some o
 same : ∀ b, H b ≠ none -> H' b = H b
 free : ∀ b o, s.heap.get? b = some o -> H b = none -> H' b = none
 new : s.heap.get? x = none
def CX1 (P : Program) (w : World) : CXT := fun outer H s E e s' => ∃ x cls a0 B H', e = .ref x /\ Flies P w outer H s x cls a0 B H' s' /\ E cls none H'
section
variable {P : Program} {w : World} {outer : List Env} {H H' : Hp} {s s' : Shared} {x : Addr} {cls a0 : Value} {B : Heap}
theorem Flies.hok' (f : Flies P w outer H s x cls a0 B H' s') : HOk P w H' s'.heap := f.hok.kept f.fly.1
theorem Flies.un (f : Flies P w outer H s x cls a0 B H' s') : Un (frs outer) [] H H' s.heap s'.heap where
 keep := fun b o e n nb _ => f.fly.1 b o (f.cov b o e n nb)
 slot := fun b o e _ hb _ => f.frm b hb o e
 free := fun b o e n _ => f.free b o e n
 there := fun b o e _ => by
  cases n : H b with
  | none =>
   by_cases hb : b ∈ frs outer
   ·obtain ⟨sl, q⟩ := f.frm b hb o e
    exact ⟨_, q⟩
   ·exact ⟨o, f.fly.1 b o (f.cov b o e n hb)⟩
  | some u => exact bu.there (f.hok' b u (by rw [f.same b (by rw [n]; simp)]; exact n))
 tups := fun b xs e => by rw [f.same b (by rw [e]; simp)]; exact e
 frzs := fun b o u e => by rw [f.same b (by rw [e]; simp)]; exact e
 tbls := fun b ps e => ⟨#[], by rw [f.same b (by rw [e]; simp), e]; simp⟩
theorem Flies.noX (f : Flies P w outer H s x cls a0 B H' s') : H' x = none := by
 cases n : H' x with
 | none => rfl
 | some u =>
  obtain ⟨o, e⟩ := bu.there (f.hok x u n)
  rw [f.fly.2.1] at e
  cases e
theorem sy {h : Heap} {as : List Addr} (k : HOk P w H h) (hf : ∀ a ∈ as, H a = none) : HOk P w H (hideAll h as) := fun b u e => by
 have nb : ∀ c v, H c = some v -> c ∉ as := fun c v q z => by rw [hf c z] at q; cases q
 refine (k b u e).stay (fun c v hc q => hideAll_get _ q ?_) (fun c q => q) fun c xs q => q
 rcases hc with rfl | hc
 ·exact nb c u e
 ·exact nb c _ hc
end
structure f6 (X : Cx) (Hin : Hp) (E : XK) : Prop where
 first : ∀ pins σ H s h1 x cls args, Inv X pins σ H s -> Heap.MadeExcOf s.heap h1 x cls args -> (∀ b, Hin b ≠ none -> H b = Hin b) -> E cls none H -> ∀ tk, X.xe (.ref x) { s with heap := h1, toks := tk }
 next : ∀ pins σ H s e s', Inv X pins σ H s -> CX1 X.prog X.w X.stack H s (fun c _ H' => (∀ b, Hin b ≠ none -> H' b = Hin b) /\ E c none H') e s' -> X.xe e s'
section
variable {P : Program} {w : World} {K : PySem.W.Frag} {mg : Str -> Option Value} {base : Heap} {N : List Str} {qual : Str} {scope : Scope} {f : Addr} {cd : Value} {A : Around} {outer : List Env} {s : Shared} {H : Hp} {E : XK}
theorem ql : f6 (ig (CX1 P w) P w K mg base N qual scope f cd A outer s H E) H E where
 first := fun pins σ Hc sr h1 x cls args I hx fr he tk => by
  have nf : ∀ b ∈ frs outer, ∀ o, s.heap.get? b = some o -> ∀ vs, o.data ≠ .fields vs := fun b hb o e => by
   obtain ⟨_, o', e', n⟩ := I.ok.funs.mem hb
   have e' : s.heap.get? b = some o' := e'
   rw [e] at e'; cases e'
   exact n
  refine wpAny_leaves_madeW (base := hideAll sr.heap (frs (envOfC qual scope s.heap.objs.size f cd :: outer))) I.ok.frames rfl (fun b o q => of_hideAll _ q) (funFrames_hide I.stack fun env he a ha => List.mem_filterMap.mpr ⟨env, he, ha⟩) hx fun h' t fl _ _ up => ?_
  refine ⟨x, cls, .ref t, _, Hc, rfl, ⟨I.os, I.bare, fl, fun b hb o e => ?_, sy I.hok I.stkFree, fun b o e n nb => ?_, fr, fun b o e n => ?_, ?_⟩, he⟩
  ·obtain ⟨sl, q⟩ := I.base.slot b o e (I.ok.frf b hb) hb (by intro z; cases z)
   obtain ⟨sl', q'⟩ := up b _ (hx.keeps _ _ q) (nf b hb o e)
   exact ⟨sl', q'⟩
  ·refine hideAll_get _ (I.base.keep b o e n nb (by intro z; cases z)) fun z => ?_
   rcases List.mem_cons.mp (I.stkSub b z) with e' | z
   ·have lt := Heap.lt_size e
    have ab : s.heap.objs.size <= b := e' ▸ I.ok.above
    exact absurd lt (Nat.not_lt.mpr ab)
   ·exact nb z
  ·exact I.base.free b o e n (by intro z; cases z)
  ·cases q : s.heap.get? x with
   | none => rfl
   | some o =>
    obtain ⟨o', e'⟩ := I.base.there x o q (by intro z; cases z)
    rw [hx.new] at e'
    cases e'
 next := fun pins σ Hc sr e s' I h => by
  obtain ⟨x, cls, a0, B, H', rfl, F, fr, he⟩ := h
  have nf : ∀ b ∈ frs outer, ∀ o, s.heap.get? b = some o -> ∀ vs, o.data ≠ .fields vs := fun b hb o e => by
   obtain ⟨_, o', e', n⟩ := I.ok.funs.mem hb
   have e' : s.heap.get? b = some o' := e'
   rw [e] at e'; cases e'
   exact n
  refine wpAny_leaves_onW I.ok.frames rfl F.fly fun h' fl up => ?_
  have sub : ∀ b ∈ frs outer, b ∈ frs (envOfC qual scope s.heap.objs.size f cd :: outer) := fun b hb => by
   obtain ⟨env, h1, h2⟩ := List.mem_filterMap.mp hb
   exact List.mem_filterMap.mpr ⟨env, List.mem_cons_of_mem _ h1, h2⟩
  refine ⟨x, cls, a0, B, H', rfl, ⟨F.os.trans I.os, F.bare, fl, fun b hb o e => ?_, F.hok, fun b o e n nb => ?_, fr, fun b o e n => ?_, ?_⟩, he⟩
  ·obtain ⟨sl, q⟩ := I.base.slot b o e (I.ok.frf b hb) hb (by intro z; cases z)
   obtain ⟨sl1, q1⟩ := F.frm b (sub b hb) _ q
   obtain ⟨sl2, q2⟩ := up b _ q1 (nf b hb o e)
   exact ⟨sl2, q2⟩
  ·refine F.cov b o (I.base.keep b o e n nb (by intro z; cases z)) (I.base.free b o e n (by intro z; cases z)) fun z => ?_
   rcases List.mem_cons.mp (I.stkSub b z) with e' | z
   ·have lt := Heap.lt_size e
    have ab : s.heap.objs.size <= b := e' ▸ I.ok.above
    exact absurd lt (Nat.not_lt.mpr ab)
   ·exact nb z
  ·obtain ⟨o', e'⟩ := I.base.there b o e (by intro z; cases z)
   exact F.free b o' e' (I.base.free b o e n (by intro z; cases z))
  ·cases q : s.heap.get? x with
   | none => rfl
   | some o =>
    obtain ⟨o', e'⟩ := I.base.there x o q (by intro z; cases z)
    rw [F.new] at e'
    cases e'
end
theorem As {K : Frag} {h : Heap} {mg : Str -> Option Value} {x : Str} {C : Addr} {bmB : List Value} {newId : String} (X : K.In h) (hm : mg x = some (.ref C)) (q : excIn K C bmB newId = true) : OwnCls x C bmB newId mg h := by
 unfold excIn at q
 cases hl : K.lookup C with
 | none => rw [hl] at q; cases q
 | some o =>
  rw [hl] at q
  split at q
  case h_2 => cases q
  case h_1 dd cd sl e =>
  cases e
  split at q
  case h_2 => cases q
  case h_1 C' bm k0 k1 k2 k3 n k5 hm' hs =>
  have hh := X _ _ hl
  simp only [Bool.and_eq_true, beq_iff_eq, Bool.not_eq_true'] at q
  obtain ⟨⟨⟨⟨⟨q1, q2⟩, q3⟩, q4⟩, q5⟩, q6⟩ := q
  cases cd
  cases q1; cases q2
  simp only at hm' q3 q5 q6
  cases hm'; cases q3
  rw [show sl = #[k0, k1, k2, k3, some (.builtin _), k5] from Array.toList_inj.mp hs] at hh
  exact ⟨hm, _, _, _, _, _, _, _, _, _, _, _, _, _, _, _, _, _, hh, .of_isNs (isNs_of_in X q5), nsMap_none_of_in X q5 q6, tail_of_in X q4⟩
section
variable {X : Cx} {Hin : Hp} {E : XK} {C : Addr} {bmB : List Value} {B newId initId : String} {x : Str} {z : Str} {j : Nat} {np p cpos pos : Pos}
def sA (Hin : Hp) (E : XK) (C : Addr) : TS := fun _ _ H => (∀ b, Hin b ≠ none -> H b = Hin b) /\ E (.ref C) none H
theorem sD (T : f6 X Hin E) (FB : ExcBaseFacts B newId initId bmB) (ec : excIn X.K C bmB newId = true) (hm : X.mg x = some (.ref C)) (hc : X.calm = true) (hg : Gl X x := by rfl) (hd : (x == ("__debug__" : Str)) = false := by decide)
  (he : starEach [.Constant (.str z) j p] X.env = [(false, eval (.Constant (.str z) j p) X.env)] := by rfl) :
  PS X (.Raise (some (.Call (.Name x np) [.Constant (.str z) j p] [] cpos)) none pos) (sA Hin E C) := by
 rintro pins s σ H D I ⟨fr, ec'⟩
 have O : OwnCls x C bmB newId X.mg s.heap := As I.kIn hm ec
 obtain ⟨tl, N, nm, q, bs, hdct, sn, sub, ab, col, dd, k0, k1, k2, k3, k5, mN, hC, hN, hni, TL⟩ := O.obj
 refine wpAny_Raise_call_subT (mN := mN) (nm := nm) (q := q) (C := C) (N := N) (bs := bs) (bm := tl) (hdct := hdct) (sn := sn) (sub := sub) (ab := ab) (col := col) (dd := dd) (k0 := k0) (k1 := k1) (k2 := k2) (k3 := k3) (k5 := k5) FB (TL.hasType FB.hasBase) (I.ok.hd hc) (by rw [he]; rfl) hni (fG I hg hm ⟨rfl, ?_⟩ hd)
 rw [he]
 refine Calls.evalArgs_plain ?_
 refine Calls.spliced_cons (Calls.Constant_str (k := j) (pos := p) (Calls.spliced_nil ⟨rfl, ?_, hC, hN, TL, fun h' e mk => ?_⟩))
 ·show 1 <= sizeLine
  rw [sizeLine_eq]; lia
 ·exact T.first pins σ H s h' e (.ref C) _ I mk fr ec' _
end
section
open Builtin Builtin.ObjectAttr Builtin.Getset_descriptor
def iy (K : Frag) (C : Addr) : Bool := (findIn K (.ref C) "__getattribute__" == some (some (.builtin "BaseException.__getattribute__"))) && (findIn K (.ref C) "__getattr__" == some none) && (findIn K (.ref C) "__class__" == some (some (.builtin "object.__class__"))) &&
 (specialIn K (.builtin "object.__class__") "__get__" == some (some (.builtin "getset_descriptor.__get__"))) && (takesIn K (.builtin "object.__class__") == some true) && (mroIn K C (.type "object") == some true) && (mroIn K C (.type "BaseException") == some true)
section
variable {prog : Program} {w : World} {A : Around} {E : Value -> Shared -> Prop} {s : Shared} {K : Frag} {x C : Addr} {o : Obj}
theorem nN {Q : Option Value -> Shared -> Prop} (X : K.In s.heap) (ho : s.heap.get? x = some o) (hc : o.cls = .ref C) (ok : iy K C = true) (h : Q (some (.ref C)) { s with toks := s.toks + 1 }) : wpAny (model prog w) A (getAttr? (.ref x) "__class__") Q E s := by
 obtain ⟨hp, g, d, tk, os⟩ := s
 simp only [iy, Bool.and_eq_true, beq_iff_eq] at ok
 obtain ⟨⟨⟨⟨⟨⟨o1, o2⟩, o3⟩, o4⟩, o5⟩, o6⟩, o7⟩ := ok
 have T0 : Looks (model prog w) hp (typeOf (.ref x)) (.ref C) := hc ▸ (Looks.ld ho).andThen .now
 have T1 := looks_findIn (M := model prog w) X o1
 have T2 := looks_findIn (M := model prog w) X o2
 have T3 : Looks (model prog w) hp (find (.ref x) (.ref C) "__class__") (.bind (.builtin "getset_descriptor.__get__") (.builtin "object.__class__")) :=
  (looks_findIn X o3).andThen ((show Looks (model prog w) hp (getOf (some (.builtin "object.__class__"))) _ from looks_specialIn X o4).andThen
   ((show Looks (model prog w) hp (dataDescriptor? (some (.builtin "object.__class__")) (some (.builtin "getset_descriptor.__get__"))) (some (.builtin "getset_descriptor.__get__", .builtin "object.__class__")) from (looks_takesIn X o5).andThen .now).andThen (Looks.tag .now)))
 have T6 := looks_mroIn (M := model prog w) X o6
 have T7 : Looks (model prog w) hp (isInstance (.ref x) (.type "BaseException")) true := T0.andThen (looks_mroIn X o7)
 have gets : ∀ (A : Around) (tk : Nat), wpAny (model prog w) A (call (.builtin "getset_descriptor.__get__") [.builtin "object.__class__", .ref x, .ref C]) (fun v s' => v = .ref C /\ s' = ⟨hp, g, d, tk, os⟩) (fun _ _ => False) ⟨hp, g, d, tk, os⟩ := fun A tk => by
  refine wpAny_call (codeAny_call_builtin KF.slot_gs.plain KF.entry_gs (KF.slot_gs.check _ _ _ _ _ _ _ _ KF.type_class (KF.args_gs _ _ _) ?_))
  simp only [Builtin.«getset_descriptor.__get__», descrGet, dga_obj]
  refine wpAny_bind (wpAny_pure ?_)
  simp only [descrGetter, descrCheckInstance, descrNameAndClass, isInstance, KF.owner_class]
  repeat lk
  exact ⟨Code.quiet_builtin _ (by decide +kernel), codeAny_builtin KF.entry_class (by simp only [Builtin.«object.__class__», shownTypeOf]; (repeat lk); exact ⟨rfl, rfl⟩)⟩
 have asks : ∀ (A : Around) (tk : Nat) (nt : Tok), wpAny (model prog w) A (call (.builtin "BaseException.__getattribute__") [.ref x, .str "__class__" nt]) (fun v s' => v = .ref C /\ s' = ⟨hp, g, d, tk, os⟩) (fun _ _ => False) ⟨hp, g, d, tk, os⟩ := fun A tk nt => by
  have kd : builtinKind "BaseException.__getattribute__" = some .slot := by decide +kernel
  have sp : splitId "BaseException.__getattribute__" = some ("BaseException", "__getattribute__") := by decide +kernel
  refine wpAny_call (codeAny_call_builtin (by decide +kernel) F.entry_bexc_ga ?_)
  simp only [checkBuiltinCall, kd, sp]
  refine wpAny_bind (T7.at ?_)
  have fits : (match Manifest.signature? "BaseException.__getattribute__" with
   | some sig => Bind.checkArgs "BaseException.__getattribute__" sig { pos := [Value.ref x, Value.str "__class__" nt] }
   | _ => pure ()) = pure () := F.args_bexc_ga (.ref x) (.str "__class__" nt)
  simp only [Bool.not_true, Bool.false_eq_true, if_false]
  refine (show _ = _ from fits) ▸ wpAny_pure ?_
  refine wpAny_bind (wpAny_pure (wpAny_bind (wpAny_pure (wpAny_bind (T0.at (wpAny_bind (T3.at ?_)))))))
  exact wpAny_bind (wpAny_mono (gets _ tk) (fun v s' zt1 => by obtain ⟨a, b⟩ := zt1; exact wpAny_pure ⟨a, b⟩) fun _ _ z => z.elim)
 have no : (Value.builtin "BaseException.__getattribute__" == Value.builtin "object.__getattribute__") = false := by decide +kernel
 simp only [getAttr?, getAttrBy?, getAttrBy]
 refine wpAny_bind (wpAny_mkText (wpAny_bind (wpAny_attempt (wpAny_holding (wpAny_bind (T0.at (wpAny_bind (T1.at ?_))))))))
 simp only [no, Bool.and_false, Bool.false_eq_true, if_false, getAttrByItsOwn, hookBefore, onTheHeap, if_true]
 refine wpAny_bind (T2.at (wpAny_bind (wpAny_attempt (wpAny_holding ?_))))
 simp only [callGetattribute, Bool.false_and, Bool.false_eq_true, if_false, boundAndCalled, F.attr_ValueError.ga.bind]
 refine wpAny_bind (wpAny_pure (wpAny_mono (asks A (tk + 1) tk) (fun v s' zr1 => ?_) fun _ _ z => z.elim))
 obtain ⟨a, b⟩ := zr1
 subst a b
 exact handed_on rfl (wpAny_pure h)
def ExcAt (x C : Addr) (h : Heap) : Prop := ∃ o, h.get? x = some o /\ o.cls = .ref C
theorem vI {cd : ClassData} (e : clsIn K C = some cd) : ∃ o, K.lookup C = some o /\ o.data = .cls cd := by
 unfold clsIn at e
 split at e
 ·next c d cd' sl q => cases e; exact ⟨_, q, rfl⟩
 ·cases e
theorem sE (hk : kitCls K (.ref C) (.ref C) = some true) (ok : iy K C = true) (hc : (clsIn K C).isSome = true) : KitX K (.ref x) (.ref C) (ExcAt x C) where
 ty := fun M h _ zt1 => by obtain ⟨o, e, c⟩ := zt1; exact c ▸ (Looks.ld e).andThen .now
 it := fun M h X _ => (kit_cls X hk).2.1
 ne := fun h tp dd its n sl X htp => by
  obtain ⟨cd, hcd⟩ := Option.isSome_iff_exists.mp hc
  obtain ⟨o, e, d⟩ := vI hcd
  refine Bool.eq_false_iff.mpr fun q => ?_
  cases beq_iff_eq.mp q
  have z := X _ _ e
  rw [htp] at z
  cases z
  cases d
 ca := fun X zt1 k => by obtain ⟨o, e, c⟩ := zt1; exact nN X e c ok k
end
end
section
variable {X : Cx} {pins : List (Addr × Obj)} {σ : St} {H H' : Hp} {s s' : Shared} {x : Addr} {cls a0 : Value} {B : Heap}
theorem Flies.on {h' : Heap} {tk : Nat} (I : Inv X pins σ H s) (f : Flies X.prog X.w X.stack H s x cls a0 B H' s') (fl : Heap.FlyingW B X.stack x cls a0 h') (up : s'.heap.UpToSlots h') : Flies X.prog X.w X.stack H s x cls a0 B H' { s' with heap := h', toks := tk } where
 os := f.os
 bare := f.bare
 fly := fl
 frm := fun b hb o e => by
  obtain ⟨sl, q⟩ := f.frm b hb o e
  obtain ⟨_, o', e', n⟩ := I.stack.mem hb
  rw [e] at e'; cases e'
  obtain ⟨sl', q'⟩ := up b _ q n
  exact ⟨sl', q'⟩
 hok := f.hok
 cov := f.cov
 same := f.same
 free := f.free
 new := f.new
theorem Inv.lands (I : Inv X pins σ H s) (f : Flies X.prog X.w X.stack H s x cls a0 B H' s') : Inv X pins σ H' s' :=
 I.call' (ch := []) f.os f.un f.hok' f.bare fun b z => by cases z
abbrev Cx.caught (X : Cx) (x : Addr) : Cx := { X with A := X.A.mark (some (.ref x)), calm := false }
theorem Inv.caught (I : Inv X pins σ H s) (x : Addr) : Inv (X.caught x) pins σ H s :=
 ⟨⟨I.ok.mod, I.ok.kind, I.ok.glob, I.ok.blt, I.ok.above, I.ok.inj, I.ok.has, I.ok.cab, fun z => Bool.noConfusion z, I.ok.frames, I.ok.stk, I.ok.exf, I.ok.bs, I.ok.bsz, I.ok.noex, I.ok.exfs, I.ok.funs, I.ok.frf⟩, I.os, I.bare, I.base, I.loc, I.cell, I.free, I.freeC, I.pin, I.hok, I.len⟩
theorem Inv.uncaught {x : Addr} (J : Inv (X.caught x) pins σ H s) (ok : X.Ok) : Inv X pins σ H s := ⟨ok, J.os, J.bare, J.base, J.loc, J.cell, J.free, J.freeC, J.pin, J.hok, J.len⟩
theorem vJ {M : Model} {A : Around} {E : Value -> Shared -> Prop} {i : Nat} {n : Str} {Q : Unit -> Shared -> Prop} (I : Inv X pins σ H s) (hN : X.N.Nodup) (hi : X.N[i]? = some n) (hk : X.env.scope.names.lookup n = some .local) (hv : σ[i]? = some (some v))
  (h : ∀ s', Inv X pins (σ.set i none) H s' -> Q () s') : wpAny M A (unbindName X.env n) Q E s := by
 obtain ⟨m, hn, hl⟩ := id I.loc
 obtain ⟨u, _, q⟩ := hl i n v hi hv (.inl hk)
 have hm : m n = some u := by
  rcases q with ⟨_, e⟩ | ⟨z, _⟩
  ·exact e
  ·have hk' : X.env.kindOf n = some .local := hk
   rw [hk'] at z
   rcases z with z | z <;> cases z
 have hcls : (X.env.scope.kind == .class || (X.env.scope.kind == .module && X.env.locals != X.env.globals)) = false := by rw [I.ok.kind]; rfl
 have hiσ : i < σ.length := by rw [I.len]; exact (List.getElem?_eq_some_iff.mp hi).1
 refine wpAny_unbindName_local hk hn hm hcls fun h' u' hn' hs => ?_
 have far : ∀ b o, X.s₀.heap.get? b = some o -> b ≠ X.env.locals := fun b o e => Nat.ne_of_lt (Nat.lt_of_lt_of_le (Heap.lt_size e) I.ok.above)
 refine h _ ⟨I.ok, I.os, I.bare, ⟨fun b o e n hb hx => (hs.2 b (far b o e)).trans (I.base.keep b o e n hb hx), fun b o e n hb hx => ?_, I.base.free, fun b o e hx => ?_, I.base.tups, I.base.frzs, I.base.tbls⟩, ⟨_, hn', fun j y v' e1 e2 e3 => ?_⟩, fun y c e => ?_, I.free, I.freeC, fun p hp => ?_, fun b ob e => ?_, by simpa using I.len⟩
 ·obtain ⟨sl, q⟩ := I.base.slot b o e n hb hx
  exact ⟨sl, (hs.2 b (far b o e)).trans q⟩
 ·obtain ⟨o', q⟩ := I.base.there b o e hx
  exact ⟨o', (hs.2 b (far b o e)).trans q⟩
 ·have hj : j ≠ i := fun z => by
   rw [z, List.getElem?_set_self hiσ] at e2
   cases e2
  rw [List.getElem?_set_ne (Ne.symm hj)] at e2
  obtain ⟨w', r', q⟩ := hl j y v' e1 e2 e3
  refine ⟨w', r', ?_⟩
  rcases q with ⟨k, e⟩ | ⟨k, c, e, z⟩
  ·have : y ≠ n := fun e => hj (iG hN e1 (e ▸ hi))
   exact .inl ⟨k, by simp [this, e]⟩
  ·exact .inr ⟨k, c, e, z.sameBut hs (I.cne y c e)⟩
 ·obtain ⟨w', z⟩ := I.cell y c e
  exact ⟨w', z.sameBut hs (I.cne y c e)⟩
 ·obtain ⟨e, n, ne, nf, d⟩ := I.pin p hp
  exact ⟨(hs.2 p.1 ne).trans e, n, ne, nf, d⟩
 ·refine (I.hok b ob e).stay (fun c w' hc q => (hs.2 c ?_).trans q) (fun _ q => q) fun _ _ q => q
  rintro rfl
  rcases hc with rfl | hc
  ·rw [I.free] at e; cases e
  ·rw [I.free] at hc; cases hc
end
section
variable {X : Cx} {k i : Nat} {f CB : Addr} {fd : FuncData} {ps : List Str} {sp : Sp} {e0 : Expr} {es : List Expr} {ta : TA} {x cb en : Str} {b0 : Stmt} {suite : List Stmt} {th : TS} {p pos pe np hp tp : Pos}
def unE (D : Ends) (i : Nat) : Ends := { nx := fun σ H => D.nx (σ.set i none) H, rt := D.rt, bk := fun σ H => D.bk (σ.set i none) H, ct := fun σ H => D.ct (σ.set i none) H }
def C7 (K : Frag) (CB : Addr) (sp : Sp) (ta : TA) (i : Nat) (th : TS) : TS := fun D σ H => ta σ H fun vs H1 => sp vs H1 (fun _ _ => False) fun c _ H' => ∃ C, c = .ref C /\ exmOne K (.ref C) (.ref CB) = some true /\
 ∀ y o, H' y = none -> o.cls = .ref C -> th (unE D i) (σ.set i (some (.ref y))) (upd H' y (.frz o (.own y)))
end
def eB (K : Frag) (C : Addr) : Bool := (kitCls K (.ref C) (.ref C) == some true) && iy K C && (clsIn K C).isSome
theorem eB.kit {K : Frag} {x C : Addr} (h : eB K C = true) : KitX K (.ref x) (.ref C) (ExcAt x C) := by
 simp only [eB, Bool.and_eq_true, beq_iff_eq] at h
 exact sE h.1.1 h.1.2 h.2
def qm : Value -> V
 | .ref C => .ref C
 | .type T => .ty T
 | _ => .non
def isC : Value -> Bool
 | .ref _ => true
 | .type _ => true
 | _ => false
theorem mD {c u : Value} (h : isC c = true) (r : RelV (qm c) u) : u = c := by
 match c, h, r with
 | .ref _, _, r => exact r
 | .type _, _, r => exact r
theorem j3 : ∀ {cs us : List Value}, cs.all isC = true -> Vals (cs.map qm) us -> us = cs
 | [], _, _, .nil => rfl
 | c :: cs, _, h, .cons r t => by
  simp only [List.all_cons, Bool.and_eq_true] at h
  rw [mD h.1 r, j3 h.2 t]
def sF (K : PySem.W.Frag) : List V -> Hp -> VK -> Prop := fun xs H Q => ∃ y o C c b, xs = [.ref y, c] /\ H y = some (.frz o (.own y)) /\ o.cls = .ref C /\ eB K C = true /\
 ((∃ cv, c = qm cv /\ isC cv = true /\ kitOne K (.ref C) cv = some b) \/ (∃ t cs, c = .ref t /\ SqT K H t (cs.map qm) /\ cs.all isC = true /\ kitAny K (.ref C) cs = some b)) /\ Q (.bl b) H
theorem j4 {X : Cx} : cE X (.builtin "isinstance") (sF X.K) := by
 rintro pins s σ H xs us Q I r ⟨y, o, C, c, b, e, hy, hc, ok, h, q⟩
 subst e
 obtain ⟨u, w', rfl, rx, rc⟩ := vals2 r
 cases rx
 have at_ : ExcAt y C s.heap := ⟨o, (show bu X.prog X.w H s.heap y (.frz o (.own y)) from I.hok y _ hy).1, hc⟩
 have fin : ∀ tk, EP X pins σ Q (.bool b) { s with toks := tk } := fun tk => ⟨.bl b, H, I.tok tk, rfl, q⟩
 rcases h with ⟨cv, rfl, hi, e⟩ | ⟨t, cs, rfl, hq, hi, e⟩
 ·rw [mD hi rc]
  exact PySem.W.kia_one (eB.kit ok) I.kIn at_ e (fun z => nomatch z) fin
 ·cases rc
  obtain ⟨its, r2, tp, _⟩ := I.tuple hq
  cases j3 hi r2
  obtain ⟨o2, h1, h2, n, h3⟩ := tp
  obtain ⟨oc, od, odt, osl⟩ := o2
  simp only at h2 h3
  subst h2; subst h3
  exact PySem.W.kia_tup (eB.kit ok) I.kIn at_ h1 e (fun z => nomatch z) fin
def jc : List Addr -> TA
 | [] => gF
 | c :: r => cF (tC (.ref c)) (jc r)
theorem mE : ∀ {cs : List Addr} {Q : List V -> Hp -> Prop}, Q (cs.map V.ref) H -> jc cs σ H Q
 | [], _, h => h
 | _ :: cs, _, h => mE (cs := cs) h
theorem sH {X : Cx} : PA X [] (jc []) := dw
theorem oZ {X : Cx} {n : Str} {p : Pos} {c : Addr} {es : List Expr} {cs : List Addr} (hm : X.mg n = some (.ref c)) (hr : PA X es (jc cs)) (hg : Gl X n := by rfl) (hd : (n == ("__debug__" : Str)) = false := by decide)
  (hs : starEach (.Name n p :: es) X.env = (false, eval (.Name n p) X.env) :: starEach es X.env := by rfl) : PA X (.Name n p :: es) (jc (c :: cs)) := bK (cy hg hm rfl hd) hr hs
end L2
namespace VL
open PySem L2 PySem.W
section
variable {K : PySem.W.Frag} {X : Cx} {m : Bool} {i : Nat} {en cn : Str} {p1 p2 p3 p4 pos : Pos} {es : List Expr} {cs : List Addr} {c : Value}
theorem C8 {H0 H : Hp} {C : Addr} (k : OK K H0 Z σ H S) (h : S[i]? = some (.val (.exc (.ref C)))) : ∃ y o, σ[i]? = some (some (.ref y)) /\ H y = some (.frz o (.own y)) /\ o.cls = .ref C := by
 obtain ⟨o, e, v, rfl, r⟩ := k.ownAt h
 cases r with | exc n hh hc => exact ⟨_, _, e, hh, hc⟩
def xZ (K : Frag) (i : Nat) (c : Value) : VT := fun S Q => ∃ C b, S[i]? = some (.val (.exc (.ref C))) /\ eB K C = true /\ kitOne K (.ref C) c = some b /\ Q (.d (.bl b)) S
theorem o8 (hK : X.K = K) (hc : isC c = true) (hcn : PE X (.Name cn p3) (tC (qm c))) (hi : X.N[i]? = some en) (hv : Vis X.env.scope en) (hg : Gl X "isinstance") (hm : X.mg "isinstance" = none) (hd : (en == ("__debug__" : Str)) = false := by decide) (hcd : (en == ("__classdict__" : Str)) = false := by decide)
  (he : starEach [.Name en p2, .Name cn p3] X.env = [(false, eval (.Name en p2) X.env), (false, eval (.Name cn p3) X.env)] := by rfl) :
  VE K X m (.Call (.Name "isinstance" p1) [.Name en p2, .Name cn p3] [] pos) (tCB (sF K) (cF (cS i) (cF (tC (qm c)) gF))) (xZ K i c) :=
 ⟨by subst hK; exact fI j4 hg hm aZ (bK (mZ hi hv hd hcd) (bK hcn dw)), fun H0 Z σ H S Q C k t hcc => by
  obtain ⟨C0, b, h1, h2, h3, q⟩ := t
  obtain ⟨y, o, e1, e2, e3⟩ := C8 k h1
  exact ⟨_, e1, y, o, C0, _, b, rfl, e2, e3, h2, .inl ⟨c, rfl, hc, h3⟩, hcc _ _ (.d (.bl b)) S k .refl (Rep.bl b) q⟩⟩
def x3 (K : Frag) (i : Nat) (cs : List Addr) : VT := fun S Q => ∃ C b, S[i]? = some (.val (.exc (.ref C))) /\ eB K C = true /\ kitAny K (.ref C) (cs.map Value.ref) = some b /\ Q (.d (.bl b)) S
theorem vK {x1} (hK : X.K = K) (hcs : PA X es (jc cs)) (hz : cs.length < 100) (hi : X.N[i]? = some en) (hv : Vis X.env.scope en) (hg : Gl X "isinstance") (hm : X.mg "isinstance" = none) (hd : (en == ("__debug__" : Str)) = false := by decide) (hcd : (en == ("__classdict__" : Str)) = false := by decide)
  (he : starEach [.Name en p2, .Tuple es x1 p3] X.env = [(false, eval (.Name en p2) X.env), (false, eval (.Tuple es x1 p3) X.env)] := by rfl) :
  VE K X m (.Call (.Name "isinstance" p1) [.Name en p2, .Tuple es x1 p3] [] pos) (tCB (sF K) (cF (cS i) (cF (uA (jc cs)) gF))) (x3 K i cs) :=
 ⟨by subst hK; exact fI j4 hg hm aZ (bK (mZ hi hv hd hcd) (bK (m8 hcs) dw)), fun H0 Z σ H S Q C k t hcc => by
  obtain ⟨C0, b, h1, h2, h3, q⟩ := t
  obtain ⟨y, o, e1, e2, e3⟩ := C8 k h1
  refine ⟨_, e1, mE ⟨by rw [List.length_map, sizeLine_eq]; lia, fun p hp => ?_⟩⟩
  have g := aU (o := .tup (cs.map V.ref)) hp
  refine ⟨y, o, C0, _, b, rfl, by rw [g y (by rw [e2]; simp)]; exact e2, e3, h2, .inr ⟨p, cs.map Value.ref, rfl, .inl (.inl ?_), by simp [isC], h3⟩, hcc _ _ (.d (.bl b)) S (k.grow g) (.grow g) (Rep.bl b) q⟩
  rw [aG, List.map_map]
  rfl⟩
end
end VL
namespace VL
open PySem L2 PySem.W
def spX (K : PySem.W.Frag) (bad : List D -> Addr -> Prop) : Sp := fun vs H _ E => ∃ ds C, Reps K Any AnyF H vs ds /\ bad ds C /\ ∀ H', (∀ a, H a ≠ none -> H' a = H a) -> E (.ref C) none H'
def kM (P : Program) (w : World) (K : PySem.W.Frag) (mg : Str -> Option Value) (base : Heap) (k : Nat) (x : Str) (ps : List Str) (bad : List D -> Addr -> Prop) : Prop :=
 ∃ (f : Addr) (fd : FuncData), ib P w K mg base (CX1 P w) k f fd ps (spX K bad) /\ mg x = some (.ref f) /\ PySem.W.keepIn K (.ref f) = true /\ Binds K fd ps []
def Fz (Hin : Hp) (Z : AP) (σ : St) (S : List Sl) (H : Hp) : Prop := ∀ a, Hin a ≠ none -> H a = Hin a /\ NM Z σ S a
theorem Fz.step {Hin H H' : Hp} {σ σ' : St} {S S' : List Sl} (f : Fz Hin Z σ S H) (st : Step Z σ S H σ' S' H') : Fz Hin Z σ' S' H' := fun a e => by
 obtain ⟨e1, n⟩ := f a e
 obtain ⟨e2, n2⟩ := st.1 a n (by rw [e1]; exact e)
 exact ⟨e2.trans e1, n2⟩
structure VXs (K : PySem.W.Frag) (X : Cx) (Hin : Hp) (E : XK) (sts : List Stmt) (ts : TS) (t : (Addr -> Prop) -> List Sl -> Prop) : Prop where
 ps : PSs X sts ts
 snd : ∀ Wc : Addr -> Prop, (∀ C, Wc C -> ∀ H', (∀ a, Hin a ≠ none -> H' a = Hin a) -> E (.ref C) none H') -> ∀ H0 Z σ H S D, OK K H0 Z σ H S -> Fz Hin Z σ S H -> t Wc S -> ts D σ H
section
variable {K : PySem.W.Frag} {X : Cx} {Hin : Hp} {E : XK} {sts rest A : List Stmt} {st : Stmt} {ts us : TS} {t u : (Addr -> Prop) -> List Sl -> Prop} {v : VTS} {pos : Pos}
theorem mF : VXs K X Hin E sts gA (fun _ _ => False) := ⟨gB, fun _ _ _ _ _ _ _ _ _ _ h => h.elim⟩
theorem df {C : Addr} {bmB : List Value} {B newId initId : String} {x z : Str} {j : Nat} {np p cpos pos : Pos} (T : f6 X Hin E) (FB : ExcBaseFacts B newId initId bmB) (ec : excIn X.K C bmB newId = true) (hm : X.mg x = some (.ref C)) (hc : X.calm = true) (hg : Gl X x := by rfl) (hd : (x == ("__debug__" : Str)) = false := by decide)
  (he : starEach [.Constant (.str z) j p] X.env = [(false, eval (.Constant (.str z) j p) X.env)] := by rfl) :
  VXs K X Hin E [.Raise (some (.Call (.Name x np) [.Constant (.str z) j p] [] cpos)) none pos] (sA Hin E C) (fun Wc _ => Wc C) :=
 ⟨ki (sD T FB ec hm hc hg hd he), fun Wc hE H0 Z σ H S D k f h => ⟨fun b e => (f b e).1, hE C h H fun b e => (f b e).1⟩⟩
theorem d8 (h1 : VS K X st ts v) (h2 : VXs K X Hin E rest us u) : VXs K X Hin E (st :: rest) (ke ts us) (fun Wc S => v { nx := u Wc, rt := fun _ _ => False } S) :=
 ⟨cT h1.ps h2.ps, fun Wc hE H0 Z σ H S D k f h => h1.snd H0 Z σ H S _ _ k h ⟨fun σ' H' S' k' st q => h2.snd Wc hE H0 Z σ' H' S' D k' (f.step st) q, fun _ _ _ _ _ q => q.elim, fun _ _ _ _ _ q => q.elim, fun _ _ _ _ _ _ _ _ q => q.elim⟩⟩
theorem jd {c : Expr} {tc : TT} {wc : VTT} (hc : VTe K X c tc wc) (ha : VXs K X Hin E A ts t) (hr : VXs K X Hin E rest us u) : VXs K X Hin E (.If c A [] pos :: rest) (ke (yG tc ts qz) us) (fun Wc S => wc S fun b S1 => if b = true then t Wc S1 else u Wc S1) :=
 ⟨cT (xl hc.pe ha.ps kh) hr.ps, fun Wc hE H0 Z σ H S D k f h => hc.snd H0 Z σ H S _ _ k h fun b H1 S1 k1 st1 q => by
  cases b with
  | true => rw [if_pos rfl] at q ⊢; exact ha.snd Wc hE H0 Z σ H1 S1 _ k1 (f.step st1) q
  | false => rw [if_neg Bool.false_ne_true] at q ⊢; exact hr.snd Wc hE H0 Z σ H1 S1 D k1 (f.step st1) q⟩
theorem sI {P : Program} {w : World} {mg : Str -> Option Value} {base : Heap} {x : Str} {st : Stmt} {N ps : List Str} {k : Nat} {bad : List D -> Addr -> Prop} (S : Src K mg x st) (sc : aS N ps (aj st))
  (hb : ∀ (kV doc pm : Value) (an : Option Addr) (cdv ct : Value) (us : List Value), us.length = ps.length -> bindArgs (PySem.W.fnOf x x (cz st) (bG st) (aj st) .none kV doc pm an cdv ct) ⟨us, []⟩ = pure (ps.zip us))
  (len : ∀ ds C, bad ds C -> ds.length = ps.length)
  (hbody : ∀ (f : Addr) (cdv : Value) (A : Around) (outer : List Env) (s : Shared) (H : Hp) (E : XK), b7 k (A.deeper (PyProof.Rows.envOfC x (aj st) s.heap.objs.size f cdv)) -> f6 (ig (CX1 P w) P w K mg base N x (aj st) f cdv A outer s H E) H E ->
   ∃ ts t, VXs K (ig (CX1 P w) P w K mg base N x (aj st) f cdv A outer s H E) H E (bG st) ts t /\ ∀ ds C, bad ds C -> t (· = C) (slots N.length ds)) : kM P w K mg base (k + 1) x ps bad := by
 obtain ⟨f, fd, F, hm⟩ := S
 obtain ⟨oc, od, kV, doc, pm, an, cdv, ct, osl, rfl, lk, hcd⟩ := F.ex
 refine ⟨f, _, xp lk hcd sc (fun vs H Q E zq1 => by obtain ⟨ds, C, r, h, _⟩ := zq1; rw [r.length]; exact len ds C h) fun A outer s H vs Q E hr ⟨ds, C, r, h, fin⟩ => ?_, hm, F.kp, F.binds hb⟩
 obtain ⟨ts, t, vx, q⟩ := hbody f cdv A outer s H E hr ql
 refine ⟨ts, vx.ps, vx.snd (· = C) (fun C' e H' g => by subst e; exact fin H' g) H _ _ H _ _ (mi (N := N) r) (fun a e => ⟨rfl, ?_⟩) (q ds C h)⟩
 rintro (⟨j, s, g1, g2, _⟩ | z)
 ·rw [cI g1] at g2; cases g2
 ·exact z
end
end VL
namespace VL
open PySem L2 PySem.W
section
variable {K : PySem.W.Frag} {H H0 : Hp} {Z : AP} {σ : St} {S : List Sl} {i : Nat}
theorem OK.letGo (k : OK K H0 Z σ H S) (hi : i < S.length) : OK K H0 Z (σ.set i none) H (S.set i .no) /\ Step Z σ S H (σ.set i none) (S.set i .no) H := by
 have n : ∀ a, NM Z σ S a -> NM Z (σ.set i none) (S.set i .no) a := fun a x z => by
  rcases iS z with z | ⟨z, _⟩
  ·exact x z
  ·cases z
 exact ⟨k.put hi (fun a x _ => ⟨n a x, rfl⟩) (fun _ _ _ _ _ _ _ => rfl) trivial (fun _ _ _ _ _ _ z => nomatch z) (fun _ e => e) k.zl (fun _ z => nomatch z), fun a x _ => ⟨rfl, n a x⟩, fun _ e => e, fun _ _ _ => rfl⟩
theorem NP.letGo {a : Addr} (h : NP σ S a) : NP (σ.set i none) (S.set i .no) a := fun j ad ns g1 g2 => by
 by_cases hj : i = j
 ·subst hj
  by_cases hl : i < S.length
  ·rw [List.getElem?_set_self hl] at g1; cases g1
  ·rw [List.getElem?_eq_none (by simpa using hl)] at g1; cases g1
 ·rw [List.getElem?_set_ne hj] at g1 g2
  exact h j ad ns g1 g2
def unV (V : bM) (i : Nat) : bM := { nx := fun S => i < S.length /\ V.nx (S.set i .no), rt := fun d S => i < S.length /\ V.rt d (S.set i .no), bk := fun S => i < S.length /\ V.bk (S.set i .no), ct := fun S => i < S.length /\ V.ct (S.set i .no) }
theorem Lf.letGo {V : bM} {E : Ends} (l : Lf K H0 Z σ S H V E) : Lf K H0 Z σ S H (unV V i) (unE E i) where
 nx := fun σ' H' S' k st zt1 => by obtain ⟨hi, q⟩ := zt1; exact l.nx _ _ _ (k.letGo hi).1 (st.trans (k.letGo hi).2) q
 bk := fun σ' H' S' k st zt1 => by obtain ⟨hi, q⟩ := zt1; exact l.bk _ _ _ (k.letGo hi).1 (st.trans (k.letGo hi).2) q
 ct := fun σ' H' S' k st zt1 => by obtain ⟨hi, q⟩ := zt1; exact l.ct _ _ _ (k.letGo hi).1 (st.trans (k.letGo hi).2) q
 rt := fun v d σ' H' S' k st r zt1 => by obtain ⟨hi, q⟩ := zt1; exact l.rt v d _ _ _ (k.letGo hi).1 (st.trans (k.letGo hi).2) (r.mono (fun a n _ => ⟨NP.letGo n, rfl⟩) fun _ x => x) q
end
section
variable {K : PySem.W.Frag} {X : Cx} {k j i : Nat} {CB : Addr} {ps : List Str} {bad : List D -> Addr -> Prop} {e0 : Expr} {es : List Expr} {tr : TA} {vr : VTA} {x cb en : Str} {b0 : Stmt} {suite : List Stmt} {th : TS} {vh : VTS} {p pos pe np hp tp : Pos}
def C9 (K : Frag) (CB : Addr) (bad : List D -> Addr -> Prop) (vr : VTA) (i : Nat) (vh : VTS) : VTS := fun V S => vr S fun rs S1 => i < S1.length /\ ∃ ds C, gets S1 rs = some ds /\ bad ds C /\ exmOne K (.ref C) (.ref CB) = some true /\ vh (unV V i) (S1.set i (.val (.exc (.ref C))))
end
end VL
end
section
namespace VL
open PySem L2 PySem.W
section
variable {i : Nat} {va : VT} {vr : VTA} {S : List Sl} {Q : VR -> List Sl -> Prop} {q : D -> Prop}
theorem sJ {K : Frag} {c : Value} {C : Addr} {b : Bool} (e : S[i]? = some (.val (.exc (.ref C)))) (ok : eB K C = true) (hk : kitOne K (.ref C) c = some b) (h : Q (.d (.bl b)) S) : xZ K i c S Q := ⟨C, b, e, ok, hk, h⟩
theorem Au {K : Frag} {cs : List Addr} {C : Addr} {b : Bool} (e : S[i]? = some (.val (.exc (.ref C)))) (ok : eB K C = true) (hk : kitAny K (.ref C) (cs.map Value.ref) = some b) (h : Q (.d (.bl b)) S) : x3 K i cs S Q := ⟨C, b, e, ok, hk, h⟩
end
end VL
namespace VL
open PySem L2 PySem.W
section
variable {K : PySem.W.Frag} {X : Cx} {a b : Expr} {ta tb : TE} {pos : Pos}
def x4 (t u : VTN) : VTN := fun S Q => t S fun ds S1 => u S1 fun es S2 => ds.length + es.length <= 1000000 /\ Q (ds ++ es) S2
theorem o9 {t u : VTN} (h1 : VN K X a ta t) (h2 : VN K X b tb u) : VN K X (.BinOp a .Add b pos) (tOp yY ta tb) (x4 t u) := ⟨oe qR h1.pe h2.pe, fun H0 Z σ H S Q C k t hc =>
 h1.snd H0 Z σ H S _ _ k t fun c us ds H1 H1' S1 k1 st1 ha1 hg1 hl1 rr1 t1 => h2.snd H0 Z σ H1' S1 _ _ (k1.grow hg1) t1 fun a' vs es H2 H' S2 k2 st2 ha hg hl rr zq1 => by
  obtain ⟨hlen, q⟩ := zq1
  obtain ⟨ec, nc2⟩ := st2.1 c (k1.nm ha1) (by simp [hl1])
  have ec' : H' c = some (.lst us) := by rw [hg c (by rw [ec, hl1]; simp), ec, hl1]
  have r1 : Reps K (NM Z σ S2) (Fr H0) H' us ds := ((rr1.mono (N' := NM Z σ S1) (fun b n e => ⟨n.1, rfl⟩) (fun _ x => x)).step st2).mono (fun b n e => ⟨n, hg b e⟩) fun _ x => x
  refine ⟨c, a', us, vs, rfl, rfl, ec', hl, by rw [rr1.length, rr.length, sizeLine_eq]; lia, fun p hp => ?_⟩
  refine hc p _ _ H' _ S2 (k2.grow hg) ((st1.trans (.grow hg1)).trans (st2.trans (.grow hg))) hp (aU hp) aG (Reps.append ?_ ?_) q
  ·exact bV hp (r1.mono (fun _ n _ => ⟨n, rfl⟩) fun _ x _ => x)
  ·exact bV hp (rr.mono (fun _ n _ => ⟨n.1, rfl⟩) fun _ x _ => x)⟩
@[irreducible] def kD1 (u : VTN) (Q : List D -> List Sl -> Prop) : List D -> List Sl -> Prop := fun ds S1 => u S1 fun es S2 => ds.length + es.length <= 1000000 /\ Q (ds ++ es) S2
@[irreducible] def kD2 (ds : List D) (Q : List D -> List Sl -> Prop) : List D -> List Sl -> Prop := fun es S2 => ds.length + es.length <= 1000000 /\ Q (ds ++ es) S2
theorem Av {t u : VTN} {Q : List D -> List Sl -> Prop} (h : t S (kD1 u Q)) : x4 t u S Q := by unfold kD1 at h; exact h
theorem Da {u : VTN} {Q : List D -> List Sl -> Prop} (h : u S (kD2 ds Q)) : kD1 u Q ds S := by unfold kD1; unfold kD2 at h; exact h
theorem x5 {ds es : List D} {Q : List D -> List Sl -> Prop} (hl : ds.length + es.length <= 1000000) (h : Q (ds ++ es) S) : kD2 ds Q es S := by unfold kD2; exact ⟨hl, h⟩
end
end VL
end
section
namespace L2
open PySem PySem.Spec PyProof.Rows PySem.W
abbrev lso (its : List Value) (k : Nat) : Obj := { cls := .type "list", data := .seq its.toArray k }
abbrev two_of (elt t1 i1 t2 i2 : Expr) (f1 f2 : List Expr) (scope : Scope) (pos : Pos) : Expr := .ListComp elt [⟨t1, i1, f1, 0⟩, ⟨t2, i2, f2, 0⟩] scope pos
section
variable {elt t1 i1 t2 i2 : Expr} {f1 f2 : List Expr} {scope : Scope} {pos : Pos}
theorem vL (it acc : Value) (env : Env) : compTurn (two_of elt t1 i1 t2 i2 f1 f2 scope pos) 1 it acc env = (do { standAt i2.pos; match <- pyNext it with | none => pure (.done .next) | some v => (do { letOwnedTupleGo t2 it v; assign t2 env v; let mut ok := true; for c in f2 do { if ok then { ok <- isTrue c env (eval c env) } }; if ok then { (do { let _ <- call (.builtin "list.append") [acc, <- eval elt env] }) }; again (.compLoop (two_of elt t1 i1 t2 i2 f1 f2 scope pos) 1 it acc env) }) }) := by rfl
theorem mG (it acc : Value) (env : Env) : compTurn (two_of elt t1 i1 t2 i2 f1 f2 scope pos) 0 it acc env = (do { standAt i1.pos; match <- pyNext it with | none => pure (.done .next) | some v => (do { letOwnedTupleGo t1 it v; assign t1 env v; let mut ok := true; for c in f1 do { if ok then { ok <- isTrue c env (eval c env) } }; if ok then { let x <- eval i2 env; standAt i2.pos; let x <- foldedSetIterable i2 env x; let _ <- runOwn (.compStart (two_of elt t1 i1 t2 i2 f1 f2 scope pos) 1 (<- holding [x] (pyIter x)) acc env) env }; again (.compLoop (two_of elt t1 i1 t2 i2 f1 f2 scope pos) 0 it acc env) }) }) := by rfl
theorem sL {P : Program} {w : World} {A : Around} {R : Result -> Shared -> Prop} {s : Shared} {it acc : Value} {env : Env} (h0 : codeAny (model P w) A (.compLoop (two_of elt t1 i1 t2 i2 f1 f2 scope pos) 1 it acc env) R s)
  (h : wpAny (model P w) A (pyIter it) (fun y s' => codeAny (model P w) A (.compLoop (two_of elt t1 i1 t2 i2 f1 f2 scope pos) 1 y acc env) R s') (notedBy (model P w) A env fun x s' => R (.error x) s') s) :
  codeAny (model P w) A (.compStart (two_of elt t1 i1 t2 i2 f1 f2 scope pos) 1 it acc env) R s := by
 refine codeAny_of_tree (wpAny_notedAt (m := compStart (two_of elt t1 i1 t2 i2 f1 f2 scope pos) 1 it acc env) ?_)
 unfold compStart
 refine (show wpAny _ _ (ask >>= _) _ _ s from wpAny_bind (wpAny_askSetting (wpAny_ite ?_)))
 split
 ·exact wpAny_pure ⟨rfl, h0⟩
 ·exact wpAny_bind (wpAny_rule (wpAny_bind (m := standAt i2.pos) (wpAny_standAt (wpAny_bind (wpAny_mono h (fun y s' q => wpAny_pure ⟨rfl, q⟩) fun _ _ x => x)))))
def tIn (wi : TI) (g : TG) (tc : TT) (te : TE) (σ : St) (ys : List V) (Nx : List V -> Hp -> Prop) (H : Hp) : Prop := wi σ H fun J H1 => ∃ W : Nat -> Nat -> List V -> Hp -> Prop, (∃ m, W 0 m ys H1) /\ ∀ j m zs H2, W j m zs H2 ->
 (J.stop j H2 /\ Nx zs H2) \/ (J.go j H2 /\ zs.length < sizeLine /\ ∃ N2 : List V -> Hp -> Prop, (∀ zs' H', N2 zs' H' -> ∃ m', m' < m /\ W (j + 1) m' zs' H') /\
  ∀ x H3, J.yld j H2 x H3 -> g x σ H3 fun σ4 H4 => tc σ4 H4 fun b H5 => if b = true then te σ4 H5 fun v H6 => N2 (zs ++ [v]) H6 else N2 zs H5)
def sM (σ : St) (g : TG) : Prop := ∀ x H Q, g x σ H Q -> g x σ H fun σ2 H2 => (σ2.length = σ.length /\ ∀ (i : Nat) (v : V), σ[i]? = some (some v) -> σ2[i]? = some (some v)) /\ Q σ2 H2
theorem pb {Y : Cx} {wi : TI} {g : TG} {tc : TT} {te : TE} {s : Shared} {D : Addr} {ys : List V} {its : List Value} {k : Nat} {Nx : List V -> Hp -> Prop} (hcalm : Y.calm = true) (hxe : ∀ e s, ¬Y.xe e s)
  (hi : PI Y t2 i2 wi) (hg : PG Y t2 g) (hc : PTs Y f2 tc) (he : PE Y elt te) (kg : sM σ g) (I : Inv Y pins σ H s) (dL : D ≠ Y.env.locals) (dF : D ∉ Y.fs) (dS : Y.s₀.heap.objs.size <= D) (dC : ∀ x c, Y.env.cells.lookup x = some c -> c ≠ D)
  (dP : ∀ p ∈ Y.pn ++ pins, p.1 ≠ D) (dn : H D = none) (dg : s.heap.get? D = some (lso its k)) (vy : Vals ys its) (h : tIn wi g tc te σ ys Nx H) (hs : ∀ x, foldedSetIterable i2 Y.env x = pure x) {α : Type} {r : Sem α} {Q : α -> Shared -> Prop} {E : Value -> Shared -> Prop}
  (fin : ∀ s' ys' its' k' H', Inv Y pins σ H' s' -> H' D = none -> s'.heap.get? D = some (lso its' k') -> Vals ys' its' -> Nx ys' H' -> wpAny (model Y.prog Y.w) Y.A r Q E s') :
  wpAny (model Y.prog Y.w) Y.A (do { let x <- eval i2 Y.env; standAt i2.pos; let x <- foldedSetIterable i2 Y.env x; let _ <- runOwn (.compStart (two_of elt t1 i1 t2 i2 f1 f2 scope pos) 1 (<- holding [x] (pyIter x)) (.ref D) Y.env) Y.env; r }) Q E s := by
 have nc : ∀ (its : List Value) (k : Nat) v, (lso its k).data ≠ .cell v := fun its k v z => by have z' : Data.seq _ _ = Data.cell v := z; cases z'
 have pinD : ∀ {H' : Hp} {s' : Shared} {its' : List Value} {k' : Nat}, Inv Y pins σ H' s' -> H' D = none -> s'.heap.get? D = some (lso its' k') -> Inv Y (pins ++ [(D, lso its' k')]) σ H' s' := fun I' n' g' => I'.pins_of fun p hp => by
  rcases List.mem_append.mp hp with hp | hp
  ·exact I'.pin p (List.mem_append_right _ hp)
  ·rw [List.mem_singleton.mp hp]; exact ⟨g', n', dL, dF, nc _ _⟩
 refine wpAny_bind (wpAny_mono (hi _ s σ H _ (pinD I dn dg) h) (fun v s1 h1 => ?_) fun e s z => (hxe e s z).elim)
 refine wpAny_bind (wpAny_standAt ?_)
 rw [hs]
 refine wpAny_bind (wpAny_pure (wpAny_bind (wpAny_holding (wpAny_mono h1 (fun itv s2 h2 => ?_) fun e s z => (hxe e s z).elim))))
 obtain ⟨it, fp, tn, J, H2, rfl, I2, T, st2, f2', W, ⟨m0, w0⟩, turn⟩ := h2
 have Dfp : D ∉ fp := fun z => (f2' D z).2.2.2.2.2 (D, lso its k) (List.mem_append_right _ (List.mem_append_right _ List.mem_cons_self)) rfl
 have stat : ∀ {H' : Hp} {its' : List Value} {k' : Nat}, (∀ b ∈ fp, H' b = none) -> ∀ b ∈ fp, eE Y (pins ++ [(D, lso its' k')]) H' b := fun hn b hb => by
  obtain ⟨_, a1, a2, a3, a4, a5⟩ := f2' b hb
  refine ⟨hn b hb, a1, a2, a3, a4, fun p hp z => ?_⟩
  rcases List.mem_append.mp hp with hp | hp
  ·exact a5 p (List.mem_append_left _ hp) z
  ·rcases List.mem_append.mp hp with hp | hp
   ·exact a5 p (List.mem_append_right _ (List.mem_append_left _ hp)) z
   ·rw [List.mem_singleton.mp hp] at z; have z : D = b := z; exact Dfp (z ▸ hb)
 have d2 := I2.pin (D, lso its k) (List.mem_append_right _ (List.mem_append_right _ List.mem_cons_self))
 have loop : codeAny (model Y.prog Y.w) Y.A (.compLoop (two_of elt t1 i1 t2 i2 f1 f2 scope pos) 1 (.ref it) (.ref D) Y.env) (fun res s' => match res with | .ok _ => wpAny (model Y.prog Y.w) Y.A r Q E s' | .error e => cameBackBy (model Y.prog Y.w) Y.A Y.env E e s') s2 := by
  refine codeAny_loop rfl (fun n s' => ∃ j zs its k H', Inv Y pins σ H' s' /\ tn j s'.heap /\ (∀ b ∈ fp, H' b = none) /\ H' D = none /\ s'.heap.get? D = some (lso its k) /\ Vals zs its /\ W j n zs H') ?_ m0 ⟨0, ys, its, k, H2, I2.unpinned, st2, fun b hb => (f2' b hb).1, d2.2.1, d2.1, vy, w0⟩
  rintro n s5 ⟨j, zs, its5, k5, H5, I5, st5, fr5, d5, o5, v5, w5⟩
  refine wpAny_noted (m := compTurn (two_of elt t1 i1 t2 i2 f1 f2 scope pos) 1 (.ref it) (.ref D) Y.env) ?_
  rw [vL]
  have pin0 := pinD I5 d5 o5
  refine wpAny_bind (wpAny_standAt (wpAny_bind ?_))
  rcases turn j n zs H5 w5 with ⟨stop, qn⟩ | ⟨go, hz, N2, hN, step⟩
  ·refine thn (T.done Y rfl rfl rfl hcalm j _ s5 _ H5 _ pin0 (stat fr5) st5 stop) fun r s6 zr1 => ?_
   obtain ⟨hr, I6⟩ := zr1
   subst hr
   have d6 := I6.pin (D, lso its5 k5) (List.mem_append_right _ (List.mem_append_right _ List.mem_cons_self))
   exact wpAny_pure (fin s6 zs its5 k5 H5 I6.unpinned d5 d6.1 v5 qn)
  ·refine thn (T.item Y rfl rfl rfl hcalm j _ s5 _ H5 _ pin0 (stat fr5) st5 go) fun r s6 zr1 => ?_
   obtain ⟨u, hr, h6⟩ := zr1
   subst hr
   refine wpAny_bind (thn h6 fun _ s7 zr1 => ?_)
   obtain ⟨x, H7, I7, r7, y7, st7, fr7⟩ := zr1
   have I7' := I7.pinned (stat fr7) (T.obj _ _ st7)
   have pinsOf : ∀ {σ' : St} {H' : Hp} {s' : Shared}, Inv Y ((pins ++ [(D, lso its5 k5)]) ++ cK fp s7.heap) σ' H' s' ->
     (∀ b ∈ fp, ∀ o, s7.heap.get? b = some o -> s'.heap.get? b = some o) /\ (∀ b ∈ fp, H' b = none) /\ H' D = none /\ s'.heap.get? D = some (lso its5 k5) := by
    intro σ' H' s' I'
    have dd := I'.pin (D, lso its5 k5) (List.mem_append_right _ (List.mem_append_left _ (List.mem_append_right _ List.mem_cons_self)))
    refine ⟨fun b hb o e => (I'.pin (b, o) (List.mem_append_right _ (List.mem_append_right _ (bh hb e)))).1, fun b hb => ?_, dd.2.1, dd.1⟩
    obtain ⟨o, e, d⟩ := T.obj _ _ st7 b hb
    exact (I'.pin (b, o) (List.mem_append_right _ (List.mem_append_right _ (bh hb e)))).2.1
   have again : ∀ {σ2 : St} {H8 : Hp} {s8 : Shared} {zs' : List V} {its' : List Value} {k' : Nat}, Inv Y pins σ2 H8 s8 -> (σ2.length = σ.length /\ ∀ (i : Nat) (v : V), σ[i]? = some (some v) -> σ2[i]? = some (some v)) -> (∀ b ∈ fp, ∀ o, s7.heap.get? b = some o -> s8.heap.get? b = some o) -> (∀ b ∈ fp, H8 b = none) ->
     H8 D = none -> s8.heap.get? D = some (lso its' k') -> Vals zs' its' -> N2 zs' H8 -> ∃ m, m < n /\ ∃ j zs its k H', Inv Y pins σ H' s8 /\ tn j s8.heap /\ (∀ b ∈ fp, H' b = none) /\ H' D = none /\ s8.heap.get? D = some (lso its k) /\ Vals zs its /\ W j m zs H' := by
    intro σ2 H8 s8 zs' its' k' I8 kp fk fn dn' dg' vv nx
    obtain ⟨m', hm, w8⟩ := hN zs' H8 nx
    exact ⟨m', hm, j + 1, zs', its', k', H8, I8.weak kp.1.symm kp.2, T.keep _ _ _ st7 fk, fn, dn', dg', vv, w8⟩
   refine wpAny_bind (wpAny_mono (hg _ s7 _ H7 x u _ I7' r7 (kg x H7 _ (step x H7 y7))) (fun _ s8 zr1 => ?_) fun e s z => (hxe e s z).elim)
   obtain ⟨σ8, H8, I8, kp8, q8⟩ := zr1
   refine wpAny_bind (wpAny_mono (hc _ s8 σ8 H8 _ I8 q8) (fun ok s9 zr1 => ?_) fun e s z => (hxe e s z).elim)
   obtain ⟨H9, I9, q9⟩ := zr1
   cases ok with
   | false =>
    obtain ⟨p1, p2, p3, p4⟩ := pinsOf I9
    exact wpAny_pure ⟨rfl, again I9.unpinned.unpinned kp8 p1 p2 p3 p4 v5 q9⟩
   | true =>
    have q9 : te σ8 H9 fun v H6 => N2 (zs ++ [v]) H6 := q9
    refine wpAny_bind (wpAny_bind (wpAny_mono (he _ s9 σ8 H9 _ I9 q9) (fun y s10 zr1 => ?_) fun e s z => (hxe e s z).elim))
    obtain ⟨v, H10, I10, rv, nx⟩ := zr1
    obtain ⟨p1, p2, p3, p4⟩ := pinsOf I10
    have hl5 := v5.length
    refine wpAny_bind (call_meets F.slot_list_append ⟨_, p4, rfl⟩ F.entry_list_append (F.args_list_append_2 _ _) (PySem.list_append D its5.toArray k5 y (by rw [List.size_toArray]; lia)) ⟨p4, ?_⟩)
    have g10 := PySem.IsL.update p4 (·.push y)
    rw [show its5.toArray.push y = (its5 ++ [y]).toArray by simp] at g10
    have I12 : Inv Y pins σ8 H10 { s10 with heap := s10.heap.update D (Obj.mapSeq (·.push y)) } :=
     I10.unpinned.unpinned.turned (t' := s10.toks) (fun b o hb e => (Heap.get?_update_other s10.heap (Obj.mapSeq (·.push y)) (Ne.symm hb)).trans e) p3 dL (.inr dS) dC dP
    refine wpAny_pure (wpAny_pure ⟨rfl, again (its' := its5 ++ [y]) I12 kp8 (fun b hb o e => ?_) p2 p3 g10 (v5.append (.cons rv .nil)) nx⟩)
    exact (Heap.get?_update_other s10.heap (Obj.mapSeq (·.push y)) (fun z : D = b => Dfp (z ▸ hb))).trans (p1 b hb o e)
 refine wpAny_bind (wpAny_runOwn (sL (A := Y.A) loop (T.self _ 0 _ _ _ st2 loop)))
end
section
variable {X : Cx}
def kN (wi : TI) (n : Nat) (ix : List Nat) (g : TG) (tc : TT) (wi2 : TI) (g2 : TG) (tc2 : TT) (te : TE) : TE := fun σ H Q => wi σ H fun J H1 => ∃ W : Nat -> Nat -> List V -> Hp -> Prop, (∃ m, W 0 m [] H1) /\ ∀ i m ys H2, W i m ys H2 ->
 (J.stop i H2 /\ ys.length <= sizeLine /\ ∀ D, H2 D = none -> Q (.ref D) (upd H2 D (.lst ys))) \/
 (J.go i H2 /\ ∃ Nx : List V -> Hp -> Prop, (∀ ys' H', Nx ys' H' -> ∃ m', m' < m /\ W (i + 1) m' ys' H') /\
  ∀ x H3, J.yld i H2 x H3 -> g x (capt n ix σ) H3 fun σ2 H4 => tc σ2 H4 fun b H5 => if b = true then tIn wi2 g2 tc2 te σ2 ys Nx H5 else Nx ys H5)
def je (n : Nat) (ix : List Nat) (g g2 : TG) : Prop := ∀ x σ H Q, g x (capt n ix σ) H Q -> g x (capt n ix σ) H fun σ2 H2 => ((σ2.length = (capt n ix σ).length /\ ∀ (i : Nat) (v : V), (capt n ix σ)[i]? = some (some v) -> σ2[i]? = some (some v)) /\ sM σ2 g2) /\ Q σ2 H2
theorem f7 {n : Nat} {a b : Nat} (ha : a < n) (hb : b < n) (hab : a ≠ b) : je n ix (bL a) (bL b) := fun x σ H Q q => by
 obtain ⟨kp, q⟩ := aN ha x σ H Q q
 refine ⟨⟨kp, fun y H' Q' q' => ⟨⟨by simp, fun i v e => ?_⟩, q'⟩⟩, q⟩
 by_cases hi : b = i
 ·subst hi
  rw [List.getElem?_set_ne hab] at e
  exact (eV hb e).elim
 ·rw [List.getElem?_set_ne hi]; exact e
theorem sN {elt t1 i1 t2 i2 : Expr} {f1 f2 : List Expr} {scope : Scope} {pos : Pos} {tg cs : List Str} {wi wi2 : TI} {g g2 : TG} {tc tc2 : TT} {te : TE} (S : bt X scope tg cs ix) (hcalm : X.calm = true) (kg : je tg.length ix g g2)
    (hi : PI X t1 i1 wi) (hg : ∀ C fp s H, PG (aq X scope (tg ++ cs) C fp s H) t1 g) (hc : ∀ C fp s H, PTs (aq X scope (tg ++ cs) C fp s H) f1 tc) (hi2 : ∀ C fp s H, PI (aq X scope (tg ++ cs) C fp s H) t2 i2 wi2) (hg2 : ∀ C fp s H, PG (aq X scope (tg ++ cs) C fp s H) t2 g2) (hc2 : ∀ C fp s H, PTs (aq X scope (tg ++ cs) C fp s H) f2 tc2) (he : ∀ C fp s H, PE (aq X scope (tg ++ cs) C fp s H) elt te)
    (hs : ∀ x, foldedSetIterable i1 X.env x = pure x := by intro _; rfl) (hs2 : ∀ (e : Env) x, foldedSetIterable i2 e x = pure x := by intro _ _; rfl) : PE X (two_of elt t1 i1 t2 i2 f1 f2 scope pos) (kN wi tg.length ix g tc wi2 g2 tc2 te) := by
  intro pins s σ H Q I h
  rw [eval_ListComp]
  refine wpAny_comprehension_free (use := none) (cl := b6 X.env scope.names []) rfl hs (fx fun n hn => I.ok.has n (S.out n hn)) S.kind S.names ?_
  refine wpAny_mono (hi pins s σ H _ I h) (fun v s1 h1 => wpAny_mono h1 (fun itv s2 h2 => ?_) fun _ _ e => e) fun _ _ e => e
  obtain ⟨it, fp, tn, J, H2, rfl, I2, T, st2, fpk, W, ⟨m0, w0⟩, turn⟩ := h2
  refine wpAny_newObj_type (wpAny_newFunctionEnv S.nocell (by intro y hy; simp at hy) (fun h1 hns1 hsb1 => ?_) S.kind)
  dsimp only at hns1 hsb1 ⊢
  generalize hP : s2.heap.push { cls := .type "list", dict := none, data := .seq ([] : List Value).toArray } = P2 at hns1 hsb1 ⊢
  have hCs : P2.objs.size = s2.heap.objs.size + 1 := by rw [<- hP, Heap.size_push]
  have hDC : s2.heap.objs.size ≠ P2.objs.size := by rw [hCs]; exact Nat.ne_of_lt (Nat.lt_succ_self _)
  have hCle : s2.heap.objs.size <= P2.objs.size := by rw [hCs]; exact Nat.le_succ _
  generalize hCg : P2.objs.size = C at *
  have old : ∀ b o, s2.heap.get? b = some o -> h1.get? b = some o := fun b o e => hsb1.extBut b o (Nat.ne_of_lt (Nat.lt_of_lt_of_le (Heap.lt_size e) hCle)) (Heap.get?_push_of_some _ (hP ▸ Heap.get?_push_of_some _ e))
  generalize hDg : s2.heap.objs.size = D at *
  have hD0 : h1.get? D = some { cls := .type "list", data := .seq ([] : List Value).toArray 0 } := hsb1.extBut _ _ hDC (Heap.get?_push_of_some _ (hP ▸ hDg ▸ Heap.get?_push_size _ rfl))
  have nC : H2 C = none := I2.hok.fresh (by rw [hDg]; exact hCle)
  have nD : H2 D = none := I2.hok.fresh (by rw [hDg]; exact Nat.le_refl _)
  have fo : ∀ b ∈ fp, ∃ o, s2.heap.get? b = some o := fun b hb => let ⟨o, e, _⟩ := T.obj _ _ st2 b hb; ⟨o, e⟩
  have Dfp : D ∉ fp := fun z => by
    obtain ⟨o, e⟩ := fo D z
    have := Heap.lt_size e
    rw [hDg] at this
    exact absurd this (Nat.lt_irrefl _)
  have Dfs : D ∉ frs X.stack := fun z => by
    rcases List.mem_cons.mp (I2.stkSub D z) with e | e
    · have := I2.lt
      rw [<- e, hDg] at this
      exact absurd this (Nat.lt_irrefl _)
    · exact I2.nofs (by rw [hDg]; exact Nat.le_refl _) e
  have DcY : ∀ x c, (b6 X.env scope.names []).lookup x = some c -> c ≠ D := fun x c e => by
    rcases eG (PySem.mem_of_lookup e) with h | h
    · cases h
    · exact (I2.fpOk (H' := H2) (b := D) (by rw [hDg]; exact Nat.le_refl _) nD).2.2.2.2.1 x c h
  -- the block's context
  have Yok : ∀ s4 : Shared, s4 = { s2 with heap := h1, toks := s2.toks + ([] : List (Str × Value)).length } -> Inv (aq X scope (tg ++ cs) C fp s2 H2) [] (capt tg.length ix σ) H2 s4 := by
    rintro s4 rfl
    exact iL S I2 fpk fo (by rw [hDg]; exact hCle) old (by simpa using hns1) rfl I2.bare nC
  -- the loop
  have loop : ∀ s4 : Shared, s4 = { s2 with heap := h1, toks := s2.toks + ([] : List (Str × Value)).length } ->
      codeAny (model X.prog X.w) X.A (.compLoop (two_of elt t1 i1 t2 i2 f1 f2 scope pos) 0 (.ref it) (.ref D) (compEnvC scope (b6 X.env scope.names []) C X.env)) (compPost (model X.prog X.w) X.A X.xe none (EP X pins σ Q) (.ref D) C) s4 := by
    intro s4 e4
    refine codeAny_loop rfl (fun n s' => ∃ i ys its k H', Inv (aq X scope (tg ++ cs) C fp s2 H2) [] (capt tg.length ix σ) H' s' /\ tn i s'.heap /\ (∀ b ∈ fp, H' b = none) /\ H' D = none /\ s'.heap.get? D = some (lso its k) /\ Vals ys its /\ W i n ys H')
      ?_ m0 ⟨0, [], [], 0, H2, Yok s4 e4, ?_, fun b hb => (fpk b hb).1, nD, by rw [e4]; exact hD0, .nil, w0⟩
    · rintro n s5 ⟨i, ys, its, k, H5, I5, st5, fr5, d5, o5, v5, w5⟩
      show wpAny _ X.A ((compTurn (two_of elt t1 i1 t2 i2 f1 f2 scope pos) 0 (.ref it) (.ref D) (compEnvC scope (b6 X.env scope.names []) C X.env)).onRaise (fun x => do noteFrame x (compEnvC scope (b6 X.env scope.names []) C X.env); theTreesLotGoes x)) _ _ s5
      refine wpAny_noted ?_
      rw [mG]
      have pin0 : Inv (aq X scope (tg ++ cs) C fp s2 H2) [(D, (lso its k))] (capt tg.length ix σ) H5 s5 := I5.pins_of fun p hp => by
        have e : p = (D, (lso its k)) := by simpa using hp
        subst e
        exact ⟨o5, d5, hDC, Dfs, fun v z => by have z' : Data.seq _ _ = Data.cell v := z; cases z'⟩
      have fpY : ∀ {H' : Hp}, (∀ b ∈ fp, H' b = none) -> ∀ b ∈ fp, eE (aq X scope (tg ++ cs) C fp s2 H2) [(D, (lso its k))] H' b := fun hn b hb =>
        ⟨hn b hb, (I5.ok.exf b hb).1, fun z => I5.ok.exfs b hb z, .inl hb, (I5.ok.exf b hb).2, fun p hp z => by
          have hp : p ∈ ([] : List (Addr × Obj)) ++ [(D, (lso its k))] := hp
          have e : p = (D, (lso its k)) := by simpa using hp
          subst e
          have z : D = b := z
          exact Dfp (z ▸ hb)⟩
      refine wpAny_bind (wpAny_standAt (wpAny_bind ?_))
      rcases turn i n ys H5 w5 with ⟨stop, hz, qn⟩ | ⟨go, Nx, hN, step⟩
      · refine thn (T.done (aq X scope (tg ++ cs) C fp s2 H2) rfl rfl rfl hcalm i _ s5 _ H5 _ pin0 (fpY fr5) st5 stop) fun r s6 zr1 => ?_
        obtain ⟨hr, I6⟩ := zr1
        subst hr
        refine wpAny_pure ?_
        obtain ⟨mC, hnsC, _⟩ := id I6.loc
        refine ⟨mC, hnsC, fun h' sb => ?_⟩
        have IX : Inv X pins σ H5 s6 := I2.call' (ch := fp) I6.os I6.base I6.hok I6.bare fun b hb => let ⟨_, a1, _, a3, a4, a5⟩ := fpk b hb; ⟨a3, a1, a4, a5⟩
        obtain ⟨_, c1, _, c3, c4, c5⟩ := I2.fpOk (H' := H5) (b := C) (by rw [hDg]; exact hCle) I6.free
        have IX2 : Inv X pins σ H5 { s6 with heap := h' } := IX.turned (t' := s6.toks) (fun b o hb e => (sb.2 b hb).trans e) I6.free c1 c3 c4 c5
        obtain ⟨_, b1, _, b3, b4, b5⟩ := I2.fpOk (H' := H5) (b := D) (by rw [hDg]; exact Nat.le_refl _) d5
        have gD : h'.get? D = some (lso its k) := (sb.2 D hDC).trans (I6.pin (D, (lso its k)) (List.mem_append_right _ List.mem_cons_self)).1
        exact ⟨.ref D, upd H5 D (.lst ys), IX2.track d5 (by rw [<- hDg]; exact I2.sz) b1 b4 b5 ⟨hz, its, k, v5, gD⟩, rfl, qn D d5⟩
      · refine thn (T.item (aq X scope (tg ++ cs) C fp s2 H2) rfl rfl rfl hcalm i _ s5 _ H5 _ pin0 (fpY fr5) st5 go) fun r s6 zr1 => ?_
        obtain ⟨u, hr, h6⟩ := zr1
        subst hr
        refine wpAny_bind (thn h6 fun _ s7 zr1 => ?_)
        obtain ⟨x, H7, I7, r7, y7, st7, fr7⟩ := zr1
        have I7' := I7.pinned (fpY fr7) (T.obj _ _ st7)
        -- the next turn
        have again : ∀ {σ2 : St} {H8 : Hp} {s8 : Shared} {ys' : List V} {its' : List Value} {k' : Nat} , Inv (aq X scope (tg ++ cs) C fp s2 H2) [] σ2 H8 s8 -> (σ2.length = (capt tg.length ix σ).length /\ ∀ (i : Nat) (v : V), (capt tg.length ix σ)[i]? = some (some v) -> σ2[i]? = some (some v)) ->
            (∀ b ∈ fp, ∀ o, s7.heap.get? b = some o -> s8.heap.get? b = some o) -> (∀ b ∈ fp, H8 b = none) -> H8 D = none -> s8.heap.get? D = some (lso its' k') -> Vals ys' its' -> Nx ys' H8 ->
            ∃ m, m < n /\ ∃ i ys its k H', Inv (aq X scope (tg ++ cs) C fp s2 H2) [] (capt tg.length ix σ) H' s8 /\ tn i s8.heap /\ (∀ b ∈ fp, H' b = none) /\ H' D = none /\ s8.heap.get? D = some (lso its k) /\ Vals ys its /\ W i m ys H' := by
          intro σ2 H8 s8 ys' its' k' I8 kp fk fn dn dg vv nx
          obtain ⟨m', hm, w8⟩ := hN ys' H8 nx
          exact ⟨m', hm, i + 1, ys', its', k', H8, I8.weak kp.1.symm kp.2, T.keep _ _ _ st7 fk, fn, dn, dg, vv, w8⟩
        refine wpAny_bind (wpAny_mono (hg C fp s2 H2 _ s7 _ H7 x u _ I7' r7 (kg x σ H7 _ (step x H7 y7))) (fun _ s8 zr1 => ?_) fun _ _ z => z.elim)
        obtain ⟨σ8, H8, I8, ⟨kp8, kb8⟩, q8⟩ := zr1
        refine wpAny_bind (wpAny_mono (hc C fp s2 H2 _ s8 σ8 H8 _ I8 q8) (fun ok s9 zr1 => ?_) fun _ _ z => z.elim)
        obtain ⟨H9, I9, q9⟩ := zr1
        have pinsOf : ∀ {σ' : St} {H' : Hp} {s' : Shared}, Inv (aq X scope (tg ++ cs) C fp s2 H2) ([(D, (lso its k))] ++ cK fp s7.heap) σ' H' s' ->
            (∀ b ∈ fp, ∀ o, s7.heap.get? b = some o -> s'.heap.get? b = some o) /\ (∀ b ∈ fp, H' b = none) /\ H' D = none /\ s'.heap.get? D = some (lso its k) := by
          intro σ' H' s' I'
          refine ⟨fun b hb o e => (I'.pin (b, o) (List.mem_append_right _ (List.mem_append_right _ (bh hb e)))).1, fun b hb => ?_, (I'.pin (D, (lso its k)) (List.mem_append_right _ (List.mem_append_left _ List.mem_cons_self))).2.1, (I'.pin (D, (lso its k)) (List.mem_append_right _ (List.mem_append_left _ List.mem_cons_self))).1⟩
          obtain ⟨o, e, d⟩ := T.obj _ _ st7 b hb
          exact (I'.pin (b, o) (List.mem_append_right _ (List.mem_append_right _ (bh hb e)))).2.1
        cases ok with
        | false =>
          obtain ⟨p1, p2, p3, p4⟩ := pinsOf I9
          exact wpAny_pure ⟨rfl, again (I9.pins_of fun p hp => nomatch hp) kp8 p1 p2 p3 p4 v5 q9⟩
        | true =>
          have q9 : tIn wi2 g2 tc2 te σ8 ys Nx H9 := q9
          obtain ⟨p1, p2, p3, p4⟩ := pinsOf I9
          have I9' : Inv (aq X scope (tg ++ cs) C fp s2 H2) (cK fp s7.heap) σ8 H9 s9 := I9.pins_of fun p hp => I9.pin p (List.mem_append_right _ (List.mem_append_right _ hp))
          refine pb (Y := aq X scope (tg ++ cs) C fp s2 H2) hcalm (fun _ _ z => z) (hi2 C fp s2 H2) (hg2 C fp s2 H2) (hc2 C fp s2 H2) (he C fp s2 H2) kb8 I9' hDC Dfs (by show s2.heap.objs.size <= D; rw [hDg]; exact Nat.le_refl _) DcY (fun p hp z => ?_) p3 p4 v5 q9 (hs2 _) fun s12 zs its' k' H12 I12 d12 g12 v12 n12 => ?_
          · have hp : p ∈ cK fp s7.heap := hp
            exact Dfp (z ▸ (gC hp).1)
          · have pn := fun (b : Addr) (hb : b ∈ fp) (o : Obj) (e : s7.heap.get? b = some o) => I12.pin (b, o) (List.mem_append_right _ (bh hb e))
            refine wpAny_pure ⟨rfl, again (its' := its') (I12.pins_of fun p hp => nomatch hp) kp8 (fun b hb o e => (pn b hb o e).1) (fun b hb => ?_) d12 g12 v12 n12⟩
            obtain ⟨o, e, _⟩ := T.obj _ _ st7 b hb
            exact (pn b hb o e).2.1
    · rw [e4]; exact T.keep _ _ _ st2 fun b _ o e => old b o e
  exact codeAny_compStart_list (loop _ rfl) (T.self _ 0 _ _ _ (T.keep _ _ _ st2 fun b _ o e => old b o e) (loop _ rfl))
theorem qo {elt t1 i1 t2 i2 : Expr} {f1 f2 : List Expr} {scope : Scope} {pos spos py : Pos} {yy : Str} {ii : Nat} {tg cs : List Str} {wi wi2 : TI} {g g2 : TG} {tc tc2 : TT} {te : TE} (hN0 : X.N.Nodup) (hi0 : X.N[ii]? = some yy) (hx0 : Loc X.env.scope yy)
    (S : bt X scope tg cs ix) (hcalm : X.calm = true) (kg : je tg.length ix g g2)
    (hi : PI X t1 i1 wi) (hg : ∀ C fp s H, PG (aq X scope (tg ++ cs) C fp s H) t1 g) (hc : ∀ C fp s H, PTs (aq X scope (tg ++ cs) C fp s H) f1 tc) (hi2 : ∀ C fp s H, PI (aq X scope (tg ++ cs) C fp s H) t2 i2 wi2) (hg2 : ∀ C fp s H, PG (aq X scope (tg ++ cs) C fp s H) t2 g2) (hc2 : ∀ C fp s H, PTs (aq X scope (tg ++ cs) C fp s H) f2 tc2) (he : ∀ C fp s H, PE (aq X scope (tg ++ cs) C fp s H) elt te)
    (hf0 : X.fn yy = true \/ X.env.scope.names.lookup yy = some .local)
    (hsw : swapsWith (two_of elt t1 i1 t2 i2 f1 f2 scope pos) (some (.Name yy py)) spos.line X.env = pure true)
    (hs : ∀ x, foldedSetIterable i1 X.env x = pure x := by intro _; rfl) (hs2 : ∀ (e : Env) x, foldedSetIterable i2 e x = pure x := by intro _ _; rfl) : PS X (.Assign [.Name yy py] (two_of elt t1 i1 t2 i2 f1 f2 scope pos) spos) (dH (kN wi tg.length ix g tc wi2 g2 tc2 te) (bL ii)) := by
  intro pins s σ H Dn I h
  rw [exec_Assign_Name_used _ _ _ _ hsw]
  refine wpAny_bind (wpAny_standAt (wpAny_bind ?_))
  show wpAny _ X.A (do let _ <- comprehension (two_of elt t1 i1 t2 i2 f1 f2 scope pos) scope X.env _ (newList []) false (eval i1 X.env) (some (assign (.Name yy py) X.env))) _ _ s
  refine wpAny_bind (wpAny_mono (wpAny_comprehension_free (use := some (assign (.Name yy py) X.env)) (Q := fun _ s' => SP X pins Dn .next s') (cl := b6 X.env scope.names []) rfl hs (fx fun n hn => I.ok.has n (S.out n hn)) S.kind S.names ?_) (fun _ s' hq => wpAny_pure (wpAny_pure hq)) fun _ _ e => e)
  refine wpAny_mono (hi pins s σ H _ I h) (fun v s1 h1 => wpAny_mono h1 (fun itv s2 h2 => ?_) fun _ _ e => e) fun _ _ e => e
  obtain ⟨it, fp, tn, J, H2, rfl, I2, T, st2, fpk, W, ⟨m0, w0⟩, turn⟩ := h2
  refine wpAny_newObj_type (wpAny_newFunctionEnv S.nocell (by intro y hy; simp at hy) (fun h1 hns1 hsb1 => ?_) S.kind)
  dsimp only at hns1 hsb1 ⊢
  generalize hP : s2.heap.push { cls := .type "list", dict := none, data := .seq ([] : List Value).toArray } = P2 at hns1 hsb1 ⊢
  have hCs : P2.objs.size = s2.heap.objs.size + 1 := by rw [<- hP, Heap.size_push]
  have hDC : s2.heap.objs.size ≠ P2.objs.size := by rw [hCs]; exact Nat.ne_of_lt (Nat.lt_succ_self _)
  have hCle : s2.heap.objs.size <= P2.objs.size := by rw [hCs]; exact Nat.le_succ _
  generalize hCg : P2.objs.size = C at *
  have old : ∀ b o, s2.heap.get? b = some o -> h1.get? b = some o := fun b o e => hsb1.extBut b o (Nat.ne_of_lt (Nat.lt_of_lt_of_le (Heap.lt_size e) hCle)) (Heap.get?_push_of_some _ (hP ▸ Heap.get?_push_of_some _ e))
  generalize hDg : s2.heap.objs.size = D at *
  have hD0 : h1.get? D = some { cls := .type "list", data := .seq ([] : List Value).toArray 0 } := hsb1.extBut _ _ hDC (Heap.get?_push_of_some _ (hP ▸ hDg ▸ Heap.get?_push_size _ rfl))
  have nC : H2 C = none := I2.hok.fresh (by rw [hDg]; exact hCle)
  have nD : H2 D = none := I2.hok.fresh (by rw [hDg]; exact Nat.le_refl _)
  have fo : ∀ b ∈ fp, ∃ o, s2.heap.get? b = some o := fun b hb => let ⟨o, e, _⟩ := T.obj _ _ st2 b hb; ⟨o, e⟩
  have Dfp : D ∉ fp := fun z => by
    obtain ⟨o, e⟩ := fo D z
    have := Heap.lt_size e
    rw [hDg] at this
    exact absurd this (Nat.lt_irrefl _)
  have Dfs : D ∉ frs X.stack := fun z => by
    rcases List.mem_cons.mp (I2.stkSub D z) with e | e
    · have := I2.lt
      rw [<- e, hDg] at this
      exact absurd this (Nat.lt_irrefl _)
    · exact I2.nofs (by rw [hDg]; exact Nat.le_refl _) e
  have DcY : ∀ x c, (b6 X.env scope.names []).lookup x = some c -> c ≠ D := fun x c e => by
    rcases eG (PySem.mem_of_lookup e) with h | h
    · cases h
    · exact (I2.fpOk (H' := H2) (b := D) (by rw [hDg]; exact Nat.le_refl _) nD).2.2.2.2.1 x c h
  -- the block's context
  have Yok : ∀ s4 : Shared, s4 = { s2 with heap := h1, toks := s2.toks + ([] : List (Str × Value)).length } -> Inv (aq X scope (tg ++ cs) C fp s2 H2) [] (capt tg.length ix σ) H2 s4 := by
    rintro s4 rfl
    exact iL S I2 fpk fo (by rw [hDg]; exact hCle) old (by simpa using hns1) rfl I2.bare nC
  -- the loop
  have loop : ∀ s4 : Shared, s4 = { s2 with heap := h1, toks := s2.toks + ([] : List (Str × Value)).length } ->
      codeAny (model X.prog X.w) X.A (.compLoop (two_of elt t1 i1 t2 i2 f1 f2 scope pos) 0 (.ref it) (.ref D) (compEnvC scope (b6 X.env scope.names []) C X.env)) (compPost (model X.prog X.w) X.A X.xe (some (assign (.Name yy py) X.env)) (fun _ s' => SP X pins Dn .next s') (.ref D) C) s4 := by
    intro s4 e4
    refine codeAny_loop rfl (fun n s' => ∃ i ys its k H', Inv (aq X scope (tg ++ cs) C fp s2 H2) [] (capt tg.length ix σ) H' s' /\ tn i s'.heap /\ (∀ b ∈ fp, H' b = none) /\ H' D = none /\ s'.heap.get? D = some (lso its k) /\ Vals ys its /\ W i n ys H')
      ?_ m0 ⟨0, [], [], 0, H2, Yok s4 e4, ?_, fun b hb => (fpk b hb).1, nD, by rw [e4]; exact hD0, .nil, w0⟩
    · rintro n s5 ⟨i, ys, its, k, H5, I5, st5, fr5, d5, o5, v5, w5⟩
      show wpAny _ X.A ((compTurn (two_of elt t1 i1 t2 i2 f1 f2 scope pos) 0 (.ref it) (.ref D) (compEnvC scope (b6 X.env scope.names []) C X.env)).onRaise (fun x => do noteFrame x (compEnvC scope (b6 X.env scope.names []) C X.env); theTreesLotGoes x)) _ _ s5
      refine wpAny_noted ?_
      rw [mG]
      have pin0 : Inv (aq X scope (tg ++ cs) C fp s2 H2) [(D, (lso its k))] (capt tg.length ix σ) H5 s5 := I5.pins_of fun p hp => by
        have e : p = (D, (lso its k)) := by simpa using hp
        subst e
        exact ⟨o5, d5, hDC, Dfs, fun v z => by have z' : Data.seq _ _ = Data.cell v := z; cases z'⟩
      have fpY : ∀ {H' : Hp}, (∀ b ∈ fp, H' b = none) -> ∀ b ∈ fp, eE (aq X scope (tg ++ cs) C fp s2 H2) [(D, (lso its k))] H' b := fun hn b hb =>
        ⟨hn b hb, (I5.ok.exf b hb).1, fun z => I5.ok.exfs b hb z, .inl hb, (I5.ok.exf b hb).2, fun p hp z => by
          have hp : p ∈ ([] : List (Addr × Obj)) ++ [(D, (lso its k))] := hp
          have e : p = (D, (lso its k)) := by simpa using hp
          subst e
          have z : D = b := z
          exact Dfp (z ▸ hb)⟩
      refine wpAny_bind (wpAny_standAt (wpAny_bind ?_))
      rcases turn i n ys H5 w5 with ⟨stop, hz, qn⟩ | ⟨go, Nx, hN, step⟩
      · refine thn (T.done (aq X scope (tg ++ cs) C fp s2 H2) rfl rfl rfl hcalm i _ s5 _ H5 _ pin0 (fpY fr5) st5 stop) fun r s6 zr1 => ?_
        obtain ⟨hr, I6⟩ := zr1
        subst hr
        refine wpAny_pure ?_
        obtain ⟨mC, hnsC, _⟩ := id I6.loc
        have IX : Inv X pins σ H5 s6 := I2.call' (ch := fp) I6.os I6.base I6.hok I6.bare fun b hb => let ⟨_, a1, _, a3, a4, a5⟩ := fpk b hb; ⟨a3, a1, a4, a5⟩
        obtain ⟨_, b1, _, b3, b4, b5⟩ := I2.fpOk (H' := H5) (b := D) (by rw [hDg]; exact Nat.le_refl _) d5
        obtain ⟨_, c1, _, c3, c4, c5⟩ := I2.fpOk (H' := H5) (b := C) (by rw [hDg]; exact hCle) I6.free
        have gD : s6.heap.get? D = some (lso its k) := (I6.pin (D, (lso its k)) (List.mem_append_right _ List.mem_cons_self)).1
        have IXD : Inv X pins σ (upd H5 D (.lst ys)) s6 := IX.track d5 (by rw [<- hDg]; exact I2.sz) b1 b4 b5 ⟨hz, its, k, v5, gD⟩
        show wpAny _ X.A (assign (.Name yy py) X.env (.ref D)) _ _ s6
        refine wpAny_assign_Name (gz (v := .ref D) IXD hN0 hi0 hx0 rfl (fun s'' I'' zr1 => ?_) hf0)
        obtain ⟨a, sb, ha⟩ := zr1
        have hCa : C ≠ a := by
          rcases ha with rfl | ha
          · exact c1
          · exact (c4 _ _ ha).symm
        refine ⟨mC, hnsC.sameBut sb hCa, fun h' sb' => ⟨_, _, I''.turned (t' := s''.toks) (it := C) (fun b o hb e => (sb'.2 b hb).trans e) (by rw [aC (Ne.symm hDC)]; exact I6.free) c1 c3 c4 c5, qn D d5⟩⟩
      · refine thn (T.item (aq X scope (tg ++ cs) C fp s2 H2) rfl rfl rfl hcalm i _ s5 _ H5 _ pin0 (fpY fr5) st5 go) fun r s6 zr1 => ?_
        obtain ⟨u, hr, h6⟩ := zr1
        subst hr
        refine wpAny_bind (thn h6 fun _ s7 zr1 => ?_)
        obtain ⟨x, H7, I7, r7, y7, st7, fr7⟩ := zr1
        have I7' := I7.pinned (fpY fr7) (T.obj _ _ st7)
        -- the next turn
        have again : ∀ {σ2 : St} {H8 : Hp} {s8 : Shared} {ys' : List V} {its' : List Value} {k' : Nat} , Inv (aq X scope (tg ++ cs) C fp s2 H2) [] σ2 H8 s8 -> (σ2.length = (capt tg.length ix σ).length /\ ∀ (i : Nat) (v : V), (capt tg.length ix σ)[i]? = some (some v) -> σ2[i]? = some (some v)) ->
            (∀ b ∈ fp, ∀ o, s7.heap.get? b = some o -> s8.heap.get? b = some o) -> (∀ b ∈ fp, H8 b = none) -> H8 D = none -> s8.heap.get? D = some (lso its' k') -> Vals ys' its' -> Nx ys' H8 ->
            ∃ m, m < n /\ ∃ i ys its k H', Inv (aq X scope (tg ++ cs) C fp s2 H2) [] (capt tg.length ix σ) H' s8 /\ tn i s8.heap /\ (∀ b ∈ fp, H' b = none) /\ H' D = none /\ s8.heap.get? D = some (lso its k) /\ Vals ys its /\ W i m ys H' := by
          intro σ2 H8 s8 ys' its' k' I8 kp fk fn dn dg vv nx
          obtain ⟨m', hm, w8⟩ := hN ys' H8 nx
          exact ⟨m', hm, i + 1, ys', its', k', H8, I8.weak kp.1.symm kp.2, T.keep _ _ _ st7 fk, fn, dn, dg, vv, w8⟩
        refine wpAny_bind (wpAny_mono (hg C fp s2 H2 _ s7 _ H7 x u _ I7' r7 (kg x σ H7 _ (step x H7 y7))) (fun _ s8 zr1 => ?_) fun _ _ z => z.elim)
        obtain ⟨σ8, H8, I8, ⟨kp8, kb8⟩, q8⟩ := zr1
        refine wpAny_bind (wpAny_mono (hc C fp s2 H2 _ s8 σ8 H8 _ I8 q8) (fun ok s9 zr1 => ?_) fun _ _ z => z.elim)
        obtain ⟨H9, I9, q9⟩ := zr1
        have pinsOf : ∀ {σ' : St} {H' : Hp} {s' : Shared}, Inv (aq X scope (tg ++ cs) C fp s2 H2) ([(D, (lso its k))] ++ cK fp s7.heap) σ' H' s' ->
            (∀ b ∈ fp, ∀ o, s7.heap.get? b = some o -> s'.heap.get? b = some o) /\ (∀ b ∈ fp, H' b = none) /\ H' D = none /\ s'.heap.get? D = some (lso its k) := by
          intro σ' H' s' I'
          refine ⟨fun b hb o e => (I'.pin (b, o) (List.mem_append_right _ (List.mem_append_right _ (bh hb e)))).1, fun b hb => ?_, (I'.pin (D, (lso its k)) (List.mem_append_right _ (List.mem_append_left _ List.mem_cons_self))).2.1, (I'.pin (D, (lso its k)) (List.mem_append_right _ (List.mem_append_left _ List.mem_cons_self))).1⟩
          obtain ⟨o, e, d⟩ := T.obj _ _ st7 b hb
          exact (I'.pin (b, o) (List.mem_append_right _ (List.mem_append_right _ (bh hb e)))).2.1
        cases ok with
        | false =>
          obtain ⟨p1, p2, p3, p4⟩ := pinsOf I9
          exact wpAny_pure ⟨rfl, again (I9.pins_of fun p hp => nomatch hp) kp8 p1 p2 p3 p4 v5 q9⟩
        | true =>
          have q9 : tIn wi2 g2 tc2 te σ8 ys Nx H9 := q9
          obtain ⟨p1, p2, p3, p4⟩ := pinsOf I9
          have I9' : Inv (aq X scope (tg ++ cs) C fp s2 H2) (cK fp s7.heap) σ8 H9 s9 := I9.pins_of fun p hp => I9.pin p (List.mem_append_right _ (List.mem_append_right _ hp))
          refine pb (Y := aq X scope (tg ++ cs) C fp s2 H2) hcalm (fun _ _ z => z) (hi2 C fp s2 H2) (hg2 C fp s2 H2) (hc2 C fp s2 H2) (he C fp s2 H2) kb8 I9' hDC Dfs (by show s2.heap.objs.size <= D; rw [hDg]; exact Nat.le_refl _) DcY (fun p hp z => ?_) p3 p4 v5 q9 (hs2 _) fun s12 zs its' k' H12 I12 d12 g12 v12 n12 => ?_
          · have hp : p ∈ cK fp s7.heap := hp
            exact Dfp (z ▸ (gC hp).1)
          · have pn := fun (b : Addr) (hb : b ∈ fp) (o : Obj) (e : s7.heap.get? b = some o) => I12.pin (b, o) (List.mem_append_right _ (bh hb e))
            refine wpAny_pure ⟨rfl, again (its' := its') (I12.pins_of fun p hp => nomatch hp) kp8 (fun b hb o e => (pn b hb o e).1) (fun b hb => ?_) d12 g12 v12 n12⟩
            obtain ⟨o, e, _⟩ := T.obj _ _ st7 b hb
            exact (pn b hb o e).2.1
    · rw [e4]; exact T.keep _ _ _ st2 fun b _ o e => old b o e
  exact codeAny_compStart_list (loop _ rfl) (T.self _ 0 _ _ _ (T.keep _ _ _ st2 fun b _ o e => old b o e) (loop _ rfl))
end
end L2
namespace VL
open PySem L2 PySem.W
section
variable {K : PySem.W.Frag} {H H4 H0 : Hp} {Z : AP} {σ σ4 σ5 : St} {S S4 : List Sl}
def Ec : Sl -> Sl -> Sl
 | .no, _ => .no
 | _, b => b
def msk (S4 S : List Sl) : List Sl := List.zipWith Ec S4 S
theorem jf {i : Nat} {s : Sl} (h : (msk S4 S)[i]? = some s) : s = .no \/ S[i]? = some s /\ ∃ t, S4[i]? = some t /\ t ≠ .no := by
 unfold msk at h
 rw [List.getElem?_zipWith] at h
 cases h1 : S4[i]? with
 | none => rw [h1] at h; cases h
 | some t =>
  cases h2 : S[i]? with
  | none => rw [h1, h2] at h; cases h
  | some u =>
   rw [h1, h2] at h
   cases t with
   | no => cases h; exact .inl rfl
   | val _ | fre _ | own _ | pen _ _ | odi _ _ | obj _ => cases h; exact .inr ⟨rfl, _, rfl, fun z => nomatch z⟩
theorem OK.forget (k4 : OK K H0 Z σ4 H4 S4) (k : OK K H0 Z σ5 H S) (st : Step Z σ4 S4 H4 σ5 S H) (hl : σ5.length = σ4.length) (hσ : ∀ (i : Nat) (v : V), σ4[i]? = some (some v) -> σ5[i]? = some (some v)) :
  OK K H0 Z σ4 H (msk S4 S) /\ Step Z σ4 S4 H4 σ4 (msk S4 S) H /\ ∀ a, NM Z σ5 S a -> NM Z σ4 (msk S4 S) a := by
 have at4 : ∀ {i : Nat} {t : Sl}, S4[i]? = some t -> t ≠ .no -> ∃ v, σ4[i]? = some (some v) := fun {i t} e hn => by
  obtain ⟨o, h1, q⟩ := k4.ownAt e
  cases t with
  | no => exact absurd rfl hn
  | val _ => obtain ⟨v, rfl, _⟩ := q; exact ⟨v, h1⟩
  | fre _ => obtain ⟨v, rfl, _⟩ := q; exact ⟨v, h1⟩
  | own _ => obtain ⟨a, _, rfl, _⟩ := q; exact ⟨_, h1⟩
  | pen _ _ => obtain ⟨a, rfl, _⟩ := q; exact ⟨_, h1⟩
  | odi _ _ => obtain ⟨a, _, rfl, _⟩ := q; exact ⟨_, h1⟩
  | obj _ => obtain ⟨a, rfl, _⟩ := q; exact ⟨_, h1⟩
 have mo : ∀ a, Mo Z σ4 (msk S4 S) a -> Mo Z σ5 S a := fun a z => by
  rcases z with ⟨i, s, h1, h2, h3⟩ | z
  ·rcases jf h1 with rfl | ⟨h4, _⟩
   ·cases h2
   ·exact .inl ⟨i, s, h4, h2, hσ i _ h3⟩
  ·exact .inr z
 have nm : ∀ a, NM Z σ5 S a -> NM Z σ4 (msk S4 S) a := fun a n z => n (mo a z)
 have hm : ∀ a, NM Z σ5 S a -> H a ≠ none -> NM Z σ4 (msk S4 S) a /\ H a = H a := fun a n _ => ⟨nm a n, rfl⟩
 refine ⟨⟨?_, fun i o s h1 h2 => ?_, fun i j a s t h1 h2 m1 m2 h3 h4 => ?_, k.dom, k.zl, fun i s a h1 h2 h3 => ?_⟩, ⟨fun a n e => ⟨(st.1 a n e).1, nm a (st.1 a n e).2⟩, st.2.1, st.2.2⟩, nm⟩
 ·have := k4.len; have := k.len
  unfold msk
  rw [List.length_zipWith]; lia
 ·rcases jf h2 with rfl | ⟨h4, t, h5, h6⟩
  ·trivial
  ·obtain ⟨v, e⟩ := at4 h5 h6
   rw [e] at h1; cases h1
   have q := k.at_ i _ s (hσ i v e) h4
   cases s with
   | no => trivial
   | val d => obtain ⟨v, e, r⟩ := q; exact ⟨v, e, r.mono hm fun _ x => x⟩
   | fre d => obtain ⟨v, e, r⟩ := q; exact ⟨v, e, r.mono hm fun _ x => x⟩
   | own ds => obtain ⟨a, vs, e, e', e0, r⟩ := q; exact ⟨a, vs, e, e', e0, r.mono hm fun _ x => x⟩
   | pen ad ns => exact q
   | odi ks ds => obtain ⟨a, vs, e, e', e0, ek, r⟩ := q; exact ⟨a, vs, e, e', e0, ⟨ek.1, ek.2.mono hm fun _ x => x⟩, r.mono hm fun _ x => x⟩
   | obj k => obtain ⟨a, e, e0, r⟩ := q; exact ⟨a, e, e0, k.mono hm rfl r⟩
 ·rcases jf h1 with rfl | ⟨h1, _⟩
  ·cases m1
  ·rcases jf h2 with rfl | ⟨h2, _⟩
   ·cases m2
   ·exact k.inj i j a s t h1 h2 m1 m2 (hσ i _ h3) (hσ j _ h4)
 ·rcases jf h1 with rfl | ⟨h1, _⟩
  ·cases h2
  ·exact k.nz i s a h1 h2 (hσ i _ h3)
end
section
variable {K : PySem.W.Frag} {X : Cx} {elt t1 i1 t2 i2 : Expr} {f1 f2 : List Expr} {scope : Scope} {pos : Pos}
def nO (vi : VTN) (n : Nat) (ix : List Nat) (vg : VG) (vt : VTT) (vi2 : VTN) (vg2 : VG) (vt2 : VTT) (ve : VT) : VTN := fun S Q => vi S fun ds S1 => ds.length <= 1000 /\ ∃ Iv : Nat -> List D -> List Sl -> Prop, Iv 0 [] S1 /\
 (∀ i d ys S2, ds[i]? = some d -> Iv i ys S2 -> vg d (bp n ix S2) fun S3 => vt S3 fun b S4 => if b = true then (vi2 S4 fun es S5 => es.length <= 1000 /\ ∃ Jv : Nat -> List D -> List Sl -> Prop, Jv 0 ys S5 /\
  (∀ j e zs S6, es[j]? = some e -> Jv j zs S6 -> vg2 e S6 fun S7 => vt2 S7 fun b2 S8 => if b2 = true then ve S8 fun r S9 => ∃ x, r = .d x /\ Jv (j + 1) (zs ++ [x]) (msk S6 S9) else Jv (j + 1) zs (msk S6 S8)) /\ ∀ zs S6, Jv es.length zs S6 -> Iv (i + 1) zs (backS n ix S2 S6))
  else Iv (i + 1) ys (backS n ix S2 S4)) /\
 ∀ ys S2, Iv ds.length ys S2 -> Q ys S2
theorem sO {tg cs : List Str} {wi wi2 : TI} {vi vi2 : VTN} {g g2 : TG} {vg vg2 : VG} {tc tc2 : TT} {vt vt2 : VTT} {te : TE} {ve : VT} (Sc : bt X scope tg cs ix) (hcalm : X.calm = true) (kg : je tg.length ix g g2) (hnd : ix.Nodup)
  (hi : VI K X t1 i1 wi vi) (hg : ∀ C fp s H, VGe K (aq X scope (tg ++ cs) C fp s H) t1 g vg) (hc : ∀ C fp s H, VTs K (aq X scope (tg ++ cs) C fp s H) f1 tc vt) (hi2 : ∀ C fp s H, VI K (aq X scope (tg ++ cs) C fp s H) t2 i2 wi2 vi2)
  (hg2 : ∀ C fp s H, VGe K (aq X scope (tg ++ cs) C fp s H) t2 g2 vg2) (hc2 : ∀ C fp s H, VTs K (aq X scope (tg ++ cs) C fp s H) f2 tc2 vt2) (he : ∀ C fp s H, VE K (aq X scope (tg ++ cs) C fp s H) true elt te ve)
  (hs : ∀ x, foldedSetIterable i1 X.env x = pure x := by intro _; rfl) (hs2 : ∀ (e : Env) x, foldedSetIterable i2 e x = pure x := by intro _ _; rfl) : VN K X (two_of elt t1 i1 t2 i2 f1 f2 scope pos) (kN wi tg.length ix g tc wi2 g2 tc2 te) (nO vi tg.length ix vg vt vi2 vg2 vt2 ve) := by
 have sg : SndG K g vg := (hg 0 [] X.s₀ (fun _ => none)).snd
 have sc : SndT K tc vt := (hc 0 [] X.s₀ (fun _ => none)).snd
 have si2 : SndI K wi2 vi2 := (hi2 0 [] X.s₀ (fun _ => none)).snd
 have sg2 : SndG K g2 vg2 := (hg2 0 [] X.s₀ (fun _ => none)).snd
 have sc2 : SndT K tc2 vt2 := (hc2 0 [] X.s₀ (fun _ => none)).snd
 have se : SndE K true te ve := (he 0 [] X.s₀ (fun _ => none)).snd
 have hsz := sizeLine_eq
 refine ⟨sN Sc hcalm kg hi.pi (fun C fp s H => (hg C fp s H).pg) (fun C fp s H => (hc C fp s H).pe) (fun C fp s H => (hi2 C fp s H).pi) (fun C fp s H => (hg2 C fp s H).pg) (fun C fp s H => (hc2 C fp s H).pe) (fun C fp s H => (he C fp s H).pe) hs hs2, fun H0 Z σ H S Q C k t hq => ?_⟩
 refine hi.snd H0 Z σ H S _ _ k t fun J ds H1 S1 k1 st1 gd zr1 => ?_
 obtain ⟨hl, Iv, i0, hs, hd⟩ := zr1
 refine ⟨fun i m ys H => m = ds.length - i /\ i <= ds.length /\ ys.length <= 1000 * i /\ ∃ S2 zs, OK K H0 Z σ H S2 /\ Step Z σ S1 H1 σ S2 H /\ Reps K (NM Z σ S2) (Fr H0) H ys zs /\ Iv i zs S2, ⟨ds.length, by simp, Nat.zero_le _, Nat.le_refl _, S1, [], k1, .refl, .nil, i0⟩, ?_⟩
 rintro i m ys H2 ⟨rfl, hi, hy, S2, zs, k2, st2, rz, p⟩
 obtain ⟨g1, g2', g3⟩ := gd σ S2 H2 (fun _ => k2.nm) st2 i
 by_cases hlt : i < ds.length
 ·refine .inr ⟨g1 hlt, fun ys' H' => ys'.length <= 1000 * (i + 1) /\ ∃ S' zs', OK K H0 Z σ H' S' /\ Step Z σ S1 H1 σ S' H' /\ Reps K (NM Z σ S') (Fr H0) H' ys' zs' /\ Iv (i + 1) zs' S', fun ys' H' zt1 => by obtain ⟨p1, p2⟩ := zt1; exact ⟨ds.length - (i + 1), by lia, rfl, hlt, p1, p2⟩, fun x H3 y => ?_⟩
  obtain ⟨hgr, d, hd', rd⟩ := g2' x H3 y hlt
  replace k2 := k2.grow hgr
  replace st2 := st2.trans (.grow hgr)
  replace rz := rz.step (.grow hgr)
  have kc := k2.capt (n := tg.length) hnd
  have rd' : Rep K (NM (Zin Z ix σ S2) (L2.capt tg.length ix σ) (bp tg.length ix S2)) AnyF H3 x d := rd.mono (fun a n _ => ⟨fun z => n (gJ.mp z), rfl⟩) fun _ x => x
  have rzc : Reps K (NM (Zin Z ix σ S2) (L2.capt tg.length ix σ) (bp tg.length ix S2)) (Fr H0) H3 ys zs := rz.mono (fun a n _ => ⟨fun z => n (gJ.mp z), rfl⟩) fun _ x => x
  have h1 := sg H0 _ _ H3 _ x d _ (fun σ4 H4 => ∃ S4, OK K H0 (Zin Z ix σ S2) σ4 H4 S4 /\ Step (Zin Z ix σ S2) (L2.capt tg.length ix σ) (bp tg.length ix S2) H3 σ4 S4 H4 /\ vt S4 fun b S5 => if b = true then (vi2 S5 fun es S5 => es.length <= 1000 /\ ∃ Jv : Nat -> List D -> List Sl -> Prop, Jv 0 zs S5 /\
   (∀ j e zs S6, es[j]? = some e -> Jv j zs S6 -> vg2 e S6 fun S7 => vt2 S7 fun b2 S8 => if b2 = true then ve S8 fun r S9 => ∃ x, r = .d x /\ Jv (j + 1) (zs ++ [x]) (msk S6 S9) else Jv (j + 1) zs (msk S6 S8)) /\ ∀ zs S6, Jv es.length zs S6 -> Iv (i + 1) zs (backS tg.length ix S2 S6)) else Iv (i + 1) zs (backS tg.length ix S2 S5)) kc rd' (hs i d zs S2 hd' p) (fun σ4 H4 S4 k4 st4 q4 => ⟨S4, k4, st4, q4⟩)
  have h2 := kg x σ H3 _ h1
  refine (hg 0 [] X.s₀ (fun _ => none)).mono _ _ _ _ _ ?_ h2
  rintro σ4 H4 ⟨⟨⟨hl4, hσ4⟩, kb⟩, S4, k4, st4, q4⟩
  refine sc H0 _ σ4 H4 S4 _ _ k4 q4 fun bb H5 S5 k5 st5 q5 => ?_
  cases bb with
  | false =>
   rw [if_neg Bool.false_ne_true] at q5 ⊢
   obtain ⟨kb', sb, nb⟩ := k2.back k5 (st4.trans st5) hσ4
   exact ⟨by lia, _, zs, kb', st2.trans sb, rz.step sb, q5⟩
  | true =>
   rw [if_pos rfl] at q5 ⊢
   refine si2 H0 _ σ4 H5 S5 _ _ k5 q5 fun J2 es H6 S6 k6 st6 gd2 zr1 => ?_
   obtain ⟨hl2, Jv, j0, hj, hd2⟩ := zr1
   have stA := (st4.trans st5).trans st6
   refine ⟨fun j m us H => m = es.length - j /\ j <= es.length /\ us.length <= 1000 * i + j /\ ∃ S7 ws, OK K H0 (Zin Z ix σ S2) σ4 H S7 /\ Step (Zin Z ix σ S2) σ4 S6 H6 σ4 S7 H /\ Reps K (NM (Zin Z ix σ S2) σ4 S7) (Fr H0) H us ws /\ Jv j ws S7, ⟨es.length, by simp, Nat.zero_le _, by lia, S6, zs, k6, .refl, rzc.step stA, j0⟩, ?_⟩
   rintro j m us H7 ⟨rfl, hjl, hul, S7, ws, k7, st7, rw7, p7⟩
   obtain ⟨a1, a2, a3⟩ := gd2 σ4 S7 H7 (fun _ => k7.nm) st7 j
   by_cases hlt2 : j < es.length
   ·refine .inr ⟨a1 hlt2, by lia, fun us' H' => us'.length <= 1000 * i + (j + 1) /\ ∃ S' ws', OK K H0 (Zin Z ix σ S2) σ4 H' S' /\ Step (Zin Z ix σ S2) σ4 S6 H6 σ4 S' H' /\ Reps K (NM (Zin Z ix σ S2) σ4 S') (Fr H0) H' us' ws' /\ Jv (j + 1) ws' S', fun us' H' zt1 => by obtain ⟨p1, p2⟩ := zt1; exact ⟨es.length - (j + 1), by lia, rfl, hlt2, p1, p2⟩, fun x2 H8 y2 => ?_⟩
    obtain ⟨hgr, e, he', re⟩ := a2 x2 H8 y2 hlt2
    replace k7 := k7.grow hgr
    replace st7 := st7.trans (.grow hgr)
    replace rw7 := rw7.step (.grow hgr)
    have h3 := sg2 H0 _ σ4 H8 S7 x2 e _ (fun σ5 H9 => ∃ S9, OK K H0 (Zin Z ix σ S2) σ5 H9 S9 /\ Step (Zin Z ix σ S2) σ4 S7 H8 σ5 S9 H9 /\ vt2 S9 fun b2 S8 => if b2 = true then ve S8 fun r S9 => ∃ x, r = .d x /\ Jv (j + 1) (ws ++ [x]) (msk S7 S9) else Jv (j + 1) ws (msk S7 S8)) k7 re (hj j e ws S7 he' p7) (fun σ5 H9 S9 k9 st9 q9 => ⟨S9, k9, st9, q9⟩)
    refine (hg2 0 [] X.s₀ (fun _ => none)).mono _ _ _ _ _ ?_ (kb x2 H8 _ h3)
    rintro σ5 H9 ⟨⟨hl5, hσ5⟩, S9, k9, st9, q9⟩
    refine sc2 H0 _ σ5 H9 S9 _ _ k9 q9 fun b2 H10 S10 k10 st10 q10 => ?_
    cases b2 with
    | false =>
     rw [if_neg Bool.false_ne_true] at q10 ⊢
     obtain ⟨kf, sf, nf⟩ := k7.forget k10 (st9.trans st10) hl5 hσ5
     exact ⟨by lia, _, ws, kf, st7.trans sf, rw7.step sf, q10⟩
    | true =>
     rw [if_pos rfl] at q10 ⊢
     refine se H0 _ σ5 H10 S10 _ _ k10 q10 fun vv H11 r S11 k11 st11 rr zr1 => ?_
     obtain ⟨xx, er, q11⟩ := zr1
     subst er
     obtain ⟨kf, sf, nf⟩ := k7.forget k11 ((st9.trans st10).trans st11) hl5 hσ5
     exact ⟨by simp; lia, _, ws ++ [xx], kf, st7.trans sf, Reps.append (rw7.step sf) (.cons (Rep.mono (fun a n _ => ⟨nf a n, rfl⟩) (fun _ x => x rfl) rr) .nil), q11⟩
   ·have e : j = es.length := by lia
    obtain ⟨kb', sb, nb⟩ := k2.back k7 (stA.trans st7) hσ4
    exact .inl ⟨a3 e, by lia, _, ws, kb', st2.trans sb, rw7.mono (fun a n _ => ⟨nb a n, rfl⟩) fun _ x => x, hd2 ws S7 (by rw [<- e]; exact p7)⟩
 ·have e : i = ds.length := by lia
  refine .inl ⟨g3 e, by lia, fun l hp => ?_⟩
  exact hq l ys zs H2 _ S2 k2 (st1.trans st2) hp (aU hp) aG (bV hp (rz.mono (fun _ n _ => ⟨n, rfl⟩) fun _ x _ => x)) (hd zs S2 (by rw [<- e]; exact p))
theorem j5 {spos py : Pos} {yy : Str} {ii : Nat} {tg cs : List Str} {wi wi2 : TI} {vi vi2 : VTN} {g g2 : TG} {vg vg2 : VG} {tc tc2 : TT} {vt vt2 : VTT} {te : TE} {ve : VT} (hN0 : X.N.Nodup) (hi0 : X.N[ii]? = some yy) (hx0 : Loc X.env.scope yy) (hf0 : X.fn yy = true \/ X.env.scope.names.lookup yy = some .local) (Sc : bt X scope tg cs ix) (hcalm : X.calm = true) (kg : je tg.length ix g g2) (hnd : ix.Nodup)
  (hi : VI K X t1 i1 wi vi) (hg : ∀ C fp s H, VGe K (aq X scope (tg ++ cs) C fp s H) t1 g vg) (hc : ∀ C fp s H, VTs K (aq X scope (tg ++ cs) C fp s H) f1 tc vt) (hi2 : ∀ C fp s H, VI K (aq X scope (tg ++ cs) C fp s H) t2 i2 wi2 vi2)
  (hg2 : ∀ C fp s H, VGe K (aq X scope (tg ++ cs) C fp s H) t2 g2 vg2) (hc2 : ∀ C fp s H, VTs K (aq X scope (tg ++ cs) C fp s H) f2 tc2 vt2) (he : ∀ C fp s H, VE K (aq X scope (tg ++ cs) C fp s H) true elt te ve)
  (hsw : swapsWith (two_of elt t1 i1 t2 i2 f1 f2 scope pos) (some (.Name yy py)) spos.line X.env = pure true := by rfl) (hs : ∀ x, foldedSetIterable i1 X.env x = pure x := by intro _; rfl) (hs2 : ∀ (e : Env) x, foldedSetIterable i2 e x = pure x := by intro _ _; rfl) :
  VS K X (.Assign [.Name yy py] (two_of elt t1 i1 t2 i2 f1 f2 scope pos) spos) (dH (kN wi tg.length ix g tc wi2 g2 tc2 te) (bL ii)) (rq ii (nO vi tg.length ix vg vt vi2 vg2 vt2 ve)) := by
 have h := sO (pos := pos) Sc hcalm kg hnd hi hg hc hi2 hg2 hc2 he hs hs2
 refine ⟨qo hN0 hi0 hx0 Sc hcalm kg hi.pi (fun C fp s H => (hg C fp s H).pg) (fun C fp s H => (hc C fp s H).pe) (fun C fp s H => (hi2 C fp s H).pi) (fun C fp s H => (hg2 C fp s H).pg) (fun C fp s H => (hc2 C fp s H).pe) (fun C fp s H => (he C fp s H).pe) hf0 hsw hs hs2, fun H0 Z σ H S V E k t l => h.snd H0 Z σ H S _ _ k t fun a vs ds H1 H' S' k1 st1 ha hg hl rr zr1 => ?_⟩
 obtain ⟨hi, q⟩ := zr1
 obtain ⟨k2, st2⟩ := k1.setNew (s := .own ds) hi ha hg ⟨a, vs, rfl, hl, k1.dom a ha, rr⟩ rfl
 exact l.nx _ _ _ k2 (st1.trans st2) q
end
end VL
end
section
namespace VL
open PySem L2 PySem.W
section
variable {α β : Type} {n : Nat} {ix : List Nat} {g g2 : VG} {vt vt2 : VTT} {vi vi2 : VTN} {ve vk vv : VT} {S : List Sl}
def Aw (vg2 : VG) (vt2 : VTT) (ve : VT) (ys : List D) (A : List D -> List Sl -> Prop) : List D -> List Sl -> Prop := fun es S5 => es.length <= 1000 /\ ∃ Jv : Nat -> List D -> List Sl -> Prop, Jv 0 ys S5 /\
 (∀ j e zs S6, es[j]? = some e -> Jv j zs S6 -> vg2 e S6 fun S7 => vt2 S7 (fD ve (fun x S9 => Jv (j + 1) (zs ++ [x]) (msk S6 S9)) fun S8 => Jv (j + 1) zs (msk S6 S8))) /\ ∀ zs S6, Jv es.length zs S6 -> A zs S6
def vM (vi2 : VTN) (vg2 : VG) (vt2 : VTT) (ve : VT) (ys : List D) (A : List D -> List Sl -> Prop) (B : List Sl -> Prop) : Bool -> List Sl -> Prop := fun b S4 => if b = true then vi2 S4 (Aw vg2 vt2 ve ys A) else B S4
def nQ (n : Nat) (ix : List Nat) (g : VG) (vt : VTT) (vi2 : VTN) (vg2 : VG) (vt2 : VTT) (ve : VT) (Q : List D -> List Sl -> Prop) : List D -> List Sl -> Prop := fun ds S1 => ds.length <= 1000 /\ ∃ Iv : Nat -> List D -> List Sl -> Prop, Iv 0 [] S1 /\
 (∀ i d ys S2, ds[i]? = some d -> Iv i ys S2 -> g d (bp n ix S2) fun S3 => vt S3 (vM vi2 vg2 vt2 ve ys (fun zs S6 => Iv (i + 1) zs (backS n ix S2 S6)) fun S4 => Iv (i + 1) ys (backS n ix S2 S4))) /\ ∀ ys S2, Iv ds.length ys S2 -> Q ys S2
theorem vN {Q : List D -> List Sl -> Prop} (h : vi S (nQ n ix g vt vi2 g2 vt2 ve Q)) : nO vi n ix g vt vi2 g2 vt2 ve S Q := h
theorem Ax {ys : List D} {A : List D -> List Sl -> Prop} {B : List Sl -> Prop} (h : vi2 S (Aw g2 vt2 ve ys A)) : vM vi2 g2 vt2 ve ys A B true S := by unfold vM; rw [if_pos rfl]; exact h
theorem qp {Q : List D -> List Sl -> Prop} {xs : List α} {en : α -> D} {r : α -> List D} (hl : xs.length <= 1000)
  (h : ∀ x ∈ xs, ∀ (ys : List D) (A : List D -> List Sl -> Prop) (B : List Sl -> Prop), (∀ S5, backS n ix S S5 = S -> A (ys ++ r x) S5) -> g (en x) (bp n ix S) fun S3 => vt S3 (vM vi2 g2 vt2 ve ys A B)) (h2 : Q (xs.flatMap r) S) : nQ n ix g vt vi2 g2 vt2 ve Q (xs.map en) S := by
 refine ⟨by simpa using hl, fun i ys S' => S' = S /\ ys = (xs.take i).flatMap r, ⟨rfl, by simp⟩, ?_, ?_⟩
 ·rintro i d ys S2 e ⟨rfl, rfl⟩
  obtain ⟨x, h1, rfl, hm, ht⟩ := cA e
  refine h x hm _ _ _ fun S5 e5 => ⟨e5, ?_⟩
  rw [ht, List.flatMap_append]
  simp
 ·rintro ys S2 ⟨rfl, rfl⟩
  rw [List.length_map, List.take_length]
  exact h2
end
end VL
end
section
namespace VL
open PySem L2
section
variable {K : PySem.W.Frag} {X : Cx} {c e tg : Expr} {a : List Stmt} {tc : TT} {vt : VTT} {ta : TS} {wi : TI} {vi : VTN} {j : Nat} {pos ipos : Pos} {S : List Sl}
def ph : Sl -> Sl
 | .own ds => .val (.lst ds)
 | .odi ks ds => .val (.dic ks ds)
 | .pen _ _ => .no
 | .obj _ => .no
 | s => s
def lend (S : List Sl) : List Sl := S.map ph
theorem dv : ∀ S : List Sl, Wk S (lend S)
 | [] => .nil
 | s :: r => by
  cases s with
  | own ds => exact .fz (dv r)
  | odi ks ds => exact .fd (dv r)
  | pen ad ns => exact .drop (dv r)
  | obj k => exact .drop (dv r)
  | no => exact .keep (dv r)
  | val d => exact .keep (dv r)
  | fre d => exact .keep (dv r)
theorem sP : ∀ {S : List Sl} {j : Nat}, j < S.length -> Wk S (S.set j .no)
 | [], _, h => absurd h (Nat.not_lt_zero _)
 | _ :: r, 0, _ => .drop (Wk.refl r)
 | _ :: r, j + 1, h => .keep (sP (by simpa using h))
def nR (S : List Sl) : Prop := ∀ (i : Nat) (s : Sl), S[i]? = some s -> s.mut = false
theorem qq (S : List Sl) : nR (lend S) := fun i s h => by
 unfold lend at h
 rw [List.getElem?_map] at h
 cases hs : S[i]? with
 | none => rw [hs] at h; cases h
 | some t =>
  rw [hs] at h
  obtain rfl := Option.some.inj h
  cases t <;> rfl
theorem nR.mo (h : nR S) {b : Addr} : Mo Z σ S b ↔ Z b :=
 ⟨fun m => by
  rcases m with ⟨k, t, h1, h2, _⟩ | m
  ·rw [h k t h1] at h2; cases h2
  ·exact m, .inr⟩
theorem nR.grow (h : nR S) {H H' : Hp} {σ σ' : St} {S' : List Sl} (st : Step Z σ S H σ' S' H') : ∀ b, H b ≠ none -> H' b = H b := fun b hb => by
 by_cases z : Z b
 ·exact st.2.2 b z hb
 ·exact (st.1 b (fun m => z (h.mo.mp m)) hb).1
theorem OK.setNo {H0 H : Hp} {v : L2.V} (k : OK K H0 Z σ H S) (hj : j < S.length) : OK K H0 Z (σ.set j (some v)) H (S.set j .no) /\ Step Z σ S H (σ.set j (some v)) (S.set j .no) H := by
 have n : ∀ b, NM Z σ S b -> NM Z (σ.set j (some v)) (S.set j .no) b := fun b x z => by
  rcases iS z with z | ⟨z, _⟩
  ·exact x z
  ·cases z
 exact ⟨k.put hj (fun b x _ => ⟨n b x, rfl⟩) (fun _ _ _ _ _ _ _ => rfl) trivial (fun _ _ _ _ _ _ z => nomatch z) (fun _ e => e) k.zl (fun _ z => nomatch z), fun b x _ => ⟨rfl, n b x⟩, fun _ e => e, fun _ _ _ => rfl⟩
end
end VL
end
section
namespace VL
open PySem L2
abbrev ZP (Z P : AP) : AP := fun b => Z b \/ P b
section
variable {K : PySem.W.Frag} {N N' : AP} {F : FP} {H H' H0 : Hp} {Z P : AP} {σ σ' : St} {S S' : List Sl}
mutual
theorem Rep.mark {v : L2.V} {d : D} : Rep K N F H v d -> Rep K N (fun o => F o /\ ∀ a, o = some a -> N a /\ IsM (H a)) H v d
 | .int i => .int i
 | .bl i => .bl i
 | .non => .non
 | .str i => .str i
 | .ty i => .ty i
 | .tup n h r => .tup n h (Reps.mark r)
 | .tupK h r => .tupK h (Reps.mark r)
 | .lst n f h r => .lst n ⟨f, fun a e => by cases e; exact ⟨n, by rw [h]; trivial⟩⟩ h (Reps.mark r)
 | .lstF n f h r => .lstF n ⟨f, fun a e => nomatch e⟩ h (Reps.mark r)
 | .lstK f h r => .lstK ⟨f, fun a e => nomatch e⟩ h (Reps.mark r)
 | .dic n f h e rk r => .dic n ⟨f, fun a e => by cases e; exact ⟨n, by rw [h]; trivial⟩⟩ h e (Reps.mark rk) (Reps.mark r)
 | .exc n h e => .exc n h e
theorem Reps.mark {vs : List L2.V} {ds : List D} : Reps K N F H vs ds -> Reps K N (fun o => F o /\ ∀ a, o = some a -> N a /\ IsM (H a)) H vs ds
 | .nil => .nil
 | .cons h t => .cons (Rep.mark h) (Reps.mark t)
end
theorem OK.growP (k : OK K H0 Z σ H S) (h : ∀ a, H a ≠ none -> H' a = H a) (hP : ∀ b, P b -> H b = none /\ IsM (H' b)) : OK K H0 (ZP Z P) σ H' S := by
 have nm : ∀ a, NM Z σ S a -> H a ≠ none -> NM (ZP Z P) σ S a := fun a n e z => by
  rcases z with z | z | z
  ·exact n (.inl z)
  ·exact n (.inr z)
  ·exact e (hP a z).1
 have hm : ∀ a, NM Z σ S a -> H a ≠ none -> NM (ZP Z P) σ S a /\ H' a = H a := fun a n e => ⟨nm a n e, h a e⟩
 refine ⟨k.len, fun i o s e1 e2 => ?_, k.inj, fun a e => k.dom a (Classical.byContradiction fun z => by rw [h a z] at e; exact z e), fun a z => ?_, fun i s a h1 h2 h3 z => ?_⟩
 ·have q := k.at_ i o s e1 e2
  cases s with
  | no => trivial
  | val d => obtain ⟨v, e, r⟩ := q; exact ⟨v, e, r.mono hm fun _ x => x⟩
  | fre d => obtain ⟨v, e, r⟩ := q; exact ⟨v, e, r.mono hm fun _ x => x⟩
  | own ds => obtain ⟨a, vs, e, e', e0, r⟩ := q; exact ⟨a, vs, e, by rw [h a (by simp [e'])]; exact e', e0, r.mono hm fun _ x => x⟩
  | pen ad ns => obtain ⟨a, e, e1, e'⟩ := q; exact ⟨a, e, e1, by rw [h a (by simp [e'])]; exact e'⟩
  | odi ks ds => obtain ⟨a, vs, e, ⟨ob, e'⟩, e0, ek, r⟩ := q; exact ⟨a, vs, e, ⟨ob, by rw [h a (by simp [e'])]; exact e'⟩, e0, ⟨ek.1, ek.2.mono hm fun _ x => x⟩, r.mono hm fun _ x => x⟩
  | obj k => obtain ⟨a, e, e0, r⟩ := q; exact ⟨a, e, e0, k.mono hm (h a (k.ism r).ne) r⟩
 ·rcases z with z | z
  ·have e := k.zl a z
   rw [h a e.ne]; exact e
  ·exact (hP a z).2
 ·rcases z with z | z
  ·exact k.nz i s a h1 h2 h3 z
  ·exact (k.mo (.inl ⟨i, s, h1, h2, h3⟩)).ne (hP a z).1
theorem pq {a : Addr} (n : NM (ZP Z P) σ S a) : NM Z σ S a := fun z => n (z.elim .inl fun y => .inr (.inl y))
theorem OK.chP (k : OK K H0 (ZP Z P) σ H S) (h : ∀ a, H a ≠ none -> ¬P a -> H' a = H a) (hd : ∀ a, H' a = none -> H a = none) (dj : ∀ b, P b -> ¬Z b) : OK K H0 Z σ H' S := by
 have hm : ∀ a, NM (ZP Z P) σ S a -> H a ≠ none -> NM Z σ S a /\ H' a = H a := fun a n e => ⟨pq n, h a e fun z => n (.inr (.inr z))⟩
 have np : ∀ (i : Nat) (s : Sl) (a : Addr), S[i]? = some s -> s.mut = true -> σ[i]? = some (some (L2.V.ref a)) -> ¬P a := fun i s a h1 h2 h3 z => k.nz i s a h1 h2 h3 (.inr z)
 refine ⟨k.len, fun i o s e1 e2 => ?_, k.inj, fun a e => k.dom a (hd a e), fun a z => ?_, fun i s a h1 h2 h3 z => k.nz i s a h1 h2 h3 (.inl z)⟩
 ·have q := k.at_ i o s e1 e2
  cases s with
  | no => trivial
  | val d => obtain ⟨v, e, r⟩ := q; exact ⟨v, e, r.mono hm fun _ x => x⟩
  | fre d => obtain ⟨v, e, r⟩ := q; exact ⟨v, e, r.mono hm fun _ x => x⟩
  | own ds => obtain ⟨a, vs, e, e', e0, r⟩ := q; exact ⟨a, vs, e, by rw [h a (by simp [e']) (np i _ a e2 rfl (by rw [e1, e]))]; exact e', e0, r.mono hm fun _ x => x⟩
  | pen ad ns => obtain ⟨a, e, e3, e'⟩ := q; exact ⟨a, e, e3, by rw [h a (by simp [e']) (np i _ a e2 rfl (by rw [e1, e]))]; exact e'⟩
  | odi ks ds => obtain ⟨a, vs, e, ⟨ob, e'⟩, e0, ek, r⟩ := q; exact ⟨a, vs, e, ⟨ob, by rw [h a (by simp [e']) (np i _ a e2 rfl (by rw [e1, e]))]; exact e'⟩, e0, ⟨ek.1, ek.2.mono hm fun _ x => x⟩, r.mono hm fun _ x => x⟩
  | obj kk => obtain ⟨a, e, e0, r⟩ := q; exact ⟨a, e, e0, kk.mono hm (h a (kk.ism r).ne (np i _ a e2 rfl (by rw [e1, e]))) r⟩
 ·have e := k.zl a (.inl z)
  by_cases p : P a
  ·exact absurd z (dj a p)
  ·rw [h a e.ne p]; exact e
def lendF : Sl -> Sl
 | .fre d => .val d
 | s => ph s
theorem jg (S : List Sl) : nR (S.map lendF) := fun i s h => by
 rw [List.getElem?_map] at h
 cases hs : S[i]? with
 | none => rw [hs] at h; cases h
 | some t =>
  rw [hs] at h
  obtain rfl := Option.some.inj h
  cases t <;> rfl
theorem OK.lendF (k : OK K H0 Z σ H S) : OK K H Z σ H (S.map VL.lendF) := by
 have il := jg S
 have kl := (k.wk (dv S)).1
 have inz := qq S
 refine ⟨by rw [k.len, List.length_map], fun i o s e1 e2 => ?_, fun i j a s t h1 _ m => ?_, fun _ e => e, k.zl, fun i s a h1 m => ?_⟩
 ·rw [List.getElem?_map] at e2
  cases hs : S[i]? with
  | none => rw [hs] at e2; cases e2
  | some t =>
   rw [hs] at e2
   obtain rfl := Option.some.inj e2
   have q := kl.at_ i o (ph t) e1 (by unfold lend; rw [List.getElem?_map, hs]; rfl)
   have hm : ∀ a, NM Z σ (lend S) a -> H a ≠ none -> NM Z σ (S.map VL.lendF) a /\ H a = H a := fun a n _ => ⟨fun z => n (.inr (il.mo.mp z)), rfl⟩
   cases t with
   | no => trivial
   | val d => obtain ⟨v, e, r⟩ := q; exact ⟨v, e, r.mono hm fun _ x => x⟩
   | fre d => obtain ⟨v, e, r⟩ := q; exact ⟨v, e, r.mono hm fun _ _ => trivial⟩
   | own ds => obtain ⟨v, e, r⟩ := q; exact ⟨v, e, r.mono hm fun _ x => x⟩
   | pen ad ns => trivial
   | odi ks ds => obtain ⟨v, e, r⟩ := q; exact ⟨v, e, r.mono hm fun _ x => x⟩
   | obj k => trivial
 ·rw [il i s h1] at m; cases m
 ·rw [il i s h1] at m; cases m
end
end VL
end
section
namespace L2
open PySem PySem.Spec PyProof.Rows
theorem Inv.turned2 {X : Cx} {s : Shared} {h' : Heap} {t' : Nat} {e it : Addr} (I : Inv X pins σ H s) (k : ∀ b o, b ≠ e -> b ≠ it -> s.heap.get? b = some o -> h'.get? b = some o) (fe : eE X pins H e) (fi : eE X pins H it) :
  Inv X pins σ H { s with heap := h', toks := t' } := by
 obtain ⟨e0, e1, _, e3, e4, e5⟩ := fe
 obtain ⟨i0, i1, _, i3, i4, i5⟩ := fi
 have ne : ∀ b u, H b = some u -> b ≠ e := fun b u q z => by rw [z, e0] at q; cases q
 have ni : ∀ b u, H b = some u -> b ≠ it := fun b u q z => by rw [z, i0] at q; cases q
 have kk : ∀ b o, b ∉ [e, it] -> s.heap.get? b = some o -> h'.get? b = some o := fun b o hc q => k b o (fun z => hc (by simp [z])) (fun z => hc (by simp [z])) q
 refine I.step (g' := s.gens) (d' := s.drawn) (ch := [e, it]) (fun b hb => ?_) (fun b o _ _ hc q _ => kk b o hc q) (fun b o _ _ hc q _ => ⟨o.slots, kk b o hc q⟩) (fun _ _ _ _ n => n)
  (fun b o hc q => ⟨o, kk b o hc q⟩) (fun _ _ q => q) (fun _ _ _ q => q) (fun b ps q => ⟨#[], by rw [q]; simp⟩) (fun m hm => ?_) (fun b u q => ?_) I.bare
 ·rcases List.mem_cons.mp hb with rfl | hb
  ·exact ⟨e3, e1, e4, e5⟩
  ·obtain rfl := List.mem_singleton.mp hb
   exact ⟨i3, i1, i4, i5⟩
 ·obtain ⟨o, es, ep, ho, r⟩ := hm
  exact ⟨o, es, ep, k _ o (Ne.symm e1) (Ne.symm i1) ho, r⟩
 ·refine (I.hok b u q).stay (fun c v hc z => k c v ?_ ?_ z) (fun _ z => z) fun _ _ z => z
  ·rcases hc with y | y
   ·rw [y]; exact ne b u q
   ·exact ne c _ y
  ·rcases hc with y | y
   ·rw [y]; exact ni b u q
   ·exact ni c _ y
def Ite (K : PySem.W.Frag) (l : Addr) : It :=
 ⟨fun i H => ∃ xs x, SqL K H l xs /\ xs[i]? = some x, fun i H x H' => ∃ p, H p = none /\ x = .ref p /\ ∀ xs, SqL K H l xs -> ∃ y, xs[i]? = some y /\ H' = upd H p (.tup [.int i, y]), fun i H => ∃ xs, SqL K H l xs /\ xs.length <= i⟩
theorem qr {P : Program} {w : World} {elts : List Expr} {x1} {tp : Pos} (e it l : Addr) (hne : e ≠ it) :
  Turn P w K (.Tuple elts x1 tp) (Ite K l) [e, it] e (fun i h => (∃ old, IsEnum h e it i old) /\ h.IsListIter it l i) where
 mem := by simp
 obj := fun i h zq b hb => by
  obtain ⟨⟨old, st⟩, sl⟩ := zq
  rcases List.mem_cons.mp hb with rfl | hb
  ·exact ⟨_, st, fun v z => by
    have z' : Data.fields _ = Data.cell v := z
    cases z'⟩
  ·obtain rfl := List.mem_singleton.mp hb
   obtain ⟨o, q, c, d⟩ := sl
   exact ⟨o, q, fun v z => by rw [d] at z; cases z⟩
 keep := fun i h h' zq k => by
  obtain ⟨⟨old, st⟩, sl⟩ := zq
  exact ⟨⟨old, k e (by simp) _ st⟩, sl.at fun o q => k it (by simp) o q⟩
 item := by
  intro X hP hw hK hc i pins s σ H E I hf zq hg
  subst hP hw hK
  obtain ⟨⟨old, st⟩, sl⟩ := zq
  obtain ⟨xs, x, hq, hx⟩ := hg
  obtain ⟨its, rv, p, hz⟩ := I.list hq
  obtain ⟨u, hu, ru⟩ := rv.get hx
  have fe := hf e (by simp)
  have fi := hf it (by simp)
  refine wpAny_pyNext_enum_item st sl p.isList (x := u) (by simpa using hu) hne fun h' a1 a2 a3 a4 a5 => ⟨_, rfl, wpAny_letOwnedTupleGo_enum (s := { s with heap := h', toks := s.toks + 1 }) a1 fun h2 b1 b2 => ?_⟩
  have kb : ∀ b o, b ≠ e -> h'.get? b = some o -> h2.get? b = some o := fun b o hb q => (b2.2 b hb).trans q
  have I2 : Inv X pins σ H { s with heap := h2, toks := s.toks + 1 } := I.turned2 (fun b o n1 n2 q => kb b o n1 (a5 b o n1 n2 q)) fe fi
  have np : H s.heap.objs.size = none := I.hok.fresh (Nat.le_refl _)
  obtain ⟨_, p1, _, p3, p4, p5⟩ := I.fpOk (H' := H) (b := s.heap.objs.size) (Nat.le_refl _) np
  have ns : s.heap.objs.size ≠ e := Nat.ne_of_gt (Heap.lt_size st)
  have ni : s.heap.objs.size ≠ it := by
   obtain ⟨o, q, _⟩ := id sl
   exact Nat.ne_of_gt (Heap.lt_size q)
  refine ⟨.ref s.heap.objs.size, upd H s.heap.objs.size (.tup [.int i, x]), I2.track np I.sz p1 p4 p5 ⟨by rw [sizeLine_eq]; exact Nat.le_of_ble_eq_true rfl, [.int i s.toks, u], .cons ⟨_, rfl⟩ (.cons ru .nil), ⟨_, kb _ _ ns a3, rfl, _, rfl⟩⟩, rfl, ⟨_, np, rfl, fun ys hy => ⟨x, by rw [I.list_inj hy hq]; exact hx, rfl⟩⟩, ⟨⟨_, by simpa using b1⟩, a2.at fun o q => kb it o (Ne.symm hne) q⟩, fun b hb => ?_⟩
  rcases List.mem_cons.mp hb with rfl | hb
  ·rw [aC (Ne.symm ns)]; exact fe.1
  ·obtain rfl := List.mem_singleton.mp hb
   rw [aC (Ne.symm ni)]; exact fi.1
 done := by
  intro X hP hw hK hc i pins s σ H E I hf zq hg
  subst hP hw hK
  obtain ⟨⟨old, st⟩, sl⟩ := zq
  obtain ⟨xs, hq, hx⟩ := hg
  obtain ⟨its, rv, p, hz⟩ := I.list hq
  obtain ⟨f0, f1, f2, f3, f4, f5⟩ := hf it (by simp)
  have hl := rv.length
  exact wpAny_pyNext_enum_end (I.ok.hd hc) st sl p.isList (Array.getElem?_eq_none (by simp; lia)) fun h' eb => ⟨rfl, I.turned (t' := s.toks) (fun b o hb q => eb b o hb q) f0 f1 f3 f4 f5⟩
 self := fun _ _ _ _ _ zq h => by
  obtain ⟨⟨old, st⟩, _⟩ := zq
  exact wpAny_pyIter_enum st h
section
variable {X : Cx}
def x6 (K : PySem.W.Frag) (ta : TA) : TI := fun σ H R => ta σ H fun vs H1 => ∃ l, vs = [.ref l] /\ (∃ xs, SqL K H1 l xs) /\ R (Ite K l) H1
theorem vO {a : Expr} {ta : TA} {p pos tp : Pos} {elts : List Expr} {x1} (hg : Gl X "enumerate") (hm : X.mg "enumerate" = none) (ha : PA X [a] ta) (hs : starEach [a] X.env = [(false, eval a X.env)] := by rfl) : PI X (.Tuple elts x1 tp) (.Call (.Name "enumerate" p) [a] [] pos) (x6 X.K ta) := by
 intro pins s σ H R I h
 refine Call_ (fu I hg hm boot_enumerate (PyProof.Rows.callWith_type1 (thn (ha pos pins s σ H _ I h) fun us s1 zr1 => ?_) hs rfl))
 obtain ⟨vs, H1, I1, r1, q1⟩ := zr1
 obtain ⟨l, e, ⟨xs, hq⟩, q⟩ := q1
 subst e
 cases r1 with
 | cons r rr =>
  cases rr
  cases r
  obtain ⟨its, rv, pl, hz⟩ := I1.list hq
  refine call_enumerate_list pl.isList fun h' g1 g2 g3 g4 => ?_
  have I2 : Inv X pins σ H1 { s1 with heap := h' } := I1.kept (t' := s1.toks) g4
  refine wpAny_pyIter_enum (s := { s1 with heap := h' }) g1 ⟨s1.heap.objs.size + 1, [s1.heap.objs.size + 1, s1.heap.objs.size], _, Ite X.K l, H1, rfl, I2, qr _ _ l (by lia), ⟨⟨_, g1⟩, g2⟩, fun b hb => ?_, q⟩
  have hb' : s1.heap.objs.size <= b := by
   rcases List.mem_cons.mp hb with rfl | hb
   ·lia
   ·obtain rfl := List.mem_singleton.mp hb
    exact Nat.le_refl _
  exact I1.fpOk hb' (I1.hok.fresh hb')
end
end L2
namespace VL
open PySem L2
section
variable {K : PySem.W.Frag} {X : Cx} {a : Expr} {tr : TA} {vr : VTA} {S : List Sl} {QN : List D -> List Sl -> Prop} {p pos tp : Pos}
def enD (ds : List D) : List D := (List.range ds.length).map fun (i : Nat) => .tup [.int i, ds.getD i .non]
theorem f9 (ds : List D) : (enD ds).length = ds.length := by simp [enD]
theorem nT {i : Nat} (h : ds[i]? = some d) : (enD ds)[i]? = some (.tup [.int i, d]) := by
 obtain ⟨hi, e⟩ := List.getElem?_eq_some_iff.mp h
 simp [enD, hi, List.getD, e]
def x8 (vr : VTA) : VTN := fun S Q => vr S fun rs S1 => ∃ ds, rs = [.d (.lst ds)] /\ Q (enD ds) S1
theorem vP {elts : List Expr} {x1} (hK : X.K = K) (hg : Gl X "enumerate") (hm : X.mg "enumerate" = none) (ha : VA K X false [a] tr vr) (hs : starEach [a] X.env = [(false, eval a X.env)] := by rfl) :
  VI K X (.Tuple elts x1 tp) (.Call (.Name "enumerate" p) [a] [] pos) (x6 K tr) (x8 vr) := ⟨by subst hK; exact vO hg hm ha.pe hs, fun H0 Z σ H S Q C k t hc =>
 ha.snd H0 Z σ H S _ _ k t fun vs H1 rs S1 k1 st1 rrs zq1 => by
  obtain ⟨ds, e, q⟩ := zq1
  subst e
  obtain ⟨v, rfl, rv⟩ := rrs.one
  have rv : Rep K _ _ H1 v (.lst ds) := rv
  obtain ⟨l, xs, rfl, hq, _⟩ := rv.sqL
  refine ⟨l, rfl, ⟨xs, hq⟩, hc _ (enD ds) H1 S1 k1 st1 (fun σ2 S2 H2 nm st2 i => ?_) q⟩
  obtain ⟨l', xs', e, hq2, r2⟩ := (rv.step st2).sqL
  cases e
  rw [f9]
  refine ⟨fun hi => ?_, fun x H3 hy hi => ?_, fun hi => ⟨xs', hq2, by rw [r2.length]; lia⟩⟩
  ·obtain ⟨y, h1, _⟩ := r2.getD (List.getElem?_eq_getElem hi)
   exact ⟨xs', y, hq2, h1⟩
  ·obtain ⟨p, hp, rfl, hy⟩ := hy
   obtain ⟨y, h2, rfl⟩ := hy xs' hq2
   obtain ⟨d, h3, h4⟩ := r2.get h2
   have g := aU (o := .tup [.int i, y]) hp
   exact ⟨g, _, nT h3, .tup (nm p hp) (.inl aG) (.cons (.int _) (.cons (h4.mono (fun b n z => ⟨n, g b z⟩) fun _ _ => trivial) .nil))⟩⟩
def x9 (QN : List D -> List Sl -> Prop) : List VR -> List Sl -> Prop := fun rs S1 => ∃ ds, rs = [.d (.lst ds)] /\ QN (enD ds) S1
theorem Ay (h : vr S (x9 QN)) : x8 vr S QN := h
theorem vQ (h : QN (enD ds) S) : x9 QN [.d (.lst ds)] S := ⟨ds, rfl, h⟩
end
end VL
end
section
namespace VL
open PySem L2
section
variable {β : Type} {S : List Sl} {g2 : VG} {vt2 : VTT} {ve : VT}
theorem qt {xs : List β} {en f : β -> D} {p : β -> Bool} {ys : List D} {A : List D -> List Sl -> Prop} (hl : xs.length <= 1000)
  (h : ∀ x ∈ xs, ∀ (A : D -> List Sl -> Prop) (B : List Sl -> Prop), (∀ S5, msk S S5 = S -> p x = true -> A (f x) S5) -> (∀ S5, msk S S5 = S -> p x = false -> B S5) -> g2 (en x) S fun S3 => vt2 S3 (fD ve A B)) (h2 : A (ys ++ (xs.filter p).map f) S) : Aw g2 vt2 ve ys A (xs.map en) S := by
 refine ⟨by simpa using hl, fun j zs S' => S' = S /\ zs = ys ++ ((xs.take j).filter p).map f, ⟨rfl, by simp⟩, ?_, ?_⟩
 ·rintro i d zs S2 e ⟨rfl, rfl⟩
  obtain ⟨x, h1, rfl, hm, ht⟩ := cA e
  refine h x hm _ _ (fun S5 e5 hp => ⟨e5, ?_⟩) (fun S5 e5 hp => ⟨e5, ?_⟩)
  ·rw [ht, List.filter_append, List.map_append, <- List.append_assoc]
   simp [hp]
  ·rw [ht, List.filter_append, List.map_append]
   simp [hp]
 ·rintro zs S2 ⟨rfl, rfl⟩
  rw [List.length_map, List.take_length]
  exact h2
end
end VL
end
section
namespace L2
open PySem PySem.Spec PyProof.Rows PySem.W
section
variable {X : Cx} {i : Nat} {CB : Addr} {cb en : Str} {b0 : Stmt} {suite body : List Stmt} {h0 : ExceptHandler} {th ts us : TS} {st : Stmt} {np hp tp : Pos}
theorem vR (hb : PSs X body ts) (hxe : ∀ e s, ¬X.xe e s) : PS X (.Try body [h0] [] [] tp) ts := by
 intro pins s σ H D I h
 refine wpAny_Try_except (wpAny_mono (hb pins s σ H D I h) (fun f s1 q => ?_) fun e s z => (hxe e s z).elim)
 cases f with
 | next => obtain ⟨σ', H', I', q'⟩ := q; exact kh pins s1 σ' H' D I' q'
 | brk => exact q
 | cont => exact q
 | ret u => exact q
theorem Az (h1 : PS X st ts) (h2 : PS X st us) : PS X st (fun D σ H => ts D σ H \/ us D σ H) := fun pins s σ H D I h => h.elim (h1 pins s σ H D I) (h2 pins s σ H D I)
def Dc (X : Cx) (Hin : Hp) (E : XK) : Prop := ∀ pins σ H s e s', Inv X pins σ H s -> CX1 X.prog X.w X.stack H s (fun c _ H' => (∀ b, Hin b ≠ none -> H' b = Hin b) /\ E c none H') e s' -> X.xe e s'
end
end L2
end
section
namespace VL
open PySem L2 PySem.W
section
variable {K : PySem.W.Frag} {X : Cx} {ts us : TS} {t u : VTS} {st : Stmt} {body : List Stmt} {h0 : ExceptHandler} {tp : Pos}
theorem vS (h : VSs K X body ts t) (hxe : ∀ e s, ¬X.xe e s) : VS K X (.Try body [h0] [] [] tp) ts t := ⟨vR h.ps hxe, h.snd⟩
def Dd (t u : VTS) : VTS := fun V S => t V S \/ u V S
theorem AA (h1 : VS K X st ts t) (h2 : VS K X st us u) : VS K X st (fun D σ H => ts D σ H \/ us D σ H) (Dd t u) :=
 ⟨Az h1.ps h2.ps, fun H0 Z σ H S V E k zq l => zq.elim (fun z => .inl (h1.snd H0 Z σ H S V E k z l)) fun z => .inr (h2.snd H0 Z σ H S V E k z l)⟩
end
section
variable {K : PySem.W.Frag} {X : Cx} {Hin : Hp} {E : XK} {A B : List Stmt} {ts us : TS} {t u : (Addr -> Prop) -> List Sl -> Prop} {pos : Pos}
theorem AB {sts : List Stmt} (h1 : VXs K X Hin E sts ts t) (h2 : VXs K X Hin E sts us u) : VXs K X Hin E sts (fun D σ H => ts D σ H \/ us D σ H) (fun Wc S => t Wc S \/ u Wc S) :=
 ⟨fun pins s σ H D I h => h.elim (h1.ps pins s σ H D I) (h2.ps pins s σ H D I), fun Wc hE H0 Z σ H S D k f zq => zq.elim (fun z => .inl (h1.snd Wc hE H0 Z σ H S D k f z)) fun z => .inr (h2.snd Wc hE H0 Z σ H S D k f z)⟩
end
end VL
end
section
namespace L2
open PySem PySem.Spec PyProof.Rows
theorem Inv.turnedL {X : Cx} {s : Shared} {h' : Heap} {t' : Nat} {fp : List Addr} (I : Inv X pins σ H s) (k : ∀ b o, b ∉ fp -> s.heap.get? b = some o -> h'.get? b = some o) (hf : ∀ b ∈ fp, eE X pins H b) :
  Inv X pins σ H { s with heap := h', toks := t' } := by
 have ne : ∀ b u, H b = some u -> b ∉ fp := fun b u q z => by rw [(hf b z).1] at q; cases q
 refine I.step (g' := s.gens) (d' := s.drawn) (ch := fp) (fun b hb => ?_) (fun b o _ _ hc q _ => k b o hc q) (fun b o _ _ hc q _ => ⟨o.slots, k b o hc q⟩) (fun _ _ _ _ n => n)
  (fun b o hc q => ⟨o, k b o hc q⟩) (fun _ _ q => q) (fun _ _ _ q => q) (fun b ps q => ⟨#[], by rw [q]; simp⟩) (fun m hm => ?_) (fun b u q => ?_) I.bare
 ·obtain ⟨e0, e1, _, e3, e4, e5⟩ := hf b hb
  exact ⟨e3, e1, e4, e5⟩
 ·obtain ⟨o, es, ep, ho, r⟩ := hm
  exact ⟨o, es, ep, k _ o (fun z => (hf _ z).2.1 rfl) ho, r⟩
 ·refine (I.hok b u q).stay (fun c v hc z => k c v ?_ z) (fun _ z => z) fun _ _ z => z
  rcases hc with y | y
  ·rw [y]; exact ne b u q
  ·exact ne c _ y
def Itz (K : PySem.W.Frag) (l1 l2 : Addr) : It :=
 ⟨fun i H => ∃ xs ys x y, SqL K H l1 xs /\ SqL K H l2 ys /\ xs[i]? = some x /\ ys[i]? = some y, fun i H x H' => ∃ p, H p = none /\ x = .ref p /\ ∀ xs ys, SqL K H l1 xs -> SqL K H l2 ys -> ∃ y z, xs[i]? = some y /\ ys[i]? = some z /\ H' = upd H p (.tup [y, z]),
  fun i H => ∃ xs ys, SqL K H l1 xs /\ SqL K H l2 ys /\ (xs.length <= i \/ ys.length <= i)⟩
theorem sQ {P : Program} {w : World} {elts : List Expr} {x1} {tp : Pos} (z TI TO i1 i2 l1 l2 : Addr) (D : ZipApart z TI TO i1 i2 l1 l2) :
  Turn P w K (.Tuple elts x1 tp) (Itz K l1 l2) [z, TI, TO, i1, i2] z (fun i h => IsZip h z TI TO .none /\ IsPair h TI (.ref i1) (.ref i2) /\ (∃ a b, IsPair h TO a b) /\ h.IsListIter i1 l1 i /\ h.IsListIter i2 l2 i) where
 mem := by simp
 obj := fun i h zq b hb => by
  obtain ⟨hz, hTI, ⟨a, c, hTO⟩, ⟨o1, q1, c1, d1⟩, ⟨o2, q2, c2, d2⟩⟩ := zq
  simp only [List.mem_cons, List.not_mem_nil, or_false] at hb
  rcases hb with rfl | rfl | rfl | rfl | rfl
  ·exact ⟨_, hz, fun v e => by
    have e' : Data.fields _ = Data.cell v := e
    cases e'⟩
  ·exact ⟨_, hTI, fun v e => by
    have e' : Data.seq _ _ = Data.cell v := e
    cases e'⟩
  ·exact ⟨_, hTO, fun v e => by
    have e' : Data.seq _ _ = Data.cell v := e
    cases e'⟩
  ·exact ⟨o1, q1, fun v e => by rw [d1] at e; cases e⟩
  ·exact ⟨o2, q2, fun v e => by rw [d2] at e; cases e⟩
 keep := fun i h h' zq k => by
  obtain ⟨hz, hTI, ⟨a, c, hTO⟩, s1, s2⟩ := zq
  exact ⟨k z (by simp) _ hz, k TI (by simp) _ hTI, ⟨a, c, k TO (by simp) _ hTO⟩, s1.at fun o q => k i1 (by simp) o q, s2.at fun o q => k i2 (by simp) o q⟩
 item := by
  intro X hP hw hK hc i pins s σ H E I hf zq hg
  subst hP hw hK
  obtain ⟨hz, hTI, ⟨a, c, hTO⟩, s1, s2⟩ := zq
  obtain ⟨xs, ys, x, y, hq1, hq2, hx, hy⟩ := hg
  obtain ⟨its1, rv1, p1, hz1⟩ := I.list hq1
  obtain ⟨its2, rv2, p2, hz2⟩ := I.list hq2
  obtain ⟨u1, hu1, ru1⟩ := rv1.get hx
  obtain ⟨u2, hu2, ru2⟩ := rv2.get hy
  refine wpAny_pyNext_zip_item D hz hTI hTO s1 s2 p1.isList p2.isList (x := u1) (y := u2) (by simpa using hu1) (by simpa using hu2) fun h' a1 a2 a3 a4 a5 a6 a7 => ⟨_, rfl, wpAny_letOwnedTupleGo_zip (s := { s with heap := h' }) a1 fun h2 b1 b2 => ?_⟩
  have kb : ∀ b o, b ≠ z -> h'.get? b = some o -> h2.get? b = some o := fun b o hb q => (b2.2 b hb).trans q
  have I2 : Inv X pins σ H { s with heap := h2, toks := s.toks } := I.turnedL (fp := [z, TI, TO, i1, i2]) (fun b o nb q => by
   simp only [List.mem_cons, List.not_mem_nil, or_false, not_or] at nb
   exact kb b o nb.1 (a7 b o nb.1 nb.2.2.1 nb.2.2.2.1 nb.2.2.2.2 q)) hf
  have np : H s.heap.objs.size = none := I.hok.fresh (Nat.le_refl _)
  obtain ⟨_, f1, _, f3, f4, f5⟩ := I.fpOk (H' := H) (b := s.heap.objs.size) (Nat.le_refl _) np
  have nn : ∀ {b o}, s.heap.get? b = some o -> s.heap.objs.size ≠ b := fun q => Nat.ne_of_gt (Heap.lt_size q)
  have hTI' : IsPair h2 TI (.ref i1) (.ref i2) := kb _ _ D.TIz (a7 _ _ D.TIz D.TITO D.TIi1 D.TIi2 hTI)
  refine ⟨.ref s.heap.objs.size, upd H s.heap.objs.size (.tup [x, y]), I2.track np I.sz f1 f4 f5 ⟨by rw [sizeLine_eq]; exact Nat.le_of_ble_eq_true rfl, [u1, u2], .cons ru1 (.cons ru2 .nil), ⟨_, kb _ _ (nn hz) a5, rfl, _, rfl⟩⟩, rfl,
   ⟨_, np, rfl, fun zs ws h1 h2 => ⟨x, y, by rw [I.list_inj h1 hq1]; exact hx, by rw [I.list_inj h2 hq2]; exact hy, rfl⟩⟩,
   ⟨b1, hTI', ⟨_, _, kb _ _ D.TOz a2⟩, a3.at fun o q => kb i1 o D.i1z q, a4.at fun o q => kb i2 o D.i2z q⟩, fun b hb => ?_⟩
  have hbn := (hf b hb).1
  obtain ⟨ob, hob⟩ : ∃ o, s.heap.get? b = some o := by
   obtain ⟨o1, q1, _⟩ := id s1
   obtain ⟨o2, q2, _⟩ := id s2
   simp only [List.mem_cons, List.not_mem_nil, or_false] at hb
   rcases hb with rfl | rfl | rfl | rfl | rfl
   ·exact ⟨_, hz⟩
   ·exact ⟨_, hTI⟩
   ·exact ⟨_, hTO⟩
   ·exact ⟨_, q1⟩
   ·exact ⟨_, q2⟩
  rw [aC (Ne.symm (nn hob))]
  exact hbn
 done := by
  intro X hP hw hK hc i pins s σ H E I hf zq hg
  subst hP hw hK
  obtain ⟨hz, hTI, ⟨a, c, hTO⟩, s1, s2⟩ := zq
  obtain ⟨xs, ys, hq1, hq2, hx⟩ := hg
  obtain ⟨its1, rv1, p1, hz1⟩ := I.list hq1
  obtain ⟨its2, rv2, p2, hz2⟩ := I.list hq2
  have e1 := rv1.length
  have e2 := rv2.length
  refine wpAny_pyNext_zip_end (I.ok.hd hc) D hz hTI hTO s1 s2 p1.isList p2.isList ?_ fun h' hk => ⟨rfl, I.turnedL (t' := s.toks) (fp := [z, TI, TO, i1, i2]) (fun b o nb q => by
   simp only [List.mem_cons, List.not_mem_nil, or_false, not_or] at nb
   exact hk b o nb.1 nb.2.2.1 nb.2.2.2.1 nb.2.2.2.2 q) hf⟩
  rcases hx with hx | hx
  ·exact .inl (Array.getElem?_eq_none (by simp; lia))
  ·exact .inr (Array.getElem?_eq_none (by simp; lia))
 self := fun _ _ _ _ _ zq h => wpAny_pyIter_zip zq.1 h
section
variable {X : Cx}
def De (K : PySem.W.Frag) (ta : TA) : TI := fun σ H R => ta σ H fun vs H1 => ∃ l1 l2, vs = [.ref l1, .ref l2] /\ (∃ xs, SqL K H1 l1 xs) /\ (∃ xs, SqL K H1 l2 xs) /\ R (Itz K l1 l2) H1
theorem AC {a b : Expr} {ta : TA} {p pos tp : Pos} {elts : List Expr} {x1} (hg : Gl X "zip") (hm : X.mg "zip" = none) (ha : PA X [a, b] ta) (hs : starEach [a, b] X.env = (false, eval a X.env) :: starEach [b] X.env := by rfl) (hpl : (backTo pos (starEach [b] X.env)).any (·.1) = false := by rfl) : PI X (.Tuple elts x1 tp) (.Call (.Name "zip" p) [a, b] [] pos) (De X.K ta) := by
 intro pins s σ H R I h
 refine Call_ (fu I hg hm boot_zip (PyProof.Rows.callWith_type1 (thn (ha pos pins s σ H _ I h) fun us s1 zr1 => ?_) hs hpl))
 obtain ⟨vs, H1, I1, r1, q1⟩ := zr1
 obtain ⟨l1, l2, e, ⟨xs, hq1⟩, ⟨ys, hq2⟩, q⟩ := q1
 subst e
 obtain ⟨u1, u2, rfl, ru1, ru2⟩ := vals2 r1
 cases ru1; cases ru2
 obtain ⟨its1, rv1, pl1, hz1⟩ := I1.list hq1
 obtain ⟨its2, rv2, pl2, hz2⟩ := I1.list hq2
 refine call_zip_2 pl1.isList pl2.isList fun h' g1 g2 g3 g4 g5 g6 g7 => ?_
 have I2 : Inv X pins σ H1 { s1 with heap := h' } := I1.kept (t' := s1.toks) g7
 have lt1 : l1 < s1.heap.objs.size := by obtain ⟨o, e, _⟩ := pl1.isList; exact Heap.lt_size e
 have lt2 : l2 < s1.heap.objs.size := by obtain ⟨o, e, _⟩ := pl2.isList; exact Heap.lt_size e
 have ap : ZipApart (s1.heap.objs.size + 4) (s1.heap.objs.size + 2) (s1.heap.objs.size + 3) s1.heap.objs.size (s1.heap.objs.size + 1) l1 l2 := by
  constructor <;> (intro e; have e : (_ : Nat) = _ := e; lia)
 refine wpAny_pyIter_zip (s := { s1 with heap := h' }) g1 ⟨s1.heap.objs.size + 4, [s1.heap.objs.size + 4, s1.heap.objs.size + 2, s1.heap.objs.size + 3, s1.heap.objs.size, s1.heap.objs.size + 1], _, Itz X.K l1 l2, H1, rfl, I2, sQ _ _ _ _ _ l1 l2 ap, ⟨g1, g2, ⟨_, _, g3⟩, g4, g5⟩, fun b hb => ?_, q⟩
 have hb' : s1.heap.objs.size <= b := by
  simp only [List.mem_cons, List.not_mem_nil, or_false] at hb
  rcases hb with rfl | rfl | rfl | rfl | rfl
  all_goals first | exact Nat.le_add_right _ _ | exact Nat.le_refl _
 exact I1.fpOk hb' (I1.hok.fresh hb')
end
end L2
namespace VL
open PySem L2
section
variable {K : PySem.W.Frag} {X : Cx} {a b : Expr} {tr : TA} {vr : VTA} {S : List Sl} {QN : List D -> List Sl -> Prop} {p pos tp : Pos}
def zpD (ds es : List D) : List D := (ds.zip es).map fun x => .tup [x.1, x.2]
theorem vT (ds es : List D) : (zpD ds es).length = min ds.length es.length := by simp [zpD]
theorem AD {ds es : List D} {i : Nat} {d e : D} (h : ds[i]? = some d) (h' : es[i]? = some e) : (zpD ds es)[i]? = some (.tup [d, e]) := by
 unfold zpD
 rw [List.getElem?_map, (List.getElem?_zip_eq_some (z := (d, e))).mpr ⟨h, h'⟩]
 rfl
def Df (vr : VTA) : VTN := fun S Q => vr S fun rs S1 => ∃ ds es, rs = [.d (.lst ds), .d (.lst es)] /\ Q (zpD ds es) S1
theorem AE {elts : List Expr} {x1} (hK : X.K = K) (hg : Gl X "zip") (hm : X.mg "zip" = none) (ha : VA K X false [a, b] tr vr) (hs : starEach [a, b] X.env = (false, eval a X.env) :: starEach [b] X.env := by rfl) (hpl : (backTo pos (starEach [b] X.env)).any (·.1) = false := by rfl) :
  VI K X (.Tuple elts x1 tp) (.Call (.Name "zip" p) [a, b] [] pos) (De K tr) (Df vr) := ⟨by subst hK; exact AC hg hm ha.pe hs hpl, fun H0 Z σ H S Q C k t hc =>
 ha.snd H0 Z σ H S _ _ k t fun vs H1 rs S1 k1 st1 rrs zq1 => by
  obtain ⟨ds, es, e, q⟩ := zq1
  subst e
  cases rrs with
  | @cons v1 _ _ _ rv1 rr =>
  obtain ⟨v2, rfl, rv2⟩ := rr.one
  have rv1 : Rep K _ _ H1 v1 (.lst ds) := rv1
  have rv2 : Rep K _ _ H1 v2 (.lst es) := rv2
  obtain ⟨l1, xs, rfl, hq1, _⟩ := rv1.sqL
  obtain ⟨l2, ys, rfl, hq2, _⟩ := rv2.sqL
  refine ⟨l1, l2, rfl, ⟨xs, hq1⟩, ⟨ys, hq2⟩, hc _ (zpD ds es) H1 S1 k1 st1 (fun σ2 S2 H2 nm st2 i => ?_) q⟩
  obtain ⟨_, xs', e, hx2, r1⟩ := (rv1.step st2).sqL
  cases e
  obtain ⟨_, ys', e, hy2, r2⟩ := (rv2.step st2).sqL
  cases e
  rw [vT]
  refine ⟨fun hi => ?_, fun x H3 hy hi => ?_, fun hi => ⟨xs', ys', hx2, hy2, by rw [r1.length, r2.length]; lia⟩⟩
  ·obtain ⟨x, h1, _⟩ := r1.getD (List.getElem?_eq_getElem (show i < ds.length by lia))
   obtain ⟨y, h2, _⟩ := r2.getD (List.getElem?_eq_getElem (show i < es.length by lia))
   exact ⟨xs', ys', x, y, hx2, hy2, h1, h2⟩
  ·obtain ⟨p, hp, rfl, hy⟩ := hy
   obtain ⟨y, z, h2, h3, rfl⟩ := hy xs' ys' hx2 hy2
   obtain ⟨d, h4, h5⟩ := r1.get h2
   obtain ⟨d', h6, h7⟩ := r2.get h3
   have g := aU (o := .tup [y, z]) hp
   exact ⟨g, _, AD h4 h6, .tup (nm p hp) (.inl aG) (.cons (h5.mono (fun b n z => ⟨n, g b z⟩) fun _ _ => trivial) (.cons (h7.mono (fun b n z => ⟨n, g b z⟩) fun _ _ => trivial) .nil))⟩⟩
@[irreducible] def vU (QN : List D -> List Sl -> Prop) : List VR -> List Sl -> Prop := fun rs S1 => ∃ ds es, rs = [.d (.lst ds), .d (.lst es)] /\ QN (zpD ds es) S1
theorem Dg (h : vr S (vU QN)) : Df vr S QN := by unfold vU at h; exact h
theorem AF {ds es : List D} (h : QN (zpD ds es) S) : vU QN [.d (.lst ds), .d (.lst es)] S := by unfold vU; exact ⟨ds, es, rfl, h⟩
end
end VL
end
section
namespace VL
open PySem L2
section
variable {K : PySem.W.Frag} {X : Cx} {m : Bool} {pos p : Pos} {a b : Expr} {ta tb : TE} {va vb : VT} {S : List Sl} {Q : VR -> List Sl -> Prop}
def sR : D -> D -> (D -> Prop) -> Prop := fun d1 d2 q => ∃ i j : Str, d1 = .str i /\ d2 = .str j /\ i.length + j.length <= sizeLine /\ q (.str (i ++ j))
theorem aT : bT K (fun x y H Q => ∃ i j, x = .str i /\ y = .str j /\ i.length + j.length <= sizeLine /\ Q (.str (i ++ j)) H) sR := by
 rintro x y H d1 d2 q Cc r1 r2 ⟨i, j, rfl, rfl, hz, h⟩ hc
 cases r1; cases r2
 exact ⟨i, j, rfl, rfl, hz, hc _ _ h fun _ _ => .str _⟩
def inS (i j : Str) : Bool := !(Builtin.Str.occurrences j i 0 j.length 1).isEmpty
def vV (neg : Bool) : D -> D -> (D -> Prop) -> Prop := fun d1 d2 q => ∃ i j : Str, d1 = .str i /\ d2 = .str j /\ q (.bl (if neg then !inS i j else inS i j))
theorem sS : bT K (fun x y H Q => ∃ i j, x = .str i /\ y = .str j /\ Q (.bl (!(Builtin.Str.occurrences j i 0 j.length 1).isEmpty)) H) (vV false) := by
 rintro x y H d1 d2 q Cc r1 r2 ⟨i, j, rfl, rfl, h⟩ hc
 cases r1; cases r2
 exact ⟨i, j, rfl, rfl, hc _ _ h fun _ _ => .bl _⟩
theorem mH : bT K (fun x y H Q => ∃ i j, x = .str i /\ y = .str j /\ Q (.bl (!(!(Builtin.Str.occurrences j i 0 j.length 1).isEmpty))) H) (vV true) := by
 rintro x y H d1 d2 q Cc r1 r2 ⟨i, j, rfl, rfl, h⟩ hc
 cases r1; cases r2
 exact ⟨i, j, rfl, rfl, hc _ _ h fun _ _ => .bl _⟩
def yc : List D -> (D -> Prop) -> Prop := fun ds q => ∃ z : Str, ds = [.str z] /\ z.length <= sizeLine /\ q (.int z.length)
theorem d9 : eJ K (fun xs H Q => ∃ z, xs = [.str z] /\ z.length <= sizeLine /\ Q (.int z.length) H) yc := by
 rintro xs H ds q C r ⟨z, rfl, hz, h⟩ hc
 obtain ⟨v, rfl, rv⟩ := rep1 r
 cases rv
 exact ⟨z, rfl, hz, hc _ _ h fun _ _ => .int _⟩
def AG (va vb : VT) : VT := fun S Q => va S fun ra S1 => vb S1 fun rb S2 => ∃ (z : Str) (i : Int) (c : Nat), ra = .d (.str z) /\ rb = .d (.int i) /\ z.length <= sizeLine /\ atI z.cps.toList i = some c /\ Q (.d (.str ⟨#[c]⟩)) S2
theorem kO (hK : X.K = K) (ha : VE K X false a ta va) (hb : VE K X false b tb vb) (hs : eU b) : VE K X m (.Subscript a b pos) (tOp (rIx K) ta tb) (AG va vb) := ⟨by subst hK; exact lM kn ha.pe hb.pe hs, fun H0 Z σ H S Q C k t hc =>
 ha.snd H0 Z σ H S _ _ k t fun x H1 ra S1 k1 st1 r1 t1 => hb.snd H0 Z σ H1 S1 _ _ k1 t1 fun y H2 rb S2 k2 st2 r2 zq1 => by
  obtain ⟨z, i, c, rfl, rfl, hz, hat, q⟩ := zq1
  cases (show Rep K _ _ H1 x (.str z) from r1)
  cases (show Rep K _ _ H2 y (.int i) from r2)
  exact .inr (.inr ⟨z, i, c, rfl, rfl, hz, hat, hc _ H2 (.d (.str _)) S2 k2 (st1.trans st2) (Rep.str _) q⟩)⟩
end
end VL
end
section
namespace L2
open PySem PySem.Spec PyProof.Rows
def Dh : V -> List V -> Hp -> VK -> Prop := fun x xs H Q => ∃ z y, x = .str z /\ xs = [.str y] /\ z.length <= sizeLine /\ Q (.str (Txt.removeprefix z y)) H
theorem AH {X : Cx} : MtR X "str.removeprefix" Dh := by
 rintro pins s σ H x xs v us Q I rx r ⟨z, y, e1, e2, h, q⟩
 subst e1; subst e2
 obtain ⟨u, rfl, t', rfl⟩ := Vals.one r
 obtain ⟨t, rfl⟩ := rx
 exact SC.removeprefix (fun t' k => ⟨.str _, H, I.tok _, ⟨_, rfl⟩, q⟩) h
theorem gc : ∀ (l : List (Str × Tok)), Vals ((l.map (·.1)).map V.str) (strValues l)
 | [] => .nil
 | p :: r => .cons ⟨p.2, rfl⟩ (gc r)
theorem gj : ∀ {zs : List Str} {us : List Value}, Vals (zs.map V.str) us -> ∃ l : List (Str × Tok), us = strValues l /\ l.map (·.1) = zs
 | [], _, r => by cases r; exact ⟨[], rfl, rfl⟩
 | z :: zs, _, r => by
  cases r with
  | cons h t =>
   obtain ⟨k, rfl⟩ := h
   obtain ⟨l, rfl, e⟩ := gj t
   exact ⟨(z, k) :: l, rfl, by rw [List.map_cons, e]⟩
def rJoin (K : PySem.W.Frag) : V -> List V -> Hp -> VK -> Prop := fun x xs H Q => ∃ (z : Str) (l : Addr) (zs : List Str), x = .str z /\ xs = [.ref l] /\ SqL K H l (zs.map V.str) /\ JoinOk z zs = true /\ Q (.str (Txt.join z zs)) H
theorem pw {X : Cx} : MtR X "str.join" (rJoin X.K) := by
 rintro pins s σ H x xs v us Q I rx r ⟨z, l, zs, e1, e2, h, hok, q⟩
 subst e1; subst e2
 obtain ⟨u, rfl, ru⟩ := Vals.one r
 cases ru
 obtain ⟨t, rfl⟩ := rx
 obtain ⟨its, ri, pl, _⟩ := I.list h
 obtain ⟨ps, rfl, e⟩ := gj ri
 exact SC.join pl.isList e hok fun t' k => ⟨.str _, H, I.tok _, ⟨_, rfl⟩, q⟩
def sT : V -> List V -> Hp -> VK -> Prop := fun x xs H Q => ∃ z y, x = .str z /\ xs = [.str y] /\ z.length + 2 <= sizeLine /\ (y.length == 0) = false /\ (Txt.split z y).length <= sizeLine /\ ∀ D, H D = none -> Q (.ref D) (upd H D (.lst ((Txt.split z y).map V.str)))
theorem sU {X : Cx} (hex : X.ex = []) : MtR X "str.split" sT := by
 rintro pins s σ H x xs v us Q I rx r ⟨z, y, e1, e2, hz, hy, hn, q⟩
 subst e1; subst e2
 obtain ⟨u, rfl, t', rfl⟩ := Vals.one r
 obtain ⟨t, rfl⟩ := rx
 obtain ⟨m, F⟩ := I.fr
 refine splitN1 F dD hy (fun l h' k hl F' N' => ?_) hz
 have lt : ∀ p ∈ bF X.base s.heap X.env.locals, p.1 < s.heap.objs.size := fun p hp => Heap.lt_size (eD hp).2.2
 obtain ⟨hD, I2⟩ := I.made_list (c := 0) hex F.ns F' N' lt (hl ▸ gc l) (by rw [List.length_map]; exact hn)
 exact ⟨.ref _, _, I2.tok k, rfl, q _ hD⟩
end L2
namespace VL
open PySem L2
section
variable {K : PySem.W.Frag} {X : Cx} {m : Bool} {e o : Expr} {te ta : TE} {va vb : VT} {pos apos : Pos} {S : List Sl} {Q : VR -> List Sl -> Prop} {QN : List D -> List Sl -> Prop}
def Di (va vb : VT) : VT := fun S Q => va S fun ra S1 => ∃ z, ra = .d (.str z) /\ vb S1 fun rb S2 => ∃ y, rb = .d (.str y) /\ z.length <= sizeLine /\ Q (.d (.str (Txt.removeprefix z y))) S2
theorem sV (hK : X.K = K) (ho : VE K X false o ta va) (h : VE K X false e te vb) (hbase : attributeBase o "removeprefix" X.env (eval o X.env) = eval o X.env := by rfl)
  (hfew : ((backTo pos (starEach (e :: []) X.env)).all (fun x => !x.1) && (backToKw pos (keywordEach [] X.env)).all (fun x => x.1.isSome)
   && decide ((e :: []).length + ([] : List Keyword).length + (if ([] : List Keyword).isEmpty then 0 else 1) < 30)) = true := by rfl)
  (hline : (apos.endLine == pos.line) = true := by rfl) (hs : starEach (e :: []) X.env = (false, eval e X.env) :: starEach [] X.env := by rfl) (hplain : (backTo pos (starEach [] X.env)).any (·.1) = false := by rfl) :
  VE K X m (.Call (.Attribute o "removeprefix" apos) [e] [] pos) (tBM K "str" Dh ta (cF te gF)) (Di va vb) := ⟨by
 have := jN PySem.F.plainAttrs_str PySem.F.slot_str_removeprefix PySem.F.type_str_removeprefix AH ho.pe (bK h.pe dw hs) hbase hfew hline hs hplain
 rwa [hK] at this, fun H0 Z σ H S Q C k t hc => by
 refine ho.snd H0 Z σ H S _ _ k t fun x H1 ra S1 k1 st1 r1 t1 => ?_
 obtain ⟨z, rfl, t1⟩ := t1
 cases (show Rep K _ _ H1 x (.str z) from r1)
 refine ⟨rfl, h.snd H0 Z σ H1 S1 _ _ k1 t1 fun y H2 rb S2 k2 st2 r2 t2 => ?_⟩
 obtain ⟨yy, rfl, hl, q⟩ := t2
 cases (show Rep K _ _ H2 y (.str yy) from r2)
 exact ⟨z, yy, rfl, rfl, hl, hc _ H2 (.d (.str _)) S2 k2 (st1.trans st2) (Rep.str _) q⟩⟩
def yd (va vb : VT) : VT := fun S Q => va S fun ra S1 => ∃ z, ra = .d (.str z) /\ vb S1 fun rb S2 => ∃ zs : List Str, get S2 rb = some (.lst (zs.map .str)) /\ JoinOk z zs = true /\ Q (.d (.str (Txt.join z zs))) S2
theorem Reps.toStrs {N : AP} : ∀ {vs : List V} {zs : List Str}, Reps K N F H vs (zs.map .str) -> vs = zs.map V.str
 | [], [], _ => rfl
 | _ :: _, [], r => by cases r
 | [], _ :: _, r => by cases r
 | _ :: vs, _ :: zs, r => by
  cases r with
  | cons h t => cases h; rw [List.map_cons, <- Reps.toStrs t]
theorem Reps.strs {N : AP} : ∀ {zs : List Str}, Reps K N F H (zs.map V.str) (zs.map .str)
 | [] => .nil
 | _ :: _ => .cons (.str _) Reps.strs
theorem vW (hK : X.K = K) (ho : VE K X false o ta va) (h : VE K X false e te vb) (hbase : attributeBase o "join" X.env (eval o X.env) = eval o X.env := by rfl)
  (hfew : ((backTo pos (starEach (e :: []) X.env)).all (fun x => !x.1) && (backToKw pos (keywordEach [] X.env)).all (fun x => x.1.isSome)
   && decide ((e :: []).length + ([] : List Keyword).length + (if ([] : List Keyword).isEmpty then 0 else 1) < 30)) = true := by rfl)
  (hline : (apos.endLine == pos.line) = true := by rfl) (hs : starEach (e :: []) X.env = (false, eval e X.env) :: starEach [] X.env := by rfl) (hplain : (backTo pos (starEach [] X.env)).any (·.1) = false := by rfl) :
  VE K X m (.Call (.Attribute o "join" apos) [e] [] pos) (tBM K "str" (rJoin K) ta (cF te gF)) (yd va vb) := ⟨by
 have := jN PySem.F.plainAttrs_str PySem.F.slot_str_join PySem.F.type_str_join pw ho.pe (bK h.pe dw hs) hbase hfew hline hs hplain
 rwa [hK] at this, fun H0 Z σ H S Q C k t hc => by
 refine ho.snd H0 Z σ H S _ _ k t fun x H1 ra S1 k1 st1 r1 t1 => ?_
 obtain ⟨z, rfl, t1⟩ := t1
 cases (show Rep K _ _ H1 x (.str z) from r1)
 refine ⟨rfl, h.snd H0 Z σ H1 S1 _ _ k1 t1 fun y H2 rb S2 k2 st2 r2 t2 => ?_⟩
 obtain ⟨zs, e1, hok, q⟩ := t2
 obtain ⟨p, vs, rfl, hq, rr⟩ := r2.elems k2 e1
 cases Reps.toStrs rr
 exact ⟨z, p, zs, rfl, rfl, hq, hok, hc _ H2 (.d (.str _)) S2 k2 (st1.trans st2) (Rep.str _) q⟩⟩
def sW (va : VT) (t : VTN) : VT := fun S Q => va S fun ra S1 => ∃ z, ra = .d (.str z) /\ t S1 fun ds S2 => ∃ zs : List Str, ds = zs.map .str /\ JoinOk z zs = true /\ Q (.d (.str (Txt.join z zs))) S2
theorem mI {t : VTN} (hK : X.K = K) (ho : VE K X false o ta va) (h : VN K X e te t) (hbase : attributeBase o "join" X.env (eval o X.env) = eval o X.env := by rfl)
  (hfew : ((backTo pos (starEach (e :: []) X.env)).all (fun x => !x.1) && (backToKw pos (keywordEach [] X.env)).all (fun x => x.1.isSome)
   && decide ((e :: []).length + ([] : List Keyword).length + (if ([] : List Keyword).isEmpty then 0 else 1) < 30)) = true := by rfl)
  (hline : (apos.endLine == pos.line) = true := by rfl) (hs : starEach (e :: []) X.env = (false, eval e X.env) :: starEach [] X.env := by rfl) (hplain : (backTo pos (starEach [] X.env)).any (·.1) = false := by rfl) :
  VE K X m (.Call (.Attribute o "join" apos) [e] [] pos) (tBM K "str" (rJoin K) ta (cF te gF)) (sW va t) := ⟨by
 have := jN PySem.F.plainAttrs_str PySem.F.slot_str_join PySem.F.type_str_join pw ho.pe (bK h.pe dw hs) hbase hfew hline hs hplain
 rwa [hK] at this, fun H0 Z σ H S Q C k t hc => by
 refine ho.snd H0 Z σ H S _ _ k t fun x H1 ra S1 k1 st1 r1 t1 => ?_
 obtain ⟨z, rfl, t1⟩ := t1
 cases (show Rep K _ _ H1 x (.str z) from r1)
 refine ⟨rfl, h.snd H0 Z σ H1 S1 _ _ k1 t1 fun p vs ds H2 H' S2 k2 st2 hp hg hl rr t2 => ?_⟩
 obtain ⟨zs, rfl, hok, q⟩ := t2
 cases Reps.toStrs rr
 exact ⟨z, p, zs, rfl, rfl, .inl (.inl hl), hok, hc _ H' (.d (.str _)) S2 (k2.grow hg) (st1.trans (st2.trans (.grow hg))) (Rep.str _) q⟩⟩
def sX (va vb : VT) : VTN := fun S Q => va S fun ra S1 => ∃ z, ra = .d (.str z) /\ vb S1 fun rb S2 => ∃ y, rb = .d (.str y) /\ z.length + 2 <= sizeLine /\ (y.length == 0) = false /\ (Txt.split z y).length <= sizeLine /\ Q ((Txt.split z y).map .str) S2
theorem dh (hK : X.K = K) (hex : X.ex = []) (ho : VE K X false o ta va) (h : VE K X false e te vb) (hbase : attributeBase o "split" X.env (eval o X.env) = eval o X.env := by rfl)
  (hfew : ((backTo pos (starEach (e :: []) X.env)).all (fun x => !x.1) && (backToKw pos (keywordEach [] X.env)).all (fun x => x.1.isSome)
   && decide ((e :: []).length + ([] : List Keyword).length + (if ([] : List Keyword).isEmpty then 0 else 1) < 30)) = true := by rfl)
  (hline : (apos.endLine == pos.line) = true := by rfl) (hs : starEach (e :: []) X.env = (false, eval e X.env) :: starEach [] X.env := by rfl) (hplain : (backTo pos (starEach [] X.env)).any (·.1) = false := by rfl) :
  VN K X (.Call (.Attribute o "split" apos) [e] [] pos) (tBM K "str" sT ta (cF te gF)) (sX va vb) := ⟨by
 have := jN PySem.F.plainAttrs_str PySem.F.slot_str_split PySem.F.type_str_split (sU hex) ho.pe (bK h.pe dw hs) hbase hfew hline hs hplain
 rwa [hK] at this, fun H0 Z σ H S Q C k t hc => by
 refine ho.snd H0 Z σ H S _ _ k t fun x H1 ra S1 k1 st1 r1 t1 => ?_
 obtain ⟨z, rfl, t1⟩ := t1
 cases (show Rep K _ _ H1 x (.str z) from r1)
 refine ⟨rfl, h.snd H0 Z σ H1 S1 _ _ k1 t1 fun y H2 rb S2 k2 st2 r2 t2 => ?_⟩
 obtain ⟨yy, rfl, hz, hy, hn, q⟩ := t2
 cases (show Rep K _ _ H2 y (.str yy) from r2)
 exact ⟨z, yy, rfl, rfl, hz, hy, hn, fun D hD => hc D _ _ H2 _ S2 k2 (st1.trans st2) hD (aU hD) aG Reps.strs q⟩⟩
end
end VL
end
section
namespace L2
open PySem PySem.Spec PyProof.Rows
section
variable {X : Cx}
def Dj : V -> Option Int -> Option Int -> Hp -> VK -> Prop := fun x lo hi H Q => ∃ z : Str, x = .str z /\ z.length <= sizeLine /\ Q (.str (Txt.slice z lo hi)) H
theorem AI : SlR X Dj := by
 intro pins s σ H x v vl vu lo hi sl Q I rx hs pl pu h
 obtain ⟨z, rfl, hz, q⟩ := h
 obtain ⟨t, rfl⟩ := rx
 refine ⟨"str", _, F.slot_str_getitem.lookup, typeIs_str _ _ _, ?_⟩
 have fin : ∀ l u : Option (Int × Tok), vl = partValue l -> vu = partValue u -> l.map (·.1) = lo -> u.map (·.1) = hi -> wpAny (model X.prog X.w) X.A (getItem (.str z t) (.ref sl)) (EP X pins σ Q) X.xe s := by
  intro l u e1 e2 e3 e4
  subst e1 e2 e3 e4
  exact wpAny_getItem_str_slice (l := l) (u := u) (st := none) hs rfl (post_val_or_str ⟨Nat.le_trans (Txt.slice_le z _ _) hz, fun t' k => ⟨.str _, H, I.tok _, ⟨_, rfl⟩, q⟩⟩)
 cases pl with
 | none => cases pu with
  | none => exact fin none none rfl rfl rfl rfl
  | int j u => exact fin none (some (j, u)) rfl rfl rfl rfl
 | int i t => cases pu with
  | none => exact fin (some (i, t)) none rfl rfl rfl rfl
  | int j u => exact fin (some (i, t)) (some (j, u)) rfl rfl rfl rfl
end
end L2
namespace VL
open PySem L2
section
variable {K : PySem.W.Frag} {X : Cx} {m : Bool} {e : Expr} {te : TE} {va : VT} {pos : Pos}
def Dk (va : VT) (vl vh : VO) : VT := fun S Q => va S fun r S1 => ∃ z : Str, r = .d (.str z) /\ vl S1 fun lo S2 => vh S2 fun hi S3 => z.length <= sizeLine /\ Q (.d (.str (Txt.slice z lo hi))) S3
theorem cM {lo hi : Option Expr} {tl th : TO} {vl vh : VO} {p2 : Pos} (h : VE K X false e te va) (hl : VOe K X lo tl vl) (hh : VOe K X hi th vh) : VE K X m (.Subscript e (.Slice lo hi none p2) pos) (tSl Dj te tl th) (Dk va vl vh) :=
 ⟨lK AI h.pe hl.pe hh.pe, fun H0 Z σ H S Q C k t hc => h.snd H0 Z σ H S _ _ k t fun v H1 r S1 k1 st1 rr t1 => by
  obtain ⟨z, rfl, t1⟩ := t1
  cases (show Rep K _ _ H1 v (.str z) from rr)
  exact hl.snd H0 Z σ H1 S1 _ _ k1 t1 fun lo H2 S2 k2 st2 t2 => hh.snd H0 Z σ H2 S2 _ _ k2 t2 fun hi H3 S3 k3 st3 zq1 =>
   ⟨z, rfl, zq1.1, hc _ H3 (.d (.str _)) S3 k3 ((st1.trans st2).trans st3) (Rep.str _) zq1.2⟩⟩
end
end VL
end
section
namespace L2
open PySem PySem.Spec PyProof.Rows
def Its (z : Str) : It := ⟨fun i _ => i < z.cps.size, fun i H x H' => H' = H /\ ∃ c, z.cps[i]? = some c /\ x = .str ⟨#[c]⟩, fun i _ => i = z.cps.size⟩
theorem mJ {P : Program} {w : World} {tg : Expr} (it : Addr) (z : Str) (t : Tok) (ty : String) (hn : ["enumerate", "zip", "dict_itemiterator", "dict_reverseitemiterator", "odict_iterator", "itertools.zip_longest", "itertools.pairwise"].contains ty = false)
  (W : ∀ A : Around, A.handled = none -> Walks P w A it [it] [it] z.cps.size (SignAt z) (fun i h => h.IsStrIter it ty z t i))
  (hself : ∀ (A : Around) (i : Nat) (s : Shared) (Q : Value -> Shared -> Prop) (E : Value -> Shared -> Prop), s.heap.IsStrIter it ty z t i -> Q (.ref it) s -> wpAny (model P w) A (pyIter (.ref it)) Q E s) :
  Turn P w K tg (Its z) [it] it (fun i h => h.IsStrIter it ty z t i) where
 mem := by simp
 obj := fun i h st b hb => by
  have e : b = it := by simpa using hb
  subst e
  obtain ⟨o, e, c, d⟩ := st
  exact ⟨o, e, fun v z => by rw [d] at z; cases z⟩
 keep := fun i h h' st k => let ⟨o, e, r⟩ := st; ⟨o, k it (by simp) o e, r⟩
 item := by
  intro X hP hw hK hc i pins s σ H E I hf st hg
  subst hP hw hK
  obtain ⟨f0, f1, f2, f3, f4, f5⟩ := hf it (by simp)
  refine (W X.A (I.ok.hd hc)).item i s _ _ hg st fun v h' tk hv st' kk => ?_
  obtain ⟨c, u, hx, rfl⟩ := hv
  have I1 : Inv X pins σ H { s with heap := h', toks := tk } := I.turned (fun b o hb e => kk b o (by simpa using hb) e) f0 f1 f3 f4 f5
  obtain ⟨o, e, cc, d⟩ := id st'
  exact ⟨_, rfl, qG (s := { s with heap := h', toks := tk }) e cc d hn ⟨.str ⟨#[c]⟩, H, I1, ⟨u, rfl⟩, ⟨rfl, c, hx, rfl⟩, st', fun b hb => (hf b hb).1⟩⟩
 done := by
  intro X hP hw hK hc i pins s σ H E I hf st hg
  subst hP hw hK
  obtain ⟨f0, f1, f2, f3, f4, f5⟩ := hf it (by simp)
  have hi : i = z.cps.size := hg
  subst hi
  exact (W X.A (I.ok.hd hc)).done s _ _ st fun h' tk kk => ⟨rfl, I.turned (fun b o hb e => kk b o (by simpa using hb) e) f0 f1 f3 f4 f5⟩
 self := fun A i s Q E st h => hself A i s Q E st h
section
variable {X : Cx} {tg : Expr}
def Dl (tl : TE) : TI := fun σ H R => tl σ H fun x H1 => ∃ z, x = .str z /\ R (Its z) H1
theorem AJ {l : Expr} {tl : TE} (hl : PE X l tl) : PI X tg l (Dl tl) := by
 intro pins s σ H R I h
 refine thn (hl pins s σ H _ I h) fun v s1 zr1 => ?_
 obtain ⟨x, H1, I1, r1, q1⟩ := zr1
 obtain ⟨z, e, q⟩ := q1
 subst e
 obtain ⟨t, rfl⟩ := r1
 have fp : ∀ b ∈ [s1.heap.objs.size], eE X pins H1 b := fun b hb => by
  have e : b = s1.heap.objs.size := by simpa using hb
  subst e
  exact I1.fpOk (Nat.le_refl _) (I1.hok.fresh (Nat.le_refl _))
 cases ha : z.cps.all (· < 128)
 ·exact wpAny_pyIter_wide ha ⟨s1.heap.objs.size, [s1.heap.objs.size], _, _, H1, rfl, I1.kept (t' := s1.toks) fun b o e => Heap.get?_push_of_some _ e, mJ _ z t "str_iterator" (by decide) (fun A hA => Walks.strWide hA _ z t) (fun A i s Q E st h => wpAny_pyIter_striter_wide st h), ⟨_, Heap.get?_push_size _ rfl, rfl, rfl⟩, fp, q⟩
 ·exact wpAny_pyIter_ascii ha ⟨s1.heap.objs.size, [s1.heap.objs.size], _, _, H1, rfl, I1.kept (t' := s1.toks) fun b o e => Heap.get?_push_of_some _ e, mJ _ z t "str_ascii_iterator" (by decide) (fun A hA => Walks.strAscii hA _ z t) (fun A i s Q E st h => wpAny_pyIter_striter_ascii st h), ⟨_, Heap.get?_push_size _ rfl, rfl, rfl⟩, fp, q⟩
def ye : List V -> Hp -> VK -> Prop := fun xs H Q => ∃ z n, xs = [.str z] /\ PySem.intText? z = some n /\ z.length <= 640 /\ Q (.int n) H
theorem gQ : cE X (.type "int") ye := by
 intro pins s σ H xs us Q I r h
 obtain ⟨z, n, rfl, hn, hz, q⟩ := h
 obtain ⟨u, rfl, rx⟩ := vals1 r
 obtain ⟨t, rfl⟩ := rx
 exact PySem.W.KIN.call_text hn hz ⟨.int n, H, I.tok _, ⟨_, rfl⟩, q⟩
end
end L2
namespace VL
open PySem L2
section
variable {K : PySem.W.Frag} {X : Cx} {m : Bool} {e tg : Expr} {te : TE} {va : VT} {pos : Pos}
def sgs (z : Str) : List D := z.cps.toList.map fun c => .str ⟨#[c]⟩
def Dm (va : VT) : VTN := fun S Q => va S fun r S1 => ∃ z, r = .d (.str z) /\ Q (sgs z) S1
theorem jh (h : VE K X false e te va) : VI K X tg e (Dl te) (Dm va) := ⟨AJ h.pe, fun H0 Z σ H S Q C k t hc => h.snd H0 Z σ H S _ _ k t fun v H1 r S1 k1 st1 rr zq1 => by
 obtain ⟨z, e, q⟩ := zq1
 subst e
 cases (show Rep K _ _ H1 v (.str z) from rr)
 have hl : (sgs z).length = z.cps.size := by unfold sgs; rw [List.length_map, Array.length_toList]
 refine ⟨z, rfl, hc _ (sgs z) H1 S1 k1 st1 (fun σ2 S2 H2 _ st2 i => ⟨fun hi => (show i < z.cps.size by rw [<- hl]; exact hi), fun x H3 hy hi => ?_, fun hi => hi.trans hl⟩) q⟩
 obtain ⟨rfl, c, hx, rfl⟩ := hy
 refine ⟨fun _ _ => rfl, .str ⟨#[c]⟩, ?_, .str _⟩
 unfold sgs
 rw [List.getElem?_map, Array.getElem?_toList, hx]
 rfl⟩
def yf : List D -> (D -> Prop) -> Prop := fun ds q => ∃ (z : Str) (n : Int), ds = [.str z] /\ PySem.intText? z = some n /\ z.length <= 640 /\ q (.int n)
theorem nU : eJ K ye yf := by
 rintro xs H ds q C r ⟨z, n, rfl, hn, hz, h⟩ hc
 obtain ⟨v, rfl, rv⟩ := rep1 r
 cases rv
 exact ⟨z, n, rfl, hn, hz, hc _ _ h fun _ _ => .int _⟩
end
end VL
end
section
namespace VL
open PySem L2
section
variable {S : List Sl} {Q : VR -> List Sl -> Prop} {QN : List D -> List Sl -> Prop} {QJ : Str -> List Sl -> Prop} {q : D -> Prop} {va vb : VT} {t : VTN} {vj : VTJ} {vl vh : VO} {vr : VTA} {p : PJ2} {x y z acc : Str}
theorem ji (hl : x.length + y.length <= sizeLine) (h : q (.str (x ++ y))) : sR (.str x) (.str y) q := ⟨x, y, rfl, rfl, hl, h⟩
theorem sY {b : Bool} (e : inS x y = b) (h : q (.bl b)) : vV false (.str x) (.str y) q := ⟨x, y, rfl, rfl, by rw [if_neg Bool.false_ne_true, e]; exact h⟩
theorem eg (hl : z.length <= sizeLine) (h : q (.int z.length)) : yc [.str z] q := ⟨z, rfl, hl, h⟩
theorem kQ {n : Int} (hn : PySem.intText? z = some n) (hl : z.length <= 640) (h : q (.int n)) : yf [.str z] q := ⟨z, n, rfl, hn, hl, h⟩
@[irreducible] def pz (vb : VT) (Q : VR -> List Sl -> Prop) : VR -> List Sl -> Prop := fun ra S1 => ∃ z, ra = .d (.str z) /\ vb S1 fun rb S2 => ∃ y, rb = .d (.str y) /\ z.length <= sizeLine /\ Q (.d (.str (Txt.removeprefix z y))) S2
@[irreducible] def pA (z : Str) (Q : VR -> List Sl -> Prop) : VR -> List Sl -> Prop := fun rb S2 => ∃ y, rb = .d (.str y) /\ z.length <= sizeLine /\ Q (.d (.str (Txt.removeprefix z y))) S2
theorem Do (h : va S (pz vb Q)) : Di va vb S Q := by unfold pz at h; exact h
theorem vX (h : vb S (pA z Q)) : pz vb Q (.d (.str z)) S := by unfold pA at h; unfold pz; exact ⟨z, rfl, h⟩
theorem pB (hl : z.length <= sizeLine) (h : Q (.d (.str (Txt.removeprefix z y))) S) : pA z Q (.d (.str y)) S := by unfold pA; exact ⟨y, rfl, hl, h⟩
@[irreducible] def vY (t : VTN) (Q : VR -> List Sl -> Prop) : VR -> List Sl -> Prop := fun ra S1 => ∃ z, ra = .d (.str z) /\ t S1 fun ds S2 => ∃ zs : List Str, ds = zs.map .str /\ JoinOk z zs = true /\ Q (.d (.str (Txt.join z zs))) S2
@[irreducible] def vZ (z : Str) (Q : VR -> List Sl -> Prop) : List D -> List Sl -> Prop := fun ds S2 => ∃ zs : List Str, ds = zs.map .str /\ JoinOk z zs = true /\ Q (.d (.str (Txt.join z zs))) S2
theorem v8 (h : va S (vY t Q)) : sW va t S Q := by unfold vY at h; exact h
theorem AK (h : t S (vZ z Q)) : vY t Q (.d (.str z)) S := by unfold vZ at h; unfold vY; exact ⟨z, rfl, h⟩
theorem sZ {zs : List Str} (e : ds = zs.map .str) (hok : JoinOk z zs = true) (h : Q (.d (.str (Txt.join z zs))) S) : vZ z Q ds S := by unfold vZ; exact ⟨zs, e, hok, h⟩
@[irreducible] def wa (vb : VT) (Q : List D -> List Sl -> Prop) : VR -> List Sl -> Prop := fun ra S1 => ∃ z, ra = .d (.str z) /\ vb S1 fun rb S2 => ∃ y, rb = .d (.str y) /\ z.length + 2 <= sizeLine /\ (y.length == 0) = false /\ (Txt.split z y).length <= sizeLine /\ Q ((Txt.split z y).map .str) S2
@[irreducible] def wb (z : Str) (Q : List D -> List Sl -> Prop) : VR -> List Sl -> Prop := fun rb S2 => ∃ y, rb = .d (.str y) /\ z.length + 2 <= sizeLine /\ (y.length == 0) = false /\ (Txt.split z y).length <= sizeLine /\ Q ((Txt.split z y).map .str) S2
theorem wd (h : va S (wa vb QN)) : sX va vb S QN := by unfold wa at h; exact h
theorem AL (h : vb S (wb z QN)) : wa vb QN (.d (.str z)) S := by unfold wb at h; unfold wa; exact ⟨z, rfl, h⟩
theorem fE {ws : List Str} (hl : z.length + 2 <= sizeLine) (hy : (y.length == 0) = false) (e : Txt.split z y = ws) (hn : ws.length <= sizeLine) (h : QN (ws.map .str) S) : wb z QN (.d (.str y)) S := by unfold wb; subst e; exact ⟨y, rfl, hl, hy, hn, h⟩
@[irreducible] def we (vl vh : VO) (Q : VR -> List Sl -> Prop) : VR -> List Sl -> Prop := fun r S1 => ∃ z : Str, r = .d (.str z) /\ vl S1 fun lo S2 => vh S2 fun hi S3 => z.length <= sizeLine /\ Q (.d (.str (Txt.slice z lo hi))) S3
@[irreducible] def wg (z : Str) (vh : VO) (Q : VR -> List Sl -> Prop) : Option Int -> List Sl -> Prop := fun lo S2 => vh S2 fun hi S3 => z.length <= sizeLine /\ Q (.d (.str (Txt.slice z lo hi))) S3
@[irreducible] def nV (z : Str) (lo : Option Int) (Q : VR -> List Sl -> Prop) : Option Int -> List Sl -> Prop := fun hi S3 => z.length <= sizeLine /\ Q (.d (.str (Txt.slice z lo hi))) S3
theorem Dp (h : va S (we vl vh Q)) : Dk va vl vh S Q := by unfold we at h; exact h
theorem AM (h : vl S (wg z vh Q)) : we vl vh Q (.d (.str z)) S := by unfold wg at h; unfold we; exact ⟨z, rfl, h⟩
theorem AN {lo : Option Int} (h : vh S (nV z lo Q)) : wg z vh Q lo S := by unfold nV at h; unfold wg; exact h
theorem kR {lo hi : Option Int} (hl : z.length <= sizeLine) (e : Txt.slice z lo hi = y) (h : Q (.d (.str y)) S) : nV z lo Q hi S := by unfold nV; subst e; exact ⟨hl, h⟩
@[irreducible] def wj (Q : List D -> List Sl -> Prop) : VR -> List Sl -> Prop := fun r S1 => ∃ z, r = .d (.str z) /\ Q (sgs z) S1
theorem Dq (h : va S (wj QN)) : Dm va S QN := by unfold wj at h; exact h
theorem AO (h : QN (sgs z) S) : wj QN (.d (.str z)) S := by unfold wj; exact ⟨z, rfl, h⟩
end
end VL
end
section
namespace My
open PySem
def jl (c : Nat) : List (List Nat) -> List Nat
 | [] => []
 | [x] => x
 | x :: y :: r => x ++ c :: jl c (y :: r)
theorem kS {c : Nat} {y y' : List Nat} : ∀ {x x' : List Nat}, c ∉ x -> c ∉ x' -> x ++ c :: y = x' ++ c :: y' -> x = x' /\ y = y'
 | [], [], _, _, e => ⟨rfl, (List.cons.inj e).2⟩
 | [], b :: x', _, h, e => by
  have := (List.cons.inj e).1
  subst this
  exact absurd List.mem_cons_self h
 | a :: x, [], h, _, e => by
  have := (List.cons.inj e).1
  subst this
  exact absurd List.mem_cons_self h
 | a :: x, b :: x', h, h', e => by
  obtain ⟨e1, e2⟩ := List.cons.inj e
  obtain ⟨e3, e4⟩ := kS (fun z => h (List.mem_cons_of_mem _ z)) (fun z => h' (List.mem_cons_of_mem _ z)) e2
  exact ⟨by rw [e1, e3], e4⟩
theorem tf {c : Nat} : ∀ {ws vs : List (List Nat)}, ws ≠ [] -> vs ≠ [] -> (∀ w ∈ ws, c ∉ w) -> (∀ v ∈ vs, c ∉ v) -> jl c ws = jl c vs -> ws = vs
 | [], _, h, _, _, _, _ => absurd rfl h
 | _, [], _, h, _, _, _ => absurd rfl h
 | [x], [y], _, _, _, _, e => by rw [show x = y from e]
 | [x], y :: z :: r, _, _, h, _, e => by
  have e : x = y ++ c :: jl c (z :: r) := e
  exact absurd (by rw [e]; simp) (h x List.mem_cons_self)
 | x :: w :: r, [y], _, _, _, h, e => by
  have e : x ++ c :: jl c (w :: r) = y := e
  exact absurd (by rw [<- e]; simp) (h y List.mem_cons_self)
 | x :: w :: r, y :: z :: r', _, _, h, h', e => by
  obtain ⟨e1, e2⟩ := kS (h x List.mem_cons_self) (h' y List.mem_cons_self) e
  rw [e1, tf (by simp) (by simp) (fun a m => h a (List.mem_cons_of_mem _ m)) (fun a m => h' a (List.mem_cons_of_mem _ m)) e2]
theorem kU (c : Nat) : ∀ ws : List Str, (Str.join ⟨#[c]⟩ ws).cps.toList = jl c (ws.map fun w => w.cps.toList)
 | [] => rfl
 | [x] => rfl
 | x :: y :: r => by
  have ih := kU c (y :: r)
  show (x ++ ⟨#[c]⟩ ++ Str.join ⟨#[c]⟩ (y :: r)).cps.toList = x.cps.toList ++ c :: jl c ((y :: r).map fun w => w.cps.toList)
  rw [<- ih]
  show (x.cps ++ #[c] ++ (Str.join ⟨#[c]⟩ (y :: r)).cps).toList = _
  simp
theorem cB {x y : Str} (h : x.cps.toList = y.cps.toList) : x = y := by
 cases x; cases y
 exact congrArg Str.mk (Array.toList_inj.mp h)
theorem gR (m : Nat) : (Str.ofString (toString (Int.negSucc m))).cps.toList = 45 :: (Nat.toDigits 10 (m + 1)).map Char.toNat := by
 rw [PyProof.Rows.signs_ofString]
 show ("-" ++ Nat.repr (m + 1)).toList.map Char.toNat = _
 rw [String.toList_append, List.map_append, Nat.toList_repr]
 rfl
theorem kW (m : Nat) : ∀ c ∈ (Nat.toDigits 10 m).map Char.toNat, 48 <= c /\ c <= 57 := by
 intro c hc
 obtain ⟨ch, hch, e⟩ := List.mem_map.mp hc
 have r := PyProof.Rows.digit_range (Nat.isDigit_of_mem_toDigits (by decide) (by decide) hch)
 rw [<- e]
 exact r
theorem tm (m : Nat) : (Nat.toDigits 10 m).map Char.toNat ≠ [] := fun e => by
 have h : 0 < (Nat.toDigits 10 m).length := Nat.length_toDigits_pos
 rw [List.map_eq_nil_iff.mp e] at h
 exact absurd h (by decide)
theorem pC {m k : Nat} (hk : 0 < k) (h : m < 10 ^ k) : ((Nat.toDigits 10 m).map Char.toNat).length <= k := by
 rw [List.length_map]
 exact (Nat.length_toDigits_le_iff (by decide) hk).mpr h
theorem gk {n : Int} {k : Nat} (hk : 0 < k) (h : n.natAbs < 10 ^ k) : (Str.ofString (toString n)).length <= k + 1 := by
 show (Str.ofString (toString n)).cps.size <= k + 1
 rw [<- Array.length_toList]
 cases n with
 | ofNat m =>
  rw [show (Str.ofString (toString (Int.ofNat m))).cps.toList = (Nat.toDigits 10 m).map Char.toNat from PySem.W.KIN.signs_num m]
  exact Nat.le_succ_of_le (pC hk h)
 | negSucc m =>
  rw [gR, List.length_cons]
  exact Nat.succ_le_succ (pC hk h)
theorem mK {n : Int} (h : n.natAbs < 10 ^ 600) : intText? (Str.ofString (toString n)) = some n := by
 have hl := gk (by decide) h
 cases n with
 | ofNat m =>
  have es : (Str.ofString (toString (Int.ofNat m))).cps.toList = (Nat.toDigits 10 m).map Char.toNat := PySem.W.KIN.signs_num m
  have e := PySem.intText_digits (x := Str.ofString (toString (Int.ofNat m))) (by rw [es]; exact kW m) (by rw [es]; exact tm m) (Nat.le_trans hl (by decide))
  rw [es, PySem.W.KIN.val_back] at e
  exact e
 | negSucc m =>
  have e := PySem.intText_neg (gR m) (kW (m + 1)) (tm (m + 1)) (Nat.le_trans hl (by decide))
  rw [PySem.W.KIN.val_back] at e
  rw [e]
  rfl
end My
end
section
namespace My
open PySem VL
def figs (n : Int) : List Nat := (Nat.toDigits 10 n.natAbs).map Char.toNat
def mk (l : List Nat) : Str := ⟨l.toArray⟩
theorem ao (l : List Nat) : (mk l).cps.toList = l := by unfold mk; simp
theorem aD (l : List Nat) : (mk l).length = l.length := by show l.toArray.size = _; simp
theorem str_mk (z : Str) : z = mk z.cps.toList := cB (by rw [ao])
def wr (n : Int) : Str := Str.ofString (toString n)
theorem tq {n : Int} (h : 0 <= n) : wr n = mk (figs n) := by
 obtain ⟨m, rfl⟩ := Int.eq_ofNat_of_zero_le h
 exact cB (by rw [ao]; exact PySem.W.KIN.signs_num m)
theorem tu {n : Int} (h : n < 0) : wr n = mk (45 :: figs n) := by
 cases n with
 | ofNat m => exact absurd h (by simp)
 | negSucc m => exact cB (by rw [ao]; exact gR m)
theorem pD (n : Int) : ∀ c ∈ figs n, 48 <= c /\ c <= 57 := kW _
theorem AQ {c : Nat} {l : List Nat} (h : c ≠ 45) : Txt.removeprefix (mk (c :: l)) (mk [45]) = mk (c :: l) := by
 rw [StrLaws.removeprefix_eq, StrLaws.subAt_eq, ao, ao, aD]
 have : ((List.drop 0 (c :: l)).take [45].length == [45]) = false := by simpa using h
 rw [this, Bool.and_false, if_neg Bool.false_ne_true]
theorem wm {l : List Nat} : Txt.removeprefix (mk (45 :: l)) (mk [45]) = mk l := by
 rw [StrLaws.removeprefix_eq, StrLaws.subAt_eq, ao, ao, aD, aD]
 rw [if_pos (by simp)]
 show (⟨_⟩ : Str) = ⟨_⟩
 simp
theorem mL {c : Nat} {l : List Nat} : Txt.slice (mk (c :: l)) none (some 1) = mk [c] := by
 have h := PyProof.Rows.slice_closes_to (x := mk (c :: l)) (j := 1) ⟨by decide, by rw [ao, List.length_cons]; lia⟩
 rw [ao] at h
 exact (eq_of_beq h).trans rfl
theorem nW {c : Nat} {l : List Nat} : Txt.slice (mk (c :: l)) (some 1) none = mk l := by
 have h := PyProof.Rows.slice_closes_from (x := mk (c :: l)) (i := 1) ⟨by decide, by rw [ao, List.length_cons]; lia⟩
 rw [ao] at h
 refine (eq_of_beq h).trans ?_
 show mk _ = mk _
 congr 1
 simp
end My
end
section
namespace L2
open PySem PySem.Spec PyProof.Rows
theorem Inv.made_tup {X : Cx} {s : Shared} {m : Str -> Option Value} {h' : Heap} {D : Addr} {vs' : List Value} {ws : List V} (hex : X.ex = []) (I : Inv X pins σ H s) (Fn : s.heap.Ns X.env.locals m) (F' : Fr X.base X.env.locals h' m)
  (N' : News X.base X.env.locals h' ((D, { cls := .type "tuple", data := .seq vs'.toArray }) :: bF X.base s.heap X.env.locals)) (hlt : ∀ q ∈ bF X.base s.heap X.env.locals, q.1 < D) (r : Vals ws vs') (hz : ws.length <= sizeLine) :
  H D = none /\ Inv X pins σ (upd H D (.tup ws)) { s with heap := h' } := by
 have N1 : News X.base X.env.locals h' (bF X.base s.heap X.env.locals) := fun p hp => N' p (List.mem_cons_of_mem _ hp)
 have I1 : Inv X pins σ H { s with heap := h' } := I.led (t' := s.toks) Fn F' N1
 have ND := N' (D, _) List.mem_cons_self
 have young : ∀ b o, s.heap.get? b = some o -> b ≠ D := fun b o e z => by
  by_cases hb : b = X.env.locals
  ·exact ND.2.1 (z ▸ hb)
  ·cases q : X.base.get? b with
   | some u => rw [z, ND.2.2] at q; cases q
   | none => exact absurd (hlt (b, o) (dk hb q e)) (by rw [z]; exact Nat.lt_irrefl _)
 have hDn : H D = none := by
  cases z : H D with
  | none => rfl
  | some u =>
   obtain ⟨ob, eo⟩ := bu.there (I.hok D u z)
   exact absurd rfl (young D ob eo)
 have s0D : X.s₀.heap.get? D = none := by
  cases z : X.s₀.heap.get? D with
  | none => rfl
  | some ob =>
   obtain ⟨o', e'⟩ := I.base.there D ob z (by rw [hex]; simp)
   exact absurd rfl (young D o' e')
 refine ⟨hDn, I1.trackN hDn s0D ND.2.1 (fun x c e z => ?_) (fun p hp z => ?_) ⟨hz, vs', r, _, ND.1, ?_⟩⟩
 ·obtain ⟨v, o, ho, _⟩ := I.cell x c e
  exact young c o ho z
 ·exact young p.1 p.2 (I.pin p hp).1 z
 ·exact ⟨rfl, 0, rfl⟩
def part3 (z y : Str) : List Str := [(Txt.partition z y).1, (Txt.partition z y).2.1, (Txt.partition z y).2.2]
def yg : V -> List V -> Hp -> VK -> Prop := fun x xs H Q => ∃ z y, x = .str z /\ xs = [.str y] /\ (y.length == 0) = false /\ z.length <= sizeLine /\ ∀ D, H D = none -> Q (.ref D) (upd H D (.tup ((part3 z y).map V.str)))
theorem wo {X : Cx} (hex : X.ex = []) : MtR X "str.partition" yg := by
 rintro pins s σ H x xs v us Q I rx r ⟨z, y, e1, e2, hy, hz, q⟩
 subst e1; subst e2
 obtain ⟨u, rfl, t', rfl⟩ := Vals.one r
 obtain ⟨t, rfl⟩ := rx
 obtain ⟨m, F⟩ := I.fr
 refine PySem.W.KXpa.partition F dD hy rfl rfl rfl hz fun D ta tb tc h' k F' N' l1 => ?_
 obtain ⟨hD, I2⟩ := I.made_tup (ws := (part3 z y).map V.str) hex F.ns F' N' l1 (.cons ⟨_, rfl⟩ (.cons ⟨_, rfl⟩ (.cons ⟨_, rfl⟩ .nil))) (by rw [sizeLine_eq]; simp [part3])
 exact ⟨.ref _, _, I2.tok k, rfl, q _ hD⟩
end L2
namespace VL
open PySem L2
section
variable {K : PySem.W.Frag} {X : Cx} {m : Bool} {e o : Expr} {te ta : TE} {va vb : VT} {pos apos : Pos} {S : List Sl} {Q : VR -> List Sl -> Prop}
def yh (va vb : VT) : VT := fun S Q => va S fun ra S1 => ∃ z, ra = .d (.str z) /\ vb S1 fun rb S2 => ∃ y, rb = .d (.str y) /\ (y.length == 0) = false /\ z.length <= sizeLine /\ Q (.d (.tup ((part3 z y).map .str))) S2
theorem iz (hex : X.ex = []) (hK : X.K = K) (ho : VE K X false o ta va) (h : VE K X false e te vb) (hbase : attributeBase o "partition" X.env (eval o X.env) = eval o X.env := by rfl)
  (hfew : ((backTo pos (starEach (e :: []) X.env)).all (fun x => !x.1) && (backToKw pos (keywordEach [] X.env)).all (fun x => x.1.isSome)
   && decide ((e :: []).length + ([] : List Keyword).length + (if ([] : List Keyword).isEmpty then 0 else 1) < 30)) = true := by rfl)
  (hline : (apos.endLine == pos.line) = true := by rfl) (hs : starEach (e :: []) X.env = (false, eval e X.env) :: starEach [] X.env := by rfl) (hplain : (backTo pos (starEach [] X.env)).any (·.1) = false := by rfl) :
  VE K X m (.Call (.Attribute o "partition" apos) [e] [] pos) (tBM K "str" yg ta (cF te gF)) (yh va vb) := ⟨by
 have := jN PySem.F.plainAttrs_str PySem.F.slot_str_partition PySem.F.type_str_partition (wo hex) ho.pe (bK h.pe dw hs) hbase hfew hline hs hplain
 rwa [hK] at this, fun H0 Z σ H S Q C k t hc => by
 refine ho.snd H0 Z σ H S _ _ k t fun x H1 ra S1 k1 st1 r1 t1 => ?_
 obtain ⟨z, rfl, t1⟩ := t1
 cases (show Rep K _ _ H1 x (.str z) from r1)
 refine ⟨rfl, h.snd H0 Z σ H1 S1 _ _ k1 t1 fun y H2 rb S2 k2 st2 r2 t2 => ?_⟩
 obtain ⟨yy, rfl, hy, hz, q⟩ := t2
 cases (show Rep K _ _ H2 y (.str yy) from r2)
 refine ⟨z, yy, rfl, rfl, hy, hz, fun p hp => ?_⟩
 have g := aU (o := .tup ((part3 z yy).map V.str)) hp
 exact hc _ _ (.d (.tup _)) S2 (k2.grow g) ((st1.trans st2).trans (.grow g)) (Rep.tup (k2.nm hp) (.inl aG) Reps.strs) q⟩
variable {z y : Str}
@[irreducible] def kX (vb : VT) (Q : VR -> List Sl -> Prop) : VR -> List Sl -> Prop := fun ra S1 => ∃ z, ra = .d (.str z) /\ vb S1 fun rb S2 => ∃ y, rb = .d (.str y) /\ (y.length == 0) = false /\ z.length <= sizeLine /\ Q (.d (.tup ((part3 z y).map .str))) S2
@[irreducible] def kY (z : Str) (Q : VR -> List Sl -> Prop) : VR -> List Sl -> Prop := fun rb S2 => ∃ y, rb = .d (.str y) /\ (y.length == 0) = false /\ z.length <= sizeLine /\ Q (.d (.tup ((part3 z y).map .str))) S2
theorem AR (h : va S (kX vb Q)) : yh va vb S Q := by unfold kX at h; exact h
theorem tw (h : vb S (kY z Q)) : kX vb Q (.d (.str z)) S := by unfold kY at h; unfold kX; exact ⟨z, rfl, h⟩
theorem gn {a b c : Str} (hy : (y.length == 0) = false) (hl : z.length <= sizeLine) (e : part3 z y = [a, b, c]) (h : Q (.d (.tup [.str a, .str b, .str c])) S) : kY z Q (.d (.str y)) S := by unfold kY; exact ⟨y, rfl, hy, hl, by rw [e]; exact h⟩
end
end VL
end
section
namespace VL
open PySem L2
section
variable {S : List Sl} {Q : VR -> List Sl -> Prop} {q : D -> Prop} {va vb : VT} {x y z : Str}
@[irreducible] def pE (vb : VT) (Q : VR -> List Sl -> Prop) : VR -> List Sl -> Prop := fun ra S1 => vb S1 fun rb S2 => ∃ (z : Str) (i : Int) (c : Nat), ra = .d (.str z) /\ rb = .d (.int i) /\ z.length <= sizeLine /\ atI z.cps.toList i = some c /\ Q (.d (.str ⟨#[c]⟩)) S2
theorem Dr (h : va S (pE vb Q)) : AG va vb S Q := by unfold pE at h; exact h
@[irreducible] def pF (z : Str) (Q : VR -> List Sl -> Prop) : VR -> List Sl -> Prop := fun rb S2 => ∃ (z' : Str) (i : Int) (c : Nat), VR.d (.str z) = .d (.str z') /\ rb = .d (.int i) /\ z'.length <= sizeLine /\ atI z'.cps.toList i = some c /\ Q (.d (.str ⟨#[c]⟩)) S2
theorem wq (h : vb S (pF z Q)) : pE vb Q (.d (.str z)) S := by unfold pF at h; unfold pE; exact h
theorem kZ {i : Int} {c : Nat} (hl : z.length <= sizeLine) (e : atI z.cps.toList i = some c) (h : Q (.d (.str ⟨#[c]⟩)) S) : pF z Q (.d (.int i)) S := by unfold pF; exact ⟨z, i, c, rfl, rfl, hl, e, h⟩
theorem mM {b : Bool} (e : inS x y = b) (h : q (.bl (!b))) : vV true (.str x) (.str y) q := ⟨x, y, rfl, rfl, by rw [if_pos rfl, e]; exact h⟩
end
end VL
end
section
namespace VL
open PySem L2 PySem.W
structure VXe (K : PySem.W.Frag) (X : Cx) (Hin : Hp) (E : XK) (e : Expr) (te : TE) (t : (Addr -> Prop) -> List Sl -> Prop) : Prop where
 pe : PE X e te
 snd : ∀ Wc : Addr -> Prop, (∀ C, Wc C -> ∀ H', (∀ a, Hin a ≠ none -> H' a = Hin a) -> E (.ref C) none H') -> ∀ H0 Z σ H S Q, OK K H0 Z σ H S -> Fz Hin Z σ S H -> t Wc S -> te σ H Q
structure VXa (K : PySem.W.Frag) (X : Cx) (Hin : Hp) (E : XK) (es : List Expr) (ta : TA) (t : (Addr -> Prop) -> List Sl -> Prop) : Prop where
 pe : PA X es ta
 snd : ∀ Wc : Addr -> Prop, (∀ C, Wc C -> ∀ H', (∀ a, Hin a ≠ none -> H' a = Hin a) -> E (.ref C) none H') -> ∀ H0 Z σ H S Q, OK K H0 Z σ H S -> Fz Hin Z σ S H -> t Wc S -> ta σ H Q
section
variable {K : PySem.W.Frag} {X : Cx} {Hin : Hp} {E : XK} {e : Expr} {es : List Expr} {rest : List Stmt} {te te' : TE} {tr tr' : TA} {t u : (Addr -> Prop) -> List Sl -> Prop} {v : VT} {vr : VTA} {pos : Pos}
theorem jk {k j : Nat} {x : Str} {ps : List Str} {bad : List D -> Addr -> Prop} {p0 : Pos} (T : Dc X Hin E) (F : kM X.prog X.w X.K X.mg X.base k x ps bad) (hK : X.K = K) (hr : b7 j X.A) (ha : VA K X false (e :: es) tr vr)
  (hk : k <= j := by decide) (hg : Gl X x := by rfl) (hdb : (x == ("__debug__" : Str)) = false := by decide) (he : starEach (e :: es) X.env = (false, eval e X.env) :: starEach es X.env := by rfl)
  (hpl : (backTo pos (starEach es X.env)).any (·.1) = false := by rfl) :
  VXe K X Hin E (.Call (.Name x p0) (e :: es) [] pos) (jI (spX K bad) [] (fun c _ H' => (∀ b, Hin b ≠ none -> H' b = Hin b) /\ E c none H') tr) (fun Wc S => vr S fun rs S1 => ∃ ds C, gets S1 rs = some ds /\ bad ds C /\ Wc C) := by
 subst hK
 obtain ⟨f, fd, F, hm, kp, hb⟩ := F
 refine ⟨ot F (hr.mono hk) hg hm kp hb .nil (fun pins σ H s e s' I h => T pins σ H s e s' I h) ha.pe hdb he hpl, fun Wc hE H0 Z σ H S Q k f h => ?_⟩
 refine ha.snd H0 Z σ H S _ _ k h fun vs H1 rs S1 k1 st1 rrs zr1 => ?_
 obtain ⟨ds, C, e, hb, hw⟩ := zr1
 have f1 := f.step st1
 refine ⟨ds, C, by rw [List.append_nil]; exact rrs.gets k1 e, hb, fun H' g => ?_⟩
 have fr : ∀ b, Hin b ≠ none -> H' b = Hin b := fun b e => by
  have q := (f1 b e).1
  rw [<- q]
  exact g b (by rw [q]; exact e)
 exact ⟨fr, hE C hw H' fr⟩
theorem wt (h1 : VXe K X Hin E e te t) (h2 : VXe K X Hin E e te' u) : VXe K X Hin E e (fun σ H Q => te σ H Q \/ te' σ H Q) (fun Wc S => t Wc S \/ u Wc S) :=
 ⟨fun pins s σ H Q I h => h.elim (h1.pe pins s σ H Q I) (h2.pe pins s σ H Q I), fun Wc hE H0 Z σ H S Q k f zq => zq.elim (fun z => .inl (h1.snd Wc hE H0 Z σ H S Q k f z)) fun z => .inr (h2.snd Wc hE H0 Z σ H S Q k f z)⟩
theorem mO (h : VXe K X Hin E e te t) (h2 : VA K X false es tr vr) (hs : starEach (e :: es) X.env = (false, eval e X.env) :: starEach es X.env := by rfl) : VXa K X Hin E (e :: es) (cF te tr) t :=
 ⟨bK h.pe h2.pe hs, fun Wc hE H0 Z σ H S Q k f z => h.snd Wc hE H0 Z σ H S _ k f z⟩
theorem tx (h : VE K X false e te v) (h2 : VXa K X Hin E es tr t) (hs : starEach (e :: es) X.env = (false, eval e X.env) :: starEach es X.env := by rfl) : VXa K X Hin E (e :: es) (cF te tr) (fun Wc S => v S fun _ S1 => t Wc S1) :=
 ⟨bK h.pe h2.pe hs, fun Wc hE H0 Z σ H S Q k f z => h.snd H0 Z σ H S _ _ k z fun x H1 r S1 k1 st1 rr q => h2.snd Wc hE H0 Z σ H1 S1 _ k1 (f.step st1) q⟩
theorem pG {x1} (h : VXa K X Hin E es tr t) : VXe K X Hin E (.Tuple es x1 pos) (uA tr) t := ⟨m8 h.pe, fun Wc hE H0 Z σ H S Q k f z => h.snd Wc hE H0 Z σ H S _ k f z⟩
theorem AS (h : VXe K X Hin E e te t) : VXs K X Hin E (.Return (some e) pos :: rest) (ke (yF te) gA) t :=
 ⟨cT (qA h.pe) gB, fun Wc hE H0 Z σ H S D k f z => h.snd Wc hE H0 Z σ H S _ k f z⟩
end
end VL
end
section
namespace L2
open PySem PySem.Spec PyProof.Rows PySem.W
section
variable {X : Cx} {k i : Nat} {f CB : Addr} {fd : FuncData} {ps : List Str} {sp : Sp} {e0 : Expr} {es : List Expr} {ta : TA} {x cb en nn : Str} {b0 : Stmt} {suite : List Stmt} {th : TS} {p pos pe np hp tp pos' : Pos}
theorem wu (F : ib X.prog X.w X.K X.mg X.base (CX1 X.prog X.w) k f fd ps sp) (hr : b7 k X.A) (hm : X.mg x = some (.ref f)) (hk : PySem.W.keepIn X.K (.ref f) = true) (hb : Binds X.K fd ps []) (ha : PA X (e0 :: es) ta) (hcb : X.mg cb = some (.ref CB))
  (hs : ∀ y, PSs (X.caught y) (b0 :: suite) th) (hxe : ∀ e s, ¬X.xe e s) (hex0 : X.ex = []) (hst : X.stack = X.env :: X.outer) (hfr : X.env.frame = some X.env.locals) (hN : X.N.Nodup) (hi : X.N[i]? = some en) (hloc : X.env.scope.names.lookup en = some .local)
  (hg : Gl X x := by rfl) (hgc : Gl X cb := by rfl) (hd : (x == ("__debug__" : Str)) = false := by decide) (hdc : (cb == ("__debug__" : Str)) = false := by decide) (he : starEach (e0 :: es) X.env = (false, eval e0 X.env) :: starEach es X.env := by rfl) (hpl : (backTo pos (starEach es X.env)).any (·.1) = false := by rfl)
  (hsw : swapsWith (.Call (.Name x p) (e0 :: es) [] pos) (some (.Name nn pos')) pe.line X.env = pure false := by rfl) :
  PS X (.Try [.Assign [.Name nn pos'] (.Call (.Name x p) (e0 :: es) [] pos) pe] [.ExceptHandler (some (.Name cb np)) (some en) (b0 :: suite) hp] [] [] tp) (C7 X.K CB sp ta i th) := by
 intro pins s σ H D I h
 refine wpAny_Try_except (wpAny_execs_cons (wpAny_Assign_Name ?_ hsw))
 refine wpAny_Call_Name_kw (fG I hg hm ?_ hd)
 refine PySem.W.callWith_K (h₀ := X.base) I.ok.mod.kin hk (wpAny_mono (ha pos pins s σ H _ I h) (fun us s1 ⟨vs, H1, I1, r, q⟩ => ⟨I1.kIn, ?_⟩) fun e s z => (hxe e s z).elim) he hpl
 have hl : us.length = ps.length := by rw [<- r.length]; exact F.len _ _ _ _ q
 have hbd := hb s1 us I1.kIn (by rw [List.append_nil]; exact hl)
 rw [List.append_nil] at hbd
 refine wpAny_call (codeAny_mono (F.run X.A X.stack s1 H1 ⟨us, []⟩ us vs _ _ hr I1.env0 hbd r q) fun res s' hq => ?_)
 match res, hq with
 | .ok (.ret u), hq => obtain ⟨_, _, _, _, _, _, _, z⟩ := hq; exact z.elim
 | .error e, hq =>
  obtain ⟨y, cls, a0, B, H', rfl, Fl, C, rfl, hex, fin⟩ := hq
  have fr : X.A.frames = some (X.env :: X.outer) := hst ▸ I.ok.frames
  have fly0 := Fl.fly
  rw [hst] at fly0
  refine wpAny_looks_onW fr hfr fly0 fun h4 held up4 => ?_
  refine wpAny_landsW held fun h5 fly5 up5 => ?_
  have F5 : Flies X.prog X.w X.stack H1 s1 y (.ref C) a0 B H' { s' with heap := h5, toks := s'.toks } := Fl.on I1 (by rw [hst]; exact fly5) (up4.trans up5)
  have I5 := I1.lands F5
  obtain ⟨o5, ho5, hc5⟩ := fly5.there
  refine wpAny_handleBy_cons (codeAny_handlers_test (fG (I5.caught y) hgc hcb ?_ hdc)) (by intro q; cases q)
  refine exm_one (h := h5) I5.kIn (hc5 ▸ (Looks.ld ho5).andThen .now) hex _ _ _ _ (fun _ _ e => e) ?_
  refine codeAny_handlers_suite_as ?_
  refine lands_againW fly5 fun h6 fly6 up6 => ?_
  have F6 : Flies X.prog X.w X.stack H1 s1 y (.ref C) a0 B H' { s' with heap := h6, toks := s'.toks } := Fl.on I1 (by rw [hst]; exact fly6) ((up4.trans up5).trans up6)
  have I6 := I1.lands F6
  obtain ⟨o6, ho6, hc6⟩ := fly6.there
  have here : ∀ b o, s1.heap.get? b = some o -> b ≠ y := fun b o e z => by rw [z, Fl.new] at e; cases e
  have I7 : Inv (X.caught y) pins σ (upd H' y (.frz o6 (.own y))) { s' with heap := h6, toks := s'.toks } := by
   refine (I6.caught y).trackN F6.noX ?_ ?_ ?_ ?_ ⟨ho6, o6, ho6⟩
   ·cases z : X.s₀.heap.get? y with
    | none => rfl
    | some o =>
     obtain ⟨o', e'⟩ := I1.base.there y o z (by rw [hex0]; intro q; cases q)
     exact absurd rfl (here y o' e')
   ·obtain ⟨m, ⟨o, es, ep, e, _⟩, _⟩ := I1.loc
    exact (here _ o e).symm
   ·intro n c e
    obtain ⟨v, o, e', _⟩ := I1.cell n c e
    exact here c o e'
   ·intro p hp
    exact here p.1 p.2 (I1.pin p hp).1
  refine dG (X := X.caught y) I7 hN hi (.inl hloc) (show RelV (.ref y) (.ref y) from rfl) (fun s8 I8 => ?_) (.inr hloc)
  refine wpAny_mono (hs y pins s8 _ _ (unE D i) I8 (fin y o6 F6.noX hc6)) (fun fl s9 q9 => ?_) fun e s z => (hxe e s z).elim
  have let_go : ∀ {σ' : St} {H9 : Hp} {R : Unit -> Shared -> Prop}, Inv (X.caught y) pins σ' H9 s9 -> (∀ s', Inv X pins (σ'.set i none) H9 s' -> R () s') -> wpAny (model X.prog X.w) X.A (do bindName X.env en .none; unbindBehindTheSuite X.env en hp) R X.xe s9 := fun {σ' H9 R} J g => by
   have J0 := J.uncaught I.ok
   refine wpAny_bind (wpAny_bindName (dG J0 hN hi (.inl hloc) (show RelV .non .none from rfl) (fun s10 I10 => ?_) (.inr hloc)))
   refine wpAny_onRaise (vJ I10 hN hi hloc (List.getElem?_set_self (by rw [J0.len]; exact (List.getElem?_eq_some_iff.mp hi).1)) fun s11 I11 => ?_)
   rw [List.set_set] at I11
   exact g s11 I11
  cases fl with
  | next => obtain ⟨σ', H9, J, q⟩ := q9; exact let_go J fun s' I' => ⟨_, _, I', q⟩
  | brk => obtain ⟨σ', H9, J, q⟩ := q9; exact let_go J fun s' I' => ⟨_, _, I', q⟩
  | cont => obtain ⟨σ', H9, J, q⟩ := q9; exact let_go J fun s' I' => ⟨_, _, I', q⟩
  | ret u => obtain ⟨v, σ', H9, J, r, q⟩ := q9; exact let_go J fun s' I' => ⟨v, _, _, I', r, q⟩
end
end L2
namespace VL
open PySem L2 PySem.W
section
variable {K : PySem.W.Frag} {X : Cx} {k j i : Nat} {CB : Addr} {ps : List Str} {bad : List D -> Addr -> Prop} {e0 : Expr} {es : List Expr} {tr : TA} {vr : VTA} {x cb en nn : Str} {b0 : Stmt} {suite : List Stmt} {th : TS} {vh : VTS} {p pos pe np hp tp pos' : Pos}
theorem wy (F : kM X.prog X.w X.K X.mg X.base k x ps bad) (hK : X.K = K) (hr : b7 j X.A) (ha : VA K X false (e0 :: es) tr vr) (hcb : X.mg cb = some (.ref CB)) (hs : ∀ y, VSs K (X.caught y) (b0 :: suite) th vh) (hxe : ∀ e s, ¬X.xe e s) (hex0 : X.ex = [])
  (hst : X.stack = X.env :: X.outer) (hfr : X.env.frame = some X.env.locals) (hN : X.N.Nodup) (hi : X.N[i]? = some en) (hloc : X.env.scope.names.lookup en = some .local) (hk : k <= j := by decide)
  (hg : Gl X x := by rfl) (hgc : Gl X cb := by rfl) (hd : (x == ("__debug__" : Str)) = false := by decide) (hdc : (cb == ("__debug__" : Str)) = false := by decide) (he : starEach (e0 :: es) X.env = (false, eval e0 X.env) :: starEach es X.env := by rfl) (hpl : (backTo pos (starEach es X.env)).any (·.1) = false := by rfl)
  (hsw : swapsWith (.Call (.Name x p) (e0 :: es) [] pos) (some (.Name nn pos')) pe.line X.env = pure false := by rfl) :
  VS K X (.Try [.Assign [.Name nn pos'] (.Call (.Name x p) (e0 :: es) [] pos) pe] [.ExceptHandler (some (.Name cb np)) (some en) (b0 :: suite) hp] [] [] tp) (C7 K CB (spX K bad) tr i th) (C9 K CB bad vr i vh) := by
 subst hK
 obtain ⟨f, fd, F, hm, kp, hb⟩ := F
 refine ⟨wu F (hr.mono hk) hm kp hb ha.pe hcb (fun y => (hs y).ps) hxe hex0 hst hfr hN hi hloc hg hgc hd hdc he hpl hsw, fun H0 Z σ H S V D k t l => ?_⟩
 refine ha.snd H0 Z σ H S _ _ k t fun vs H1 rs S1 k1 st1 rrs ⟨hl, ds, C, e, hbd, hex, q⟩ => ⟨ds, C, rrs.gets k1 e, hbd, fun H' g => ⟨C, rfl, hex, fun y o hy hc => ?_⟩⟩
 have g2 := aU (o := .frz o (.own y)) hy
 have k2 := (k1.grow g).grow g2
 have st2 : Step Z σ S H σ S1 (upd H' y (.frz o (.own y))) := (st1.trans (.grow g)).trans (.grow g2)
 obtain ⟨k3, st3⟩ := k2.setVal hl (Rep.exc (c := .ref C) ((k1.grow g).nm hy) aG hc)
 exact (hs 0).snd H0 Z _ _ _ _ _ k3 q ((l.step (st2.trans st3)).letGo)
end
section
variable {K : PySem.W.Frag} {X : Cx} {Hin : Hp} {E : XK} {e tg : Expr} {rest : List Stmt} {te : TE} {t : (Addr -> Prop) -> List Sl -> Prop} {pos : Pos} {g : TG} {vg : VG}
theorem wz (h : VXe K X Hin E e te t) (hg : VGe K X tg g vg) (hs : swapsWithSole [tg] e pos.line X.env = pure false := by rfl) (hw : swappedStores [tg] e X.env = pure none := by rfl)
  (h1 : (assignEach [tg] X.env).map (·.2) = [assign tg X.env] := by rfl) : VXs K X Hin E (.Assign [tg] e pos :: rest) (ke (dH te g) gA) t :=
 ⟨cT (kj h.pe hg.pg hs hw h1) gB, fun Wc hE H0 Z σ H S D k f z => h.snd Wc hE H0 Z σ H S _ k f z⟩
end
end VL
end
section
namespace L2
open PySem PySem.Spec PyProof.Rows SeqAt
section
variable {X : Cx}
def Ds (K : PySem.W.Frag) : R2 := fun x y H Q => ∃ a b xs, x = .ref a /\ y = .ref b /\ SqL K H a xs /\ SqL K H b [] /\ Q (.bl (!xs.isEmpty)) H
theorem tD (hK : X.K = K) (hu : X.A.units + 64 < cLine) : OpR X (compareOp .NotEq) (Ds K) := by
 rintro pins s σ H x y v u Q I rx ry ⟨a, b, xs, e1, e2, h1, h2, q⟩
 subst hK e1 e2
 cases rx; cases ry
 obtain ⟨its, r, pl, _⟩ := I.list h1
 obtain ⟨its2, r2, pl2, _⟩ := I.list h2
 have fin : EP X pins σ Q (.bool (!xs.isEmpty)) s := ⟨.bl _, H, I, rfl, q⟩
 cases r2
 cases xs with
 | nil =>
  cases r
  exact RcNeAt.lists (e := fun _ => true) pl.isList pl2.isList rfl (by lia) (fun j h1 _ => absurd h1 (by simp)) X.prog X.w _ _ fin
 | cons z zs =>
  cases r
  exact RcNeAt.lists_lengths pl.isList pl2.isList (by simp) (by lia) X.prog X.w _ _ fin
end
end L2
namespace VL
open PySem L2
section
variable {K : PySem.W.Frag} {X : Cx} {m : Bool} {e o a b : Expr} {te ta tb : TE} {va vb : VT} {pos apos : Pos} {S : List Sl} {Q : VR -> List Sl -> Prop} {QN : List D -> List Sl -> Prop} {t : VTN}
def Dt : D -> D -> (D -> Prop) -> Prop := fun d1 d2 q => ∃ ds, d1 = .lst ds /\ d2 = .lst [] /\ q (.bl (!ds.isEmpty))
theorem yi : bT K (Ds K) Dt := by
 rintro x y H d1 d2 q Cc r1 r2 ⟨ds, rfl, rfl, h⟩ hc
 obtain ⟨a, vs, rfl, hq, rr⟩ := r1.sqL
 obtain ⟨b, vs2, rfl, hq2, rr2⟩ := r2.sqL
 cases rr2
 refine ⟨a, b, vs, rfl, rfl, hq, hq2, ?_⟩
 have : vs.isEmpty = ds.isEmpty := by cases rr <;> rfl
 rw [this]
 exact hc _ _ h fun _ _ => .bl _
theorem Du (h : q (.bl (!ds.isEmpty))) : Dt (.lst ds) (.lst []) q := ⟨ds, rfl, rfl, h⟩
end
end VL
end
section
namespace VL
open PySem L2 PySem.W
section
variable {K : PySem.W.Frag} {X : Cx} {a b : Expr} {ta tb : TE} {pos : Pos} {S : List Sl} {Q : List D -> List Sl -> Prop}
theorem Reps.rep {N : AP} (h : Reps K N F H vs ds) : ∀ k : Nat, Reps K N F H (List.replicate k vs).flatten (List.replicate k ds).flatten
 | 0 => .nil
 | k + 1 => by
  rw [List.replicate_succ, List.flatten_cons, List.replicate_succ, List.flatten_cons]
  exact Reps.append h (Reps.rep h k)
def Dv (t : VTN) (vb : VT) : VTN := fun S Q => t S fun ds S1 => vb S1 fun r S2 => ∃ k : Nat, r = .d (.int k) /\ ds.length * k <= 1000000 /\ k <= 1000000 /\ Q (List.replicate k ds).flatten S2
theorem AT {t : VTN} {vb : VT} (h1 : VN K X a ta t) (h2 : VE K X false b tb vb) : VN K X (.BinOp a .Mult b pos) (tOp Bu ta tb) (Dv t vb) := ⟨oe yZ h1.pe h2.pe, fun H0 Z σ H S Q C k t hc =>
 h1.snd H0 Z σ H S _ _ k t fun c us ds H1 H1' S1 k1 st1 ha1 hg1 hl1 rr1 t1 => h2.snd H0 Z σ H1' S1 _ _ (k1.grow hg1) t1 fun y H2 r S2 k2 st2 r2 zq1 => by
  obtain ⟨n, rfl, hlen, hn, q⟩ := zq1
  obtain ⟨ec, nc2⟩ := st2.1 c (k1.nm ha1) (by simp [hl1])
  have ec' : H2 c = some (.lst us) := by rw [ec, hl1]
  have r1 : Reps K (NM Z σ S2) (Fr H0) H2 us ds := (rr1.mono (N' := NM Z σ S1) (fun b n e => ⟨n.1, rfl⟩) (fun _ x => x)).step st2
  cases r2
  refine ⟨c, (n : Int), us, rfl, rfl, ec', by lia, by lia, by rw [rr1.length, sizeLine_eq, Int.toNat_natCast]; exact Nat.le_trans hlen (by decide), fun p hp => ?_⟩
  rw [Int.toNat_natCast]
  exact hc p _ _ H2 _ S2 k2 ((st1.trans (.grow hg1)).trans st2) hp (aU hp) aG (bV hp ((Reps.rep r1 n).mono (fun _ n _ => ⟨n, rfl⟩) fun _ x _ => x)) q⟩
@[irreducible] def pH (vb : VT) (Q : List D -> List Sl -> Prop) : List D -> List Sl -> Prop := fun ds S1 => vb S1 fun r S2 => ∃ k : Nat, r = .d (.int k) /\ ds.length * k <= 1000000 /\ k <= 1000000 /\ Q (List.replicate k ds).flatten S2
@[irreducible] def mP (ds : List D) (Q : List D -> List Sl -> Prop) : VR -> List Sl -> Prop := fun r S2 => ∃ k : Nat, r = .d (.int k) /\ ds.length * k <= 1000000 /\ k <= 1000000 /\ Q (List.replicate k ds).flatten S2
theorem Dw {t : VTN} {vb : VT} (h : t S (pH vb Q)) : Dv t vb S Q := by unfold pH at h; exact h
theorem wC {vb : VT} (h : vb S (mP ds Q)) : pH vb Q ds S := by unfold pH; unfold mP at h; exact h
theorem wD {k : Nat} (h1 : ds.length * k <= 1000000) (h2 : k <= 1000000) (h : Q (List.replicate k ds).flatten S) : mP ds Q (.d (.int k)) S := by unfold mP; exact ⟨k, rfl, h1, h2, h⟩
variable {va vb : VT} {z : Str} {QR : VR -> List Sl -> Prop}
@[irreducible] def wF (vb : VT) (Q : VR -> List Sl -> Prop) : VR -> List Sl -> Prop := fun ra S1 => ∃ z, ra = .d (.str z) /\ vb S1 fun rb S2 => ∃ zs : List Str, get S2 rb = some (.lst (zs.map .str)) /\ JoinOk z zs = true /\ Q (.d (.str (Txt.join z zs))) S2
@[irreducible] def wG (z : Str) (Q : VR -> List Sl -> Prop) : VR -> List Sl -> Prop := fun rb S2 => ∃ zs : List Str, get S2 rb = some (.lst (zs.map .str)) /\ JoinOk z zs = true /\ Q (.d (.str (Txt.join z zs))) S2
theorem AU (h : va S (wF vb QR)) : yd va vb S QR := by unfold wF at h; exact h
theorem AV (h : vb S (wG z QR)) : wF vb QR (.d (.str z)) S := by unfold wG at h; unfold wF; exact ⟨z, rfl, h⟩
theorem AW {zs : List Str} (e : get S r = some (.lst (zs.map .str))) (hok : JoinOk z zs = true) (h : QR (.d (.str (Txt.join z zs))) S) : wG z QR r S := by unfold wG; exact ⟨zs, e, hok, h⟩
end
end VL
end
section
namespace L2
open PySem PySem.Spec PyProof.Rows
section
variable {X : Cx}
def Dy (x : Str) (n : Nat) : Str := ⟨(List.replicate n x.cps).foldl (· ++ ·) #[]⟩
def Dz : R2 := fun x y H Q => ∃ (z : Str) (k : Nat), x = .str z /\ y = .int k /\ 1 < k /\ z.length = 1 /\ k <= 1000000 /\ Q (.str (Dy z k)) H
theorem jm (x : Str) (h : x.length = 1) : ∀ (n : Nat) (a : Array Nat), ((List.replicate n x.cps).foldl (· ++ ·) a).size = a.size + n
 | 0, a => rfl
 | n + 1, a => by
  rw [List.replicate_succ, List.foldl_cons, jm x h n, Array.size_append]
  have : x.cps.size = 1 := h
  omega
theorem wH : OpR X (binaryOp .Mult) Dz := by
 rintro pins s σ H x y v u Q I rx ry ⟨z, k, e1, e2, hk, hz, hl, q⟩
 subst e1; subst e2
 obtain ⟨t, rfl⟩ := rx
 obtain ⟨t', rfl⟩ := ry
 have c1 : ¬ ((k : Int) < 1) := by omega
 have c2 : ((k : Int) == 1 || z.length == 0) = false := by
  have a1 : ((k : Int) == 1) = false := beq_eq_false_iff_ne.mpr (by omega)
  rw [a1, hz]; rfl
 refine PySem.P.mul_str (by rw [decide_eq_false (by omega), decide_eq_false (by omega)]; rfl) (fun _ _ => ?_) (fun _ _ => ?_) ?_
 ·rw [hz]
  have : (1 : Int) <= (2 ^ 63 - 1) / (k : Int) := by
   rw [Int.le_ediv_iff_mul_le (by omega)]; omega
  omega
 ·rw [hz, Int.toNat_natCast]
  exact decide_eq_false (by rw [sizeLine_eq]; omega)
 ·rw [if_neg c1, c2]
  simp only [Bool.false_eq_true, if_false]
  rw [Int.toNat_natCast]
  refine ⟨?_, ⟨.str (Dy z k), H, I.tok _, ⟨_, rfl⟩, q⟩⟩
  show ((List.replicate k z.cps).foldl (· ++ ·) #[]).size <= sizeLine
  rw [jm z hz, sizeLine_eq]
  show 0 + k <= _
  omega
end
end L2
end
section
namespace VL
open PySem L2
section
variable {K : PySem.W.Frag} {H H' H0 : Hp} {Z P : AP} {σ σ' : St} {S S' : List Sl}
theorem OK.inP (k : OK K H0 (ZP Z P) σ H S) (h : ∀ a, H a ≠ none -> ¬P a -> H' a = H a) (hd : ∀ a, H' a = none -> H a = none) (hP : ∀ a, P a -> IsM (H' a)) : OK K H0 (ZP Z P) σ H' S := by
 have hm : ∀ a, NM (ZP Z P) σ S a -> H a ≠ none -> NM (ZP Z P) σ S a /\ H' a = H a := fun a n e => ⟨n, h a e fun z => n (.inr (.inr z))⟩
 have np : ∀ (i : Nat) (s : Sl) (a : Addr), S[i]? = some s -> s.mut = true -> σ[i]? = some (some (L2.V.ref a)) -> ¬P a := fun i s a h1 h2 h3 z => k.nz i s a h1 h2 h3 (.inr z)
 refine ⟨k.len, fun i o s e1 e2 => ?_, k.inj, fun a e => k.dom a (hd a e), fun a z => ?_, k.nz⟩
 ·have q := k.at_ i o s e1 e2
  cases s with
  | no => trivial
  | val d => obtain ⟨v, e, r⟩ := q; exact ⟨v, e, r.mono hm fun _ x => x⟩
  | fre d => obtain ⟨v, e, r⟩ := q; exact ⟨v, e, r.mono hm fun _ x => x⟩
  | own ds => obtain ⟨a, vs, e, e', e0, r⟩ := q; exact ⟨a, vs, e, by rw [h a (by simp [e']) (np i _ a e2 rfl (by rw [e1, e]))]; exact e', e0, r.mono hm fun _ x => x⟩
  | pen ad ns => obtain ⟨a, e, e3, e'⟩ := q; exact ⟨a, e, e3, by rw [h a (by simp [e']) (np i _ a e2 rfl (by rw [e1, e]))]; exact e'⟩
  | odi ks ds => obtain ⟨a, vs, e, ⟨ob, e'⟩, e0, ek, r⟩ := q; exact ⟨a, vs, e, ⟨ob, by rw [h a (by simp [e']) (np i _ a e2 rfl (by rw [e1, e]))]; exact e'⟩, e0, ⟨ek.1, ek.2.mono hm fun _ x => x⟩, r.mono hm fun _ x => x⟩
  | obj kk => obtain ⟨a, e, e0, r⟩ := q; exact ⟨a, e, e0, kk.mono hm (h a (kk.ism r).ne (np i _ a e2 rfl (by rw [e1, e]))) r⟩
 ·rcases z with z | z
  ·by_cases p : P a
   ·exact hP a p
   ·have e := k.zl a (.inl z)
    rw [h a e.ne p]; exact e
  ·exact hP a z
def Gr (H : Hp) (a : Addr) (bs : List Addr) (rows : List (List Str)) : Prop := H a = some (.lst (bs.map L2.V.ref)) /\ (a :: bs).Nodup /\ bs.length = rows.length /\ ∀ (k : Nat) (b : Addr) (r : List Str), bs[k]? = some b -> rows[k]? = some r -> H b = some (.lst (r.map L2.V.str))
def grD (rows : List (List Str)) : D := .lst (rows.map fun r => .lst (r.map .str))
theorem tE : ∀ {l : List Addr} {i j : Nat} {b : Addr}, l.Nodup -> l[i]? = some b -> l[j]? = some b -> i = j
 | [], _, _, _, _, h, _ => by simp at h
 | c :: l, 0, 0, b, _, _, _ => rfl
 | c :: l, 0, j + 1, b, n, h1, h2 => by
  simp at h1 h2
  subst h1
  exact absurd (List.mem_of_getElem? h2) (List.nodup_cons.mp n).1
 | c :: l, i + 1, 0, b, n, h1, h2 => by
  simp at h1 h2
  subst h2
  exact absurd (List.mem_of_getElem? h1) (List.nodup_cons.mp n).1
 | c :: l, i + 1, j + 1, b, n, h1, h2 => by
  have := tE (List.nodup_cons.mp n).2 (i := i) (j := j) (by simpa using h1) (by simpa using h2)
  rw [this]
theorem j6 {N : AP} : ∀ {r : List Str}, Reps K N F H (r.map L2.V.str) (r.map D.str)
 | [] => .nil
 | _ :: r => .cons (.str _) (j6 (r := r))
theorem pI {N : AP} : ∀ {bs : List Addr} {rows : List (List Str)}, bs.length = rows.length -> (∀ b ∈ bs, N b /\ F (some b)) -> (∀ (k : Nat) (b : Addr) (r : List Str), bs[k]? = some b -> rows[k]? = some r -> H b = some (.lst (r.map L2.V.str))) -> Reps K N F H (bs.map L2.V.ref) (rows.map fun r => .lst (r.map .str))
 | [], [], _, _, _ => .nil
 | b :: bs, r :: rows, hl, hn, h => .cons (.lst (hn b List.mem_cons_self).1 (hn b List.mem_cons_self).2 (h 0 b r rfl rfl) j6) (pI (by simpa using hl) (fun c hc => hn c (List.mem_cons_of_mem _ hc)) fun k c q h1 h2 => h (k + 1) c q (by simpa using h1) (by simpa using h2))
 | [], _ :: _, hl, _, _ => by simp at hl
 | _ :: _, [], hl, _, _ => by simp at hl
theorem Gr.rep {N : AP} {a : Addr} {bs : List Addr} {rows : List (List Str)} (g : Gr H a bs rows) (hn : ∀ b, (b = a \/ b ∈ bs) -> N b /\ F (some b)) : Rep K N F H (.ref a) (grD rows) :=
 .lst (hn a (.inl rfl)).1 (hn a (.inl rfl)).2 g.1 (pI g.2.2.1 (fun b hb => hn b (.inr hb)) g.2.2.2)
theorem Gr.keep {a : Addr} {bs : List Addr} {rows : List (List Str)} (g : Gr H a bs rows) (h : ∀ b, (b = a \/ b ∈ bs) -> H b ≠ none -> H' b = H b) : Gr H' a bs rows :=
 ⟨(h a (.inl rfl) (by rw [g.1]; exact fun z => nomatch z)).trans g.1, g.2.1, g.2.2.1, fun k b r h1 h2 => by
  have e := g.2.2.2 k b r h1 h2
  exact (h b (.inr (List.mem_of_getElem? h1)) (by rw [e]; exact fun z => nomatch z)).trans e⟩
theorem Gr.set {a : Addr} {bs : List Addr} {rows : List (List Str)} (g : Gr H a bs rows) {p q : Nat} {b : Addr} {r : List Str} {z : Str} (hb : bs[p]? = some b) (hr : rows[p]? = some r) : Gr (upd H b (.lst ((r.map L2.V.str).set q (.str z)))) a bs (rows.set p (r.set q z)) := by
 have hm := List.mem_of_getElem? hb
 have hne : a ≠ b := fun e => (List.nodup_cons.mp g.2.1).1 (by rw [e]; exact hm)
 refine ⟨by rw [aC hne]; exact g.1, g.2.1, by rw [List.length_set]; exact g.2.2.1, fun k c r' h1 h2 => ?_⟩
 have hp : p < rows.length := (List.getElem?_eq_some_iff.mp hr).1
 by_cases e : p = k
 ·subst e
  rw [List.getElem?_set_self hp] at h2
  cases h2
  rw [hb] at h1
  cases h1
  rw [aG, List.map_set]
 ·rw [List.getElem?_set_ne e] at h2
  have hcb : c ≠ b := fun z => by
   subst z
   exact e (tE (List.nodup_cons.mp g.2.1).2 hb h1)
  rw [aC hcb]
  exact g.2.2.2 k c r' h1 h2
end
end VL
end
section
namespace VL
open PySem L2
section
variable {K : PySem.W.Frag} {X : Cx} {inner iter target tg it o e1 e2 : Expr} {pos : Pos} {n : Nat} {ix : List Nat}
def vGr (vi : VTN) (n : Nat) (ix : List Nat) (vg : VG) (vn : VTN) (S : List Sl) (Q : List (List Str) -> Prop) : Prop := vi S fun ds S1 => S1 = S /\ ds.length <= 1000 /\ ∃ rows : List (List Str), rows.length = ds.length /\
 (∀ (i : Nat) d r, ds[i]? = some d -> rows[i]? = some r -> vg d (bp n ix S) fun S3 => vn S3 fun xs S4 => xs = r.map D.str /\ backS n ix S S4 = S) /\ Q rows
theorem AX {wi : TI} {vi : VTN} {g : TG} {vg : VG} {ti : TE} {vn : VTN} (kg : dU n ix g) (hnd : ix.Nodup) (si : SndI K wi vi) (sg : SndG K g vg) (mg : xA g) (sn : Bw K ti vn) {Q : List (List Str) -> Prop} {C : VK}
  (k : OK K H Z σ H S) (il : nR S) (t : vGr vi n ix vg vn S Q) (hc : ∀ a bs rows H', (∀ b, H b ≠ none -> H' b = H b) -> H a = none -> (∀ b ∈ bs, H b = none) -> Gr H' a bs rows -> Q rows -> C (.ref a) H') : iK wi n ix g oz ti σ H C := by
 refine si H Z σ H S _ _ k t fun J ds H1 S1 k1 st1 gd zq => ?_
 obtain ⟨eS, hl, rows, hlr, hs, hq⟩ := zq
 subst eS
 have g1 := il.grow st1
 refine ⟨fun i m ys H2 => m = ds.length - i /\ i <= ds.length /\ OK K H Z σ H2 S1 /\ Step Z σ S1 H1 σ S1 H2 /\ ∃ bs : List Addr, ys = bs.map L2.V.ref /\ bs.length = i /\ bs.Nodup /\ (∀ b ∈ bs, H b = none) /\ ∀ (k : Nat) (b : Addr) (r : List Str), bs[k]? = some b -> rows[k]? = some r -> H2 b = some (.lst (r.map L2.V.str)),
  ⟨ds.length, by simp, Nat.zero_le _, k1, .refl, [], rfl, rfl, List.nodup_nil, (fun _ z => nomatch z), fun k b r z => by simp at z⟩, ?_⟩
 rintro i m ys H2 ⟨rfl, hi, k2, st2, bs, rfl, hbl, hbn, hb0, hbr⟩
 obtain ⟨q1, q2, q3⟩ := gd σ S1 H2 (fun _ => k2.nm) st2 i
 have hsz : (1000000 : Nat) < sizeLine := by rw [sizeLine_eq]; lia
 by_cases hlt : i < ds.length
 ·refine .inr ⟨q1 hlt, by rw [List.length_map]; lia, fun ys' H' => OK K H Z σ H' S1 /\ Step Z σ S1 H1 σ S1 H' /\ ∃ bs : List Addr, ys' = bs.map L2.V.ref /\ bs.length = i + 1 /\ bs.Nodup /\ (∀ b ∈ bs, H b = none) /\ ∀ (k : Nat) (b : Addr) (r : List Str), bs[k]? = some b -> rows[k]? = some r -> H' b = some (.lst (r.map L2.V.str)), fun ys' H' p => ⟨ds.length - (i + 1), by lia, rfl, hlt, p⟩, fun x H3 y => ?_⟩
  obtain ⟨hgr, d, hd', rd⟩ := q2 x H3 y hlt
  obtain ⟨r, hr⟩ : ∃ r, rows[i]? = some r := ⟨_, List.getElem?_eq_getElem (by lia)⟩
  replace k2 := k2.grow hgr
  replace st2 := st2.trans (.grow hgr)
  replace hbr : ∀ (k : Nat) (b : Addr) (r : List Str), bs[k]? = some b -> rows[k]? = some r -> H3 b = some (.lst (r.map L2.V.str)) := fun k b r z1 z2 => by
   have e := hbr k b r z1 z2
   exact (hgr b (by rw [e]; exact fun z => nomatch z)).trans e
  have kc := k2.capt (n := n) hnd
  have rd' : Rep K (NM (Zin Z ix σ S1) (L2.capt n ix σ) (bp n ix S1)) AnyF H3 x d := rd.mono (fun a n _ => ⟨fun z => n (gJ.mp z), rfl⟩) fun _ x => x
  have h1 := sg H _ _ H3 _ x d _ (fun σ4 H4 => ∃ S4, OK K H (Zin Z ix σ S1) σ4 H4 S4 /\ Step (Zin Z ix σ S1) (L2.capt n ix σ) (bp n ix S1) H3 σ4 S4 H4 /\ vn S4 fun xs S5 => xs = r.map D.str /\ backS n ix S1 S5 = S1) kc rd' (hs i d r hd' hr) (fun σ4 H4 S4 k4 st4 q4 => ⟨S4, k4, st4, q4⟩)
  have h2 := kg x σ H3 _ h1
  refine mg _ _ _ _ _ ?_ h2
  rintro σ4 H4 ⟨⟨hl4, hσ4⟩, S4, k4, st4, q4⟩
  show ti σ4 H4 _
  refine sn H _ σ4 H4 S4 _ _ k4 q4 fun a vs xs H5 H6 S5 k5 st5 ha hg hla rr zq => ?_
  obtain ⟨ex, eb⟩ := zq
  subst ex
  obtain rfl := Reps.toStrs rr
  obtain ⟨kb, sb, nb⟩ := k2.back k5 (st4.trans st5) hσ4
  rw [eb] at kb sb
  have gb := il.grow sb
  have st6 : Step Z σ S1 H1 σ S1 H6 := (st2.trans sb).trans (.grow hg)
  have h3n : H3 a = none := Classical.byContradiction fun z => by
   have := gb a z
   rw [ha] at this
   exact z this.symm
  refine ⟨kb.grow hg, st6, bs ++ [a], by rw [List.map_append]; rfl, by rw [List.length_append, hbl]; rfl, ?_, fun b hb => ?_, fun kk b r' z1 z2 => ?_⟩
  ·rw [List.nodup_append]
   refine ⟨hbn, by simp, fun b hb c hc => ?_⟩
   obtain rfl := List.mem_singleton.mp hc
   rintro rfl
   obtain ⟨kk, hk⟩ := List.getElem?_of_mem hb
   obtain ⟨r', hr'⟩ : ∃ r', rows[kk]? = some r' := ⟨_, List.getElem?_eq_getElem (by have := (List.getElem?_eq_some_iff.mp hk).1; lia)⟩
   rw [hbr kk b r' hk hr'] at h3n
   cases h3n
  ·rcases List.mem_append.mp hb with hb | hb
   ·exact hb0 b hb
   ·obtain rfl := List.mem_singleton.mp hb
    exact Classical.byContradiction fun z => by
     have z1 : H1 b ≠ none := by rw [g1 b z]; exact z
     exact z1 (st2.2.1 b h3n)
  ·by_cases hk : kk < bs.length
   ·rw [List.getElem?_append_left hk] at z1
    have e := hbr kk b r' z1 z2
    have e5 := (gb b (by rw [e]; exact fun z => nomatch z)).trans e
    exact (hg b (by rw [e5]; exact fun z => nomatch z)).trans e5
   ·have hke : kk = bs.length := by
     have := (List.getElem?_eq_some_iff.mp z1).1
     rw [List.length_append, List.length_singleton] at this
     lia
    subst hke
    rw [List.getElem?_append_right (Nat.le_refl _), Nat.sub_self] at z1
    obtain rfl : a = b := by simpa using z1
    rw [hbl, hr] at z2
    cases z2
    exact hla
 ·have e : i = ds.length := by lia
  refine .inl ⟨q3 e, by rw [List.length_map]; lia, fun D hD => ?_⟩
  have gg : ∀ b, H b ≠ none -> H2 b = H b := fun b z => ((il.grow st2) b (by rw [g1 b z]; exact z)).trans (g1 b z)
  have hnb : ∀ b ∈ bs, D ≠ b := fun b hb z => by
   subst z
   obtain ⟨kk, hk⟩ := List.getElem?_of_mem hb
   obtain ⟨r', hr'⟩ : ∃ r', rows[kk]? = some r' := ⟨_, List.getElem?_eq_getElem (by have := (List.getElem?_eq_some_iff.mp hk).1; lia)⟩
   rw [hbr kk D r' hk hr'] at hD
   cases hD
  refine hc D bs rows _ (fun b z => (aU hD b (by rw [gg b z]; exact z)).trans (gg b z)) (Classical.byContradiction fun z => by rw [gg D z] at hD; exact z hD) hb0 ⟨aG, List.nodup_cons.mpr ⟨fun z => hnb D z rfl, hbn⟩, by lia, fun kk b r' z1 z2 => ?_⟩ hq
  rw [aC (fun z => hnb b (List.mem_of_getElem? z1) z.symm)]
  exact hbr kk b r' z1 z2
end
end VL
end
section
namespace VL
open PySem L2
section
variable {K : PySem.W.Frag} {X : Cx} {inner iter target tg it o e1 e2 : Expr} {pos spos px p1 p2 p3 p4 pc : Pos} {n i j : Nat} {ix : List Nat} {x : Str} {rest : List Stmt} {u : TS} {w : VTS} {jj : Nat} {z : Str}
def DA (i j vv : Nat) (z : Str) (cr : List Sl -> (List (List Str) -> Prop) -> Prop) (v1 v2 : VT) (w : VTS) : VTS := fun V S => i < S.length /\ j < S.length /\ i ≠ j /\ vv ≠ i /\ vv ≠ j /\ cr (S.map lendF) fun rows0 => ∃ ds, S[vv]? = some (.val (.lst ds)) /\ ∃ Iv : Nat -> List (List Str) -> Prop, Iv 0 rows0 /\
 (∀ (m : Nat) d rows, ds[m]? = some d -> Iv m rows -> v1 ((S.set i .no).set j (.val d)) fun r1 S2 => S2 = (S.set i .no).set j (.val d) /\ ∃ i1 p r, r1 = .d (.int i1) /\ ixN rows.length i1 = some p /\ rows[p]? = some r /\
  v2 ((S.set i .no).set j (.val d)) fun r2 S3 => S3 = (S.set i .no).set j (.val d) /\ ∃ j1 q, r2 = .d (.int j1) /\ ixN r.length j1 = some q /\ Iv (m + 1) (rows.set p (r.set q z))) /\
 ∀ rows, Iv ds.length rows -> w V (((S.set i .no).set j .no).set i (.val (grD rows)))
theorem tF {bs : List Addr} {i1 : Int} {p : Nat} {b : Addr} (h : ixN bs.length i1 = some p) (hb : bs[p]? = some b) : atI (bs.map L2.V.ref) i1 = some (.ref b) := by
 unfold atI
 rw [List.length_map, h]
 show (bs.map L2.V.ref)[p]? = _
 rw [List.getElem?_map, hb]
 rfl
theorem tG {scope : Scope} {tgs cs : List Str} {wi : TI} {vi : VTN} {vv : Nat} {g : TG} {vg : VG} {ti t1 t2 : TE} {vn : VTN} {v1 v2 : VT} (hN0 : X.N.Nodup) (hi0 : X.N[i]? = some x) (hx0 : Loc X.env.scope x) (hf0 : X.fn x = true \/ X.env.scope.names.lookup x = some .local)
  (Sc : bt X scope tgs cs ix) (hcalm : X.calm = true) (hK : X.K = K) (kg : dU tgs.length ix g) (hnd : ix.Nodup) (hi : VI K X target iter wi vi) (hg : ∀ C fp s H, VGe K (aq X scope (tgs ++ cs) C fp s H) target g vg) (hn : ∀ C fp s H, VN K (aq X scope (tgs ++ cs) C fp s H) inner ti vn)
  (hp : PassesOwn (model X.prog X.w) X.A X.env X.xe) (hv : PE X it (cS vv)) (hgj : PG X tg (bL j)) (ho : PE X o (cS i)) (h1 : VE K X false e1 t1 v1) (h2 : VE K X false e2 t2 v2) (hpl : eU e1) (gr : VSs K X rest u w)
  (hsw : swapsWith (.ListComp inner [⟨target, iter, [], 0⟩] scope pos) (some (.Name x px)) spos.line X.env = pure true := by rfl) (hs : ∀ y, foldedSetIterable iter X.env y = pure y := by intro _; rfl) (hs2 : ∀ y, foldedSetIterable it X.env y = pure y := by intro _; rfl)
  (ha : ∀ v, assign (.Subscript (.Subscript o e1 p1) e2 p2) X.env v = (do
   let ov <- holding [v] (eval (.Subscript o e1 p1) X.env)
   let iv <- holding [v, ov] (eval e2 X.env)
   standAt p2
   holding [v, ov, iv] (setItem ov iv v)
   release [v, ov, iv] []) := by intro _; rfl)
  (hs3 : swapsWithSole [.Subscript (.Subscript o e1 p1) e2 p2] (.Constant (.str z) jj pc) p3.line X.env = pure false := by rfl) (hw3 : swappedStores [.Subscript (.Subscript o e1 p1) e2 p2] (.Constant (.str z) jj pc) X.env = pure none := by rfl)
  (h13 : (assignEach [.Subscript (.Subscript o e1 p1) e2 p2] X.env).map (·.2) = [assign (.Subscript (.Subscript o e1 p1) e2 p2) X.env] := by rfl) :
  VSs K X (.Assign [.Name x px] (.ListComp inner [⟨target, iter, [], 0⟩] scope pos) spos :: .For tg it [.Assign [.Subscript (.Subscript o e1 p1) e2 p2] (.Constant (.str z) jj pc) p3] [] p4 :: rest)
   (ke (dH (iK wi tgs.length ix g oz ti) (bL i)) (ke (yM (qH K (cS vv)) (bL j) (dH (tC (.str z)) (qD (tOp (uE K) (cS i) t1) t2 lN))) u)) (DA i j vv z (vGr vi tgs.length ix vg vn) v1 v2 w) := by
 have sg := (hg 0 [] X.s₀ (fun _ => none)).snd
 have mg := (hg 0 [] X.s₀ (fun _ => none)).mono
 have sn := (hn 0 [] X.s₀ (fun _ => none)).snd
 refine ⟨cT (lT hN0 hi0 hx0 Sc hcalm kg hi.pi (fun C fp s H => (hg C fp s H).pg) (fun C fp s H => oA) (fun C fp s H => (hn C fp s H).pe) hf0 hsw hs) (cT (qJ hp hcalm (by subst hK; exact oa hv) hgj (ki (kj qy (qE (by subst hK; exact lM ox ho h1.pe hpl) h2.pe set_list ha) hs3 hw3 h13)) hs2) gr.ps), fun H0 Z σ H S V E k zq l => ?_⟩
 obtain ⟨hil, hjl, hij, hvi, hvj, zq⟩ := zq
 unfold ke dH
 refine AX kg hnd hi.snd sg mg sn k.lendF (jg S) zq fun a bs rows0 H1 g1 ha0 hb0 gr0 zq => ?_
 obtain ⟨ds, hvs, Iv, iv0, step, fin⟩ := zq
 have hPn : ∀ b, (b = a \/ b ∈ bs) -> H b = none := fun b hb => hb.elim (fun e => by rw [e]; exact ha0) (hb0 b)
 have isM : ∀ {H' : Hp} {rows : List (List Str)}, Gr H' a bs rows -> ∀ b, (b = a \/ b ∈ bs) -> IsM (H' b) := fun {H' rows} g b hb => by
  rcases hb with rfl | hb
  ·rw [g.1]; trivial
  ·obtain ⟨kk, hk⟩ := List.getElem?_of_mem hb
   obtain ⟨r, hr⟩ : ∃ r, rows[kk]? = some r := ⟨_, List.getElem?_eq_getElem (by have := (List.getElem?_eq_some_iff.mp hk).1; have := g.2.2.1; lia)⟩
   rw [g.2.2.2 kk b r hk hr]; trivial
 have hz : ∀ b, Z b -> H b ≠ none := fun b zb => (k.zl b zb).ne
 -- the state behind the first row
 have kP := k.growP (P := fun b => b = a \/ b ∈ bs) g1 fun b hb => ⟨hPn b hb, isM gr0 b hb⟩
 obtain ⟨k1, _⟩ := kP.setNo (v := .ref a) hil
 have st1 := ((Step.grow (Z := Z) (σ := σ) (S := S) g1).trans ((k.grow g1).setNo (v := .ref a) hil).2)
 -- what is put by, and all else, through the loop
 have fwd : ∀ {σ2 σ3 : St} {S2 S3 : List Sl} {H2 H3 : Hp}, Step Z σ S H σ2 S2 H2 -> Step (ZP Z fun b => b = a \/ b ∈ bs) σ2 S2 H2 σ3 S3 H3 -> Step Z σ S H σ3 S3 H3 := fun {σ2 σ3 S2 S3 H2 H3} s1 s2 =>
  ⟨fun b nb hb => by
   obtain ⟨y1, y2⟩ := s1.1 b nb hb
   obtain ⟨y3, y4⟩ := s2.1 b (fun m => by
    rcases m with m | m | m
    ·exact y2 (.inl m)
    ·exact y2 (.inr m)
    ·exact hb (hPn b m)) (by rw [y1]; exact hb)
   exact ⟨y3.trans y1, pq y4⟩, fun b e => s1.2.1 b (s2.2.1 b e), fun b zb hb => by
   have y1 := s1.2.2 b zb hb
   exact (s2.2.2 b (.inl zb) (by rw [y1]; exact hb)).trans y1⟩
 have keepG : ∀ {σ2 σ3 : St} {S2 S3 : List Sl} {H2 H3 : Hp} {rows : List (List Str)}, Gr H2 a bs rows -> Step (ZP Z fun b => b = a \/ b ∈ bs) σ2 S2 H2 σ3 S3 H3 -> Gr H3 a bs rows := fun g s => g.keep fun b hb hn => s.2.2 b (.inr hb) hn
 have hjl' : j < (S.set i .no).length := by rw [List.length_set]; exact hjl
 have hlσ : σ.length = S.length := k.len
 -- the list that is walked
 obtain ⟨lo, hl0, lv, rfl, lr⟩ := k.ownAt hvs
 obtain ⟨lx, _, rfl, _⟩ := lr.sqL
 have hvS : ((S.set i .no).set j .no)[vv]? = some (.val (.lst ds)) := by rw [List.getElem?_set_ne (Ne.symm hvj), List.getElem?_set_ne (Ne.symm hvi)]; exact hvs
 have walk : ∀ {σ3 : St} {H3 : Hp}, (σ3 = σ.set i (some (.ref a)) \/ ∃ v, σ3 = (σ.set i (some (.ref a))).set j (some v)) -> OK K H0 (ZP Z fun b => b = a \/ b ∈ bs) σ3 H3 ((S.set i .no).set j .no) -> ∃ vs, SqL K H3 lx vs /\ Reps K (NM (ZP Z fun b => b = a \/ b ∈ bs) σ3 ((S.set i .no).set j .no)) AnyF H3 vs ds := fun {σ3 H3} hσ k3 => by
  obtain ⟨o3, h3, v3, rfl, r3⟩ := k3.ownAt hvS
  have e : σ3[vv]? = some (some (.ref lx)) := by
   rcases hσ with rfl | ⟨v, rfl⟩
   ·rw [List.getElem?_set_ne (Ne.symm hvi)]; exact hl0
   ·rw [List.getElem?_set_ne (Ne.symm hvj), List.getElem?_set_ne (Ne.symm hvi)]; exact hl0
  rw [e] at h3
  cases h3
  obtain ⟨c, vs, ec, hq, rr⟩ := r3.sqL
  cases ec
  exact ⟨vs, hq, rr⟩
 obtain ⟨k2, st2⟩ := k1.wk (sP hjl')
 obtain ⟨vs0, hq0, _⟩ := walk (.inl rfl) k2
 refine ⟨.ref lx, by rw [List.getElem?_set_ne (Ne.symm hvi)]; exact hl0, lx, rfl, ⟨vs0, hq0⟩, ?_⟩
 refine ⟨fun m mm σ3 H3 => mm = ds.length - m /\ m <= ds.length /\ (σ3 = σ.set i (some (.ref a)) \/ ∃ v, σ3 = (σ.set i (some (.ref a))).set j (some v)) /\ OK K H0 (ZP Z fun b => b = a \/ b ∈ bs) σ3 H3 ((S.set i .no).set j .no) /\ Step Z σ S H σ3 ((S.set i .no).set j .no) H3 /\ ∃ rows, Gr H3 a bs rows /\ Iv m rows,
  ⟨ds.length, by simp, Nat.zero_le _, .inl rfl, k2, fwd st1 st2, rows0, gr0, iv0⟩, ?_⟩
 rintro m mm σ3 H3 ⟨rfl, hm, hσ, k3, st3, rows, g3, iv⟩
 obtain ⟨vs, hq, rr⟩ := walk hσ k3
 have hlen := rr.length
 have sv : σ3[i]? = some (some (.ref a)) := by
  rcases hσ with rfl | ⟨v, rfl⟩
  ·exact List.getElem?_set_self (by lia)
  ·rw [List.getElem?_set_ne (Ne.symm hij)]; exact List.getElem?_set_self (by lia)
 by_cases hlt : m < ds.length
 ·refine .inr ⟨⟨vs, _, hq, List.getElem?_eq_getElem (by lia)⟩, fun σ4 H4 => (∃ v, σ4 = (σ.set i (some (.ref a))).set j (some v)) /\ OK K H0 (ZP Z fun b => b = a \/ b ∈ bs) σ4 H4 ((S.set i .no).set j .no) /\ Step Z σ S H σ4 ((S.set i .no).set j .no) H4 /\ ∃ rows, Gr H4 a bs rows /\ Iv (m + 1) rows, fun σ4 H4 p => ⟨ds.length - (m + 1), by lia, rfl, hlt, .inr p.1, p.2⟩, ?_⟩
  rintro xx H4 ⟨rfl, hy⟩
  have hx := hy vs hq
  obtain ⟨d, hd, rd⟩ := rr.get hx
  have e2 : σ3.set j (some xx) = (σ.set i (some (.ref a))).set j (some xx) := by
   rcases hσ with rfl | ⟨v, rfl⟩
   ·rfl
   ·rw [List.set_set]
  have hj3 : j < ((S.set i .no).set j .no).length := by rw [List.length_set, List.length_set]; exact hjl
  obtain ⟨k4, st4⟩ := k3.setVal (i := j) hj3 rd
  have eS : ((S.set i .no).set j .no).set j (.val d) = (S.set i .no).set j (.val d) := by rw [List.set_set]
  rw [eS, e2] at k4 st4
  show qD (tOp (uE K) (cS i) t1) t2 lN (.str z) (σ3.set j (some xx)) H4 _
  rw [e2]
  have sv4 : ((σ.set i (some (.ref a))).set j (some xx))[i]? = some (some (.ref a)) := by rw [List.getElem?_set_ne (Ne.symm hij)]; exact List.getElem?_set_self (by lia)
  have g4 := keepG g3 st4
  have zq := step m d rows hd iv
  refine ⟨.ref a, sv4, h1.snd H0 _ _ _ _ _ _ k4 zq fun y1 H5 r1 S5 k5 st5 rr5 zq => ?_⟩
  obtain ⟨eS5, i1, p, r, er, hp', hr, zq⟩ := zq
  subst eS5 er
  cases (show Rep K _ _ H5 y1 (.int i1) from rr5)
  have g5 := keepG g4 st5
  have hpl' : p < bs.length := by rw [g5.2.2.1]; exact (List.getElem?_eq_some_iff.mp hr).1
  obtain ⟨b, hb⟩ : ∃ b, bs[p]? = some b := ⟨_, List.getElem?_eq_getElem hpl'⟩
  refine ⟨a, bs.map L2.V.ref, i1, .ref b, rfl, rfl, .inl (.inl g5.1), tF (by rw [g5.2.2.1]; exact hp') hb, ?_⟩
  refine h2.snd H0 _ _ H5 _ _ _ k5 zq fun y2 H6 r2 S6 k6 st6 rr6 zq => ?_
  obtain ⟨eS6, j1, q, er, hq', iv'⟩ := zq
  subst eS6 er
  cases (show Rep K _ _ H6 y2 (.int j1) from rr6)
  have g6 := keepG g5 st6
  refine ⟨b, r.map L2.V.str, j1, q, rfl, rfl, g6.2.2.2 p b r hb hr, by rw [List.length_map]; exact hq', ?_⟩
  have hbP : b = a \/ b ∈ bs := .inr (List.mem_of_getElem? hb)
  have g7 := g6.set (q := q) (z := z) hb hr
  have k7 := k6.inP (H' := upd H6 b (.lst ((r.map L2.V.str).set q (.str z)))) (fun c _ hc => aC fun e => hc (by rw [e]; exact hbP)) (fun c e => by
   by_cases hc : c = b
   ·subst hc; rw [aG] at e; cases e
   ·rw [aC hc] at e; exact e) (isM g7)
  have hj4 : j < ((S.set i .no).set j (.val d)).length := by rw [List.length_set, List.length_set]; exact hjl
  obtain ⟨k8, st8⟩ := k7.wk (sP hj4)
  rw [List.set_set] at k8 st8
  refine ⟨⟨xx, rfl⟩, k8, fwd (?_ : Step Z σ S H _ ((S.set i .no).set j (.val d)) _) st8, _, g7, iv'⟩
  have st6' := fwd (fwd (fwd st3 st4) st5) st6
  exact ⟨fun c nc hc => by
   obtain ⟨y1, y2⟩ := st6'.1 c nc hc
   exact ⟨(aC fun e => hc (hPn c (by rw [e]; exact hbP))).trans y1, y2⟩, fun c e => st6'.2.1 c (by
   by_cases hc : c = b
   ·subst hc; rw [aG] at e; cases e
   ·rw [aC hc] at e; exact e), fun c zc hc => (aC fun e => hc (hPn c (by rw [e]; exact hbP))).trans (st6'.2.2 c zc hc)⟩
 ·have e : m = ds.length := by lia
  subst e
  refine .inl ⟨⟨vs, hq, by lia⟩, ?_⟩
  have k4 : OK K H0 Z σ3 H3 ((S.set i .no).set j .no) := k3.chP (fun _ _ _ => rfl) (fun _ e => e) fun b hb zb => hz b zb (hPn b hb)
  have hi3 : i < ((S.set i .no).set j .no).length := by rw [List.length_set, List.length_set]; exact hil
  have nP : ∀ b, (b = a \/ b ∈ bs) -> NM Z σ3 ((S.set i .no).set j .no) b := fun b hb mo => by
   rcases mo with ⟨q, s, m1, m2, m3⟩ | mo
   ·exact k3.nz q s b m1 m2 m3 (.inr hb)
   ·exact hz b mo (hPn b hb)
  obtain ⟨k5, st5⟩ := k4.setVal (i := i) hi3 (g3.rep (K := K) (F := AnyF) fun b hb => ⟨nP b hb, trivial⟩)
  rw [lY sv] at k5 st5
  exact gr.snd H0 Z σ3 H3 _ V E k5 (fin rows iv) (l.step (st3.trans st5))
end
end VL
end
section
namespace L2
open PySem PySem.Spec PyProof.Rows
def Ies (z : Str) : It :=
 ⟨fun i _ => i < z.cps.size, fun i H x H' => ∃ p c, H p = none /\ x = .ref p /\ z.cps[i]? = some c /\ H' = upd H p (.tup [.int i, .str ⟨#[c]⟩]), fun i _ => i = z.cps.size⟩
theorem jo {P : Program} {w : World} {elts : List Expr} {x1} {tp : Pos} (e it : Addr) (hne : e ≠ it) (z : Str) (t : Tok) (ty : String)
  (D : ∀ A : Around, A.handled = none -> Draws P w A it [it] z.cps.size (SignAt z) (fun i h => h.IsStrIter it ty z t i)) :
  Turn P w K (.Tuple elts x1 tp) (Ies z) [e, it] e (fun i h => (∃ old, IsEnum h e it i old) /\ h.IsStrIter it ty z t i) where
 mem := by simp
 obj := fun i h zq b hb => by
  obtain ⟨⟨old, st⟩, sl⟩ := zq
  rcases List.mem_cons.mp hb with rfl | hb
  ·exact ⟨_, st, fun v z => by
    have z' : Data.fields _ = Data.cell v := z
    cases z'⟩
  ·obtain rfl := List.mem_singleton.mp hb
   obtain ⟨o, q, c, d⟩ := sl
   exact ⟨o, q, fun v z => by rw [d] at z; cases z⟩
 keep := fun i h h' zq k => by
  obtain ⟨⟨old, st⟩, o, q, r⟩ := zq
  exact ⟨⟨old, k e (by simp) _ st⟩, o, k it (by simp) o q, r⟩
 item := by
  intro X hP hw hK hc i pins s σ H E I hf zq hg
  subst hP hw hK
  obtain ⟨⟨old, st⟩, sl⟩ := zq
  have fe := hf e (by simp)
  have fi := hf it (by simp)
  refine wpAny_pyNext_enum_itemD (D X.A.in1 (by simpa using I.ok.hd hc)) st sl hg hne (by simpa using hne) fun u h' tk hu a1 a2 a3 a4 a5 => ?_
  obtain ⟨c, u', hx, rfl⟩ := hu
  refine ⟨_, rfl, wpAny_letOwnedTupleGo_enum (s := { s with heap := h', toks := tk + 1 }) a1 fun h2 b1 b2 => ?_⟩
  have kb : ∀ b o, b ≠ e -> h'.get? b = some o -> h2.get? b = some o := fun b o hb q => (b2.2 b hb).trans q
  have I2 : Inv X pins σ H { s with heap := h2, toks := tk + 1 } := I.turned2 (fun b o n1 n2 q => kb b o n1 (a5 b o n1 n2 q)) fe fi
  have np : H s.heap.objs.size = none := I.hok.fresh (Nat.le_refl _)
  obtain ⟨_, p1, _, p3, p4, p5⟩ := I.fpOk (H' := H) (b := s.heap.objs.size) (Nat.le_refl _) np
  have ns : s.heap.objs.size ≠ e := Nat.ne_of_gt (Heap.lt_size st)
  have ni : s.heap.objs.size ≠ it := by
   obtain ⟨o, q, _⟩ := id sl
   exact Nat.ne_of_gt (Heap.lt_size q)
  refine ⟨.ref s.heap.objs.size, upd H s.heap.objs.size (.tup [.int i, .str ⟨#[c]⟩]), I2.track np I.sz p1 p4 p5 ⟨by rw [sizeLine_eq]; exact Nat.le_of_ble_eq_true rfl, [.int i tk, .str ⟨#[c]⟩ u'], .cons ⟨_, rfl⟩ (.cons ⟨_, rfl⟩ .nil), ⟨_, kb _ _ ns a3, rfl, _, rfl⟩⟩, rfl, ⟨_, c, np, rfl, hx, rfl⟩, ⟨⟨_, b1⟩, ?_⟩, fun b hb => ?_⟩
  ·obtain ⟨o, q, r⟩ := a2
   exact ⟨o, kb it o (Ne.symm hne) q, r⟩
  ·rcases List.mem_cons.mp hb with rfl | hb
   ·rw [aC (Ne.symm ns)]; exact fe.1
   ·obtain rfl := List.mem_singleton.mp hb
    rw [aC (Ne.symm ni)]; exact fi.1
 done := by
  intro X hP hw hK hc i pins s σ H E I hf zq hg
  subst hP hw hK
  obtain ⟨⟨old, st⟩, sl⟩ := zq
  have hi : i = z.cps.size := hg
  subst hi
  obtain ⟨f0, f1, f2, f3, f4, f5⟩ := hf it (by simp)
  exact wpAny_pyNext_enum_endD (D X.A.in1 (by simpa using I.ok.hd hc)) st sl fun h' eb => ⟨rfl, I.turned (t' := s.toks) (fun b o hb q => eb b o hb q) f0 f1 f3 f4 f5⟩
 self := fun _ _ _ _ _ zq h => by
  obtain ⟨⟨old, st⟩, _⟩ := zq
  exact wpAny_pyIter_enum st h
section
variable {X : Cx}
def tI (ta : TA) : TI := fun σ H R => ta σ H fun vs H1 => ∃ z, vs = [.str z] /\ R (Ies z) H1
theorem tJ {a : Expr} {ta : TA} {p pos tp : Pos} {elts : List Expr} {x1} (hg : Gl X "enumerate") (hm : X.mg "enumerate" = none) (ha : PA X [a] ta) (hs : starEach [a] X.env = [(false, eval a X.env)] := by rfl) : PI X (.Tuple elts x1 tp) (.Call (.Name "enumerate" p) [a] [] pos) (tI ta) := by
 intro pins s σ H R I h
 refine Call_ (fu I hg hm boot_enumerate (PyProof.Rows.callWith_type1 (thn (ha pos pins s σ H _ I h) fun us s1 zr1 => ?_) hs rfl))
 obtain ⟨vs, H1, I1, r1, q1⟩ := zr1
 obtain ⟨z, e, q⟩ := q1
 subst e
 cases r1 with
 | cons r rr =>
  cases rr
  obtain ⟨t, rfl⟩ := r
  refine call_enumerate_str fun h' g1 g2 g3 g4 => ?_
  have I2 : Inv X pins σ H1 { s1 with heap := h' } := I1.kept (t' := s1.toks) g4
  have fp : ∀ b ∈ [s1.heap.objs.size + 1, s1.heap.objs.size], eE X pins H1 b := fun b hb => by
   have hb' : s1.heap.objs.size <= b := by
    rcases List.mem_cons.mp hb with rfl | hb
    ·lia
    ·obtain rfl := List.mem_singleton.mp hb
     exact Nat.le_refl _
   exact I1.fpOk hb' (I1.hok.fresh hb')
  cases ha : z.cps.all (· < 128)
  ·have et : strIterType z = "str_iterator" := by simp [strIterType, ha]
   rw [et] at g2
   exact wpAny_pyIter_enum (s := { s1 with heap := h' }) g1 ⟨s1.heap.objs.size + 1, [s1.heap.objs.size + 1, s1.heap.objs.size], _, Ies z, H1, rfl, I2, jo _ _ (by lia) z t "str_iterator" (fun A hA => Draws.strWide hA _ z t), ⟨⟨_, g1⟩, g2⟩, fp, q⟩
  ·have et : strIterType z = "str_ascii_iterator" := by simp [strIterType, ha]
   rw [et] at g2
   exact wpAny_pyIter_enum (s := { s1 with heap := h' }) g1 ⟨s1.heap.objs.size + 1, [s1.heap.objs.size + 1, s1.heap.objs.size], _, Ies z, H1, rfl, I2, jo _ _ (by lia) z t "str_ascii_iterator" (fun A hA => Draws.strAscii hA _ z t), ⟨⟨_, g1⟩, g2⟩, fp, q⟩
end
end L2
namespace VL
open PySem L2
section
variable {K : PySem.W.Frag} {X : Cx} {a : Expr} {tr : TA} {vr : VTA} {S : List Sl} {QN : List D -> List Sl -> Prop} {p pos tp : Pos}
def sgD (z : Str) : List D := z.cps.toList.map fun c => D.str ⟨#[c]⟩
def tK (vr : VTA) : VTN := fun S Q => vr S fun rs S1 => ∃ z, rs = [.d (.str z)] /\ Q (enD (sgD z)) S1
theorem tL {elts : List Expr} {x1} (hg : Gl X "enumerate") (hm : X.mg "enumerate" = none) (ha : VA K X false [a] tr vr) (hs : starEach [a] X.env = [(false, eval a X.env)] := by rfl) :
  VI K X (.Tuple elts x1 tp) (.Call (.Name "enumerate" p) [a] [] pos) (tI tr) (tK vr) := ⟨tJ hg hm ha.pe hs, fun H0 Z σ H S Q C k t hc =>
 ha.snd H0 Z σ H S _ _ k t fun vs H1 rs S1 k1 st1 rrs zq1 => by
  obtain ⟨z, e, q⟩ := zq1
  subst e
  obtain ⟨v, rfl, rv⟩ := rrs.one
  cases (show Rep K _ _ H1 v (.str z) from rv)
  have hlen : (sgD z).length = z.cps.size := by simp [sgD]
  refine ⟨z, rfl, hc _ (enD (sgD z)) H1 S1 k1 st1 (fun σ2 S2 H2 nm st2 i => ?_) q⟩
  rw [f9, hlen]
  refine ⟨fun hi => hi, fun x H3 hy hi => ?_, fun hi => hi⟩
  obtain ⟨p, c, hp, rfl, hx, rfl⟩ := hy
  have g := aU (o := .tup [.int i, .str ⟨#[c]⟩]) hp
  refine ⟨g, .tup [.int i, .str ⟨#[c]⟩], nT ?_, .tup (nm p hp) (.inl aG) (.cons (.int _) (.cons (.str _) .nil))⟩
  unfold sgD
  rw [List.getElem?_map, Array.getElem?_toList, hx]
  rfl⟩
def tM (QN : List D -> List Sl -> Prop) : List VR -> List Sl -> Prop := fun rs S1 => ∃ z, rs = [.d (.str z)] /\ QN (enD (sgD z)) S1
theorem wJ (h : vr S (tM QN)) : tK vr S QN := h
theorem tN {z : Str} (h : QN (enD (sgD z)) S) : tM QN [.d (.str z)] S := ⟨z, rfl, h⟩
end
end VL
namespace L2
open PySem
def lf (scope : Scope) (tg : List Str) : Prop :=
 (∀ y ∈ scope.names, y.2 ≠ .cell) /\ (∀ y ∈ scope.names, y.2 = .local -> scope.names.lookup y.1 = some .local) /\ tg.Nodup /\ ∀ y ∈ scope.names, y.2 ≠ .free
instance (scope : Scope) (tg : List Str) : Decidable (lf scope tg) := by unfold lf; infer_instance
theorem hV {X : Cx} {scope : Scope} (h : lf scope tg) (hk : scope.kind = .function := by rfl) : bt X scope tg [] [] := by
 obtain ⟨h1, h2, h3, h4⟩ := h
 exact ⟨hk, h1, h2, by rw [List.append_nil]; exact h3, rfl, (fun _ z => nomatch z), fun x hx => absurd rfl (h4 (x, .free) hx)⟩
end L2
end
section
namespace L2
open PySem PySem.Spec PyProof.Rows
section
variable {X : Cx}
def yj : R2 := fun x y H Q => ∃ (z : Str) (k : Nat), x = .str z /\ y = .int k /\ z.length = 1 /\ k <= 1000000 /\ ∀ y : Str, y.length = k -> Q (.str y) H
theorem e7 : OpR X (binaryOp .Mult) yj := by
 rintro pins s σ H x y v u Q I rx ry ⟨z, k, e1, e2, hz, hl, q⟩
 by_cases hk : 1 < k
 ·exact wH pins s σ H x y v u Q I rx ry ⟨z, k, e1, e2, hk, hz, hl, q _ (by show ((List.replicate k z.cps).foldl (· ++ ·) #[]).size = k; rw [jm z hz]; exact Nat.zero_add k)⟩
 subst e1; subst e2
 obtain ⟨t, rfl⟩ := rx
 obtain ⟨t', rfl⟩ := ry
 have hk : k = 0 \/ k = 1 := by omega
 rcases hk with rfl | rfl
 ·refine PySem.P.mul_str (by decide) (fun h _ => absurd (by decide) h) (fun h _ => absurd (by decide) h) ?_
  rw [if_pos (by decide)]
  exact ⟨Nat.zero_le _, ⟨.str Str.empty, H, I.tok _, ⟨_, rfl⟩, q _ rfl⟩⟩
 ·refine PySem.P.mul_str (by decide) (fun _ h => absurd h (by simp)) (fun _ h => absurd h (by simp)) ?_
  rw [if_neg (by decide), if_pos (by simp)]
  exact ⟨.str z, H, I, ⟨_, rfl⟩, q _ hz⟩
end
end L2
namespace VL
open PySem L2 PySem.W
section
variable {K : PySem.W.Frag}
def mQ : D -> D -> (D -> Prop) -> Prop := fun d1 d2 q => ∃ (z : Str) (k : Nat), d1 = .str z /\ d2 = .int k /\ z.length = 1 /\ k <= 1000000 /\ ∀ y : Str, y.length = k -> q (.str y)
theorem gS : bT K yj mQ := by
 rintro x y H d1 d2 q Cc r1 r2 ⟨z, k, rfl, rfl, h2, h3, h⟩ hc
 cases r1; cases r2
 exact ⟨z, k, rfl, rfl, h2, h3, fun y hy => hc _ _ (h _ hy) fun _ _ => .str _⟩
theorem AY {z : Str} {k : Nat} (h2 : z.length = 1) (h3 : k <= 1000000) (h : ∀ y : Str, y.length = k -> q (.str y)) : mQ (.str z) (.int k) q := ⟨z, k, rfl, rfl, h2, h3, h⟩
end
end VL
end
local macro_rules | `(tactic| walk_at "s") => `(tactic| exact ⟨rfl, rfl, rfl, by decide +kernel, rfl, by decide +kernel, by decide +kernel⟩)
theorem My.len1 {α:Type} {l:List α} (h:l.length=1):∃ a0,l=[a0]:=match l,h with|[a0],_=>⟨a0,rfl⟩
local macro_rules | `(tactic| walk_at "1") => `(tactic| exact (fun _ _ _ _ _ _ us hl => by obtain ⟨_,e⟩ := My.len1 hl; subst e; exact rfl))
theorem My.len2 {α:Type} {l:List α} (h:l.length=2):∃ a0 a1,l=[a0,a1]:=match l,h with|[a0,a1],_=>⟨a0,a1,rfl⟩
local macro_rules | `(tactic| walk_at "2") => `(tactic| exact (fun _ _ _ _ _ _ us hl => by obtain ⟨_,_,e⟩ := My.len2 hl; subst e; exact rfl))
local macro_rules | `(tactic| walk_at "rd1") => `(tactic| first
 | with_reducible refine VL.AR ?_
 | with_reducible refine VL.tw ?_
 | with_reducible refine VL.Dr ?_
 | with_reducible refine VL.wq ?_
 | with_reducible refine VL.Du ?_
 | with_reducible refine VL.Do ?_
 | with_reducible refine VL.vX ?_
 | with_reducible refine VL.v8 ?_
 | with_reducible refine VL.AU ?_
 | with_reducible refine VL.AV ?_
 | with_reducible refine VL.Dw ?_
 | with_reducible refine VL.wC ?_
 | with_reducible refine VL.AK ?_
 | with_reducible refine VL.wd ?_
 | with_reducible refine VL.AL ?_
 | with_reducible refine VL.Dp ?_
 | with_reducible refine VL.AM ?_
 | with_reducible refine VL.AN ?_
 | with_reducible refine VL.Dq ?_
 | with_reducible refine VL.AO ?_
 | ((with_reducible refine' VL.BW ?h ?_); (case h => exact rfl))
 | with_reducible refine VL.vN ?_
 | with_reducible refine VL.Ax ?_
 | with_reducible refine VL.Ay ?_
 | with_reducible refine VL.wJ ?_
 | with_reducible refine VL.tN ?_
 | with_reducible refine VL.vQ ?_
 | with_reducible refine VL.Dg ?_
 | with_reducible refine VL.AF ?_
 | with_reducible refine VL.j_c ?_
 | with_reducible refine VL.j_2 ?_
 | with_reducible refine VL.D1 ?_
 | ((with_reducible refine' VL.D2 ?h1 ?h2 ?_); (case h1 => exact rfl); (case h2 => exact rfl))
 | with_reducible refine VL.BX ?_
 | with_reducible refine VL.Cu ?_
 | with_reducible refine VL.Cv ?_
 | ((with_reducible refine' VL.BY ?h ?_); (case h => first | exact (by decide) | exact .inl ⟨by decide, by decide⟩ | exact .inr ⟨by decide, by decide⟩ | (show (0 : Int) < _; lia) | (show (0 : Int) <= _; lia) | exact ⟨by decide, by decide, by decide⟩ | exact ⟨by lia, by lia, by lia⟩ | exact ⟨by lia, by lia⟩ | exact .inl ⟨by lia, by lia⟩ | exact .inr ⟨by lia, by lia⟩))
 | with_reducible refine VL.zJ ?_
 | with_reducible refine VL.uZ ?_
 | with_reducible refine VL.BO ?_
 | with_reducible refine VL.BQ ?_
 | with_reducible refine VL.zB ?_
 | ((with_reducible refine' VL.DZ ?h ?_); (case h => exact rfl); (try dsimp only [List.set_cons_zero, List.set_cons_succ]))
 | with_reducible refine VL.zA ?_
 | with_reducible refine VL.BU ?_
 | with_reducible refine VL.rJ ?_
 | with_reducible refine VL.rK ?_
 | with_reducible refine VL.BS ?_
 | ((with_reducible refine' VL.rH ?h ?_); (case h => exact rfl))
 | with_reducible refine VL.zF ?_
 | with_reducible refine VL.uX ?_
 | with_reducible refine VL.zG ?_
 | with_reducible refine VL.zH ?_
 | ((with_reducible refine' VL.uY ?h ?_); (case h => first | exact rfl | simp only [VL.flat, VL.flats, VL.dX, VL.eT, VL.eK, Bool.and_self]))
 | with_reducible refine VL.rM ?_
 | with_reducible refine VL.D3 ?_
 | with_reducible refine VL.B1 ?_
 | ((with_reducible refine' VL.fY ?h1 ?h2 ?h3 ?_); (case h1 => exact rfl); (case h2 => exact rfl); (case h3 => exact rfl))
 | ((with_reducible refine' VL.B2 ?h1 ?h2 ?h3 ?_); (case h1 => exact rfl); (case h2 => exact rfl); (case h3 => first | exact rfl | exact VL.at_0))
 | with_reducible refine VL.B6 ?_
 | with_reducible refine VL.zO ?_
 | with_reducible refine VL.u5 ?_
 | with_reducible refine VL.B8 ?_
 | ((with_reducible refine' VL.zP ?h1 ?h2 ?_); (case h1 => exact rfl); (case h2 => exact rfl))
 | with_reducible refine VL.Ca ?_
 | ((with_reducible refine' VL.zQ ?h1 ?h2 ?_); (case h1 => exact rfl); (case h2 => exact rfl))
 | with_reducible refine VL.Cd ?_
 | with_reducible refine VL.zR ?_
 | with_reducible refine VL.D5 ?_
 | ((with_reducible refine' VL.Ce ?h ?_); (case h => exact rfl))
 | with_reducible refine VL.zS ?_
 | with_reducible refine VL.zT ?_
 | with_reducible refine VL.Cf ?_
 | with_reducible refine VL.D6 ?_
 | with_reducible refine VL.Ci ?_
 | ((with_reducible refine' VL.zU ?h ?_); (case h => exact rfl))
 | with_reducible refine VL.Ck ?_
 | ((with_reducible refine' VL.zV ?h1 ?h2 ?h3 ?_); (case h1 => exact rfl); (case h2 => exact rfl); (case h3 => exact rfl))
 | with_reducible refine VL.zD ?_
 | ((with_reducible refine' VL.uW ?h ?_); (case h => exact rfl); (try dsimp only [List.set_cons_zero, List.set_cons_succ]))
 | with_reducible refine VL.zE ?_
 | ((with_reducible refine' VL.oK ?h ?_); (case h => exact rfl); (try dsimp only [List.set_cons_zero, List.set_cons_succ]))
 | with_reducible refine VL.u7 ?_
 | ((with_reducible refine' VL.rU ?h1 ?h2 ?_); (case h1 => exact rfl); (case h2 => exact rfl))
 | ((with_reducible refine' VL.qj ?h1 ?h2 ?h3 ?_); (case h1 => exact rfl); (case h2 => exact rfl); (case h3 => exact rfl); (try dsimp only [List.set_cons_zero, List.set_cons_succ]))
 | ((with_reducible refine' VL.Co ?h ?_); (case h => exact rfl))
 | with_reducible refine VL.Cp ?_
 | with_reducible refine VL.zX ?_
 | with_reducible refine VL.zW ?_
 | ((with_reducible refine' VL.rT ?h1 ?h2 ?_); (case h1 => exact rfl); (case h2 => first | lia | (simp only [List.length_append, List.length_cons, List.length_nil, List.length_map]; lia) | exact Nat.le_of_ble_eq_true rfl); (try dsimp only [List.set_cons_zero, List.set_cons_succ]))
 | with_reducible refine VL.Cr ?_
 | with_reducible refine VL.zY ?_
 | with_reducible refine VL.Ct ?_
 | ((with_reducible refine' VL.zZ ?h ?_); (case h => exact ⟨by lia, by lia⟩))
 | with_reducible refine VL.Aa ?_
 | with_reducible refine VL.Ab ?_
 | with_reducible refine VL.qk ?_
 | with_reducible refine VL.rW ?_
 | with_reducible refine VL.B4 ?_
 | with_reducible refine VL.D4 ?_
 | with_reducible refine VL.B5 ?_
 | with_reducible refine VL.zK ?_
 | with_reducible refine VL.rO ?_
 | with_reducible refine VL.rP ?_
 | with_reducible refine VL.oM ?_
 | with_reducible refine VL.oN ?_
 | with_reducible refine VL.zL ?_
 | with_reducible refine VL.zM ?_
 | with_reducible refine VL.u0 ?_
 | with_reducible refine VL.BZ ?_
 | ((with_reducible refine' VL.Cw ?h1 ?h2 ?_); (case h1 => (intro n z; cases z)); (case h2 => first | exact L2.ky | exact L2.jG | exact L2.isiB_list_list | exact L2.isiB_tuple_tuple | exact L2.isiB_bool_bool | exact L2.isiB_f1 | exact L2.isiB_f2 | exact L2.isiB_f3 | exact L2.isiB_f4 | exact L2.isiB_f5 | exact L2.isiB_f6 | exact L2.isiB_g1 | exact L2.isiB_g2 | exact L2.isiB_g3 | exact L2.isiB_g4 | exact L2.isiB_g5 | exact L2.isiB_g6 | exact L2.isiB_h1 | exact L2.isiB_h2 | exact L2.isiB_h3 | exact L2.isiB_h4 | exact L2.isiB_h5 | exact L2.isiB_h6 | exact L2.isiB_h7))
 | with_reducible refine VL.CC ?_
 | with_reducible refine VL.zC ?_
 | with_reducible refine VL.uV ?_
 | ((with_reducible refine' VL.D0 ?h ?_); (case h => exact rfl); (try simp only [List.map_cons, List.map_nil]))
 | with_reducible refine VL.Av ?_
 | with_reducible refine VL.Da ?_
 | ((with_reducible refine' VL.CV ?h ?_); (case h => exact rfl))
 | with_reducible refine VL.CW ?_
 | with_reducible refine VL.CY ?_
 | ((with_reducible refine' VL.Ah ?h1 ?h2 ?_); (case h1 => exact Nat.le_of_ble_eq_true rfl); (case h2 => exact Nat.le_of_ble_eq_true rfl); (try dsimp only [List.set_cons_zero, List.set_cons_succ]))
 | with_reducible refine VL.Ea ?_
 | with_reducible refine VL.Ai ?_
 | with_reducible refine VL.Aj ?_
 | with_reducible refine VL.Al ?_
 | with_reducible refine VL.su ?_
 | with_reducible refine VL.CZ ?_
 | ((with_reducible refine' VL.C3 ?h ?_); (case h => exact rfl))
 | with_reducible refine VL.C4 ?_
 | with_reducible refine VL.vH ?_
 | with_reducible refine VL.C5 ?_
 | with_reducible refine VL.C6 ?_
 | with_reducible refine VL.Ao ?_
 | with_reducible refine VL.Ap ?_
 | with_reducible refine VL.vF ?_
 | with_reducible refine VL.u6 ?_)
local macro_rules | `(tactic| walk_at "rc1") => `(tactic| first
 | walk_at "rd1"
 | ((with_reducible refine' VL.CG ?h ?_); (case h => exact rfl))
 | ((with_reducible refine' VL.CH ?h ?_); (case h => exact rfl))
 | ((with_reducible refine' VL.Ac ?h ?_); (case h => exact rfl))
 | ((with_reducible refine' VL.Ad ?h ?_); (case h => exact rfl))
 | ((with_reducible refine' VL.CD ?h ?_); (case h => exact rfl))
 | ((with_reducible refine' VL.CF ?h ?_); (case h => exact rfl))
 | ((with_reducible refine' VL.D7 ?h ?_); (case h => exact rfl))
 | ((with_reducible refine' VL.D8 ?h ?_); (case h => exact rfl))
 | ((with_reducible refine' VL.xQ ?h ?_); (case h => exact rfl))
 | ((with_reducible refine' VL.xR ?h ?_); (case h => exact rfl)))
local macro_rules | `(tactic| walk_at "rc") => `(tactic| repeat walk_at "rc1")
local macro_rules | `(tactic| walk_at "rd") => `(tactic| repeat walk_at "rd1")
local macro_rules | `(tactic| walk_at "sl") => `(tactic| simp only [VL.slots, VL.dZ, List.map_cons, List.map_nil, List.length_cons, List.length_nil, List.cons_append, List.nil_append, Nat.reduceAdd, Nat.reduceSub, Nat.zero_add, List.replicate_succ, List.replicate_zero])
namespace My
open PySem L2 VL
def top (i : Nat) : Stmt := PySem.Challenge.pw_cellships_k66_no_picture_texts.main.body.getD i (.Pass ⟨0, 0, 0, 0⟩)
abbrev jq : Stmt := top 1
theorem qu : aS ["thing"] ["thing"] (aj jq) := by walk_at "s"
abbrev lg : Stmt := top 2
theorem tO : aS ["thing"] ["thing"] (aj lg) := by walk_at "s"
abbrev lh : Stmt := top 3
theorem tP : aS ["thing"] ["thing"] (aj lh) := by walk_at "s"
abbrev di : Stmt := top 4
theorem mR : aS ["thing"] ["thing"] (aj di) := by walk_at "s"
abbrev jr : Stmt := top 5
theorem iA : aS ["picture", "columns", "rows", "left", "top"] ["picture"] (aj jr) := by walk_at "s"
abbrev bO : Stmt := top 15
theorem bS : aS ["text", "figures", "number"] ["text"] (aj bO) := by walk_at "s"
abbrev dN : Stmt := top 16
theorem eh : aS ["text", "words"] ["text"] (aj dN) := by walk_at "s"
abbrev li : Stmt := top 17
theorem wK : aS ["wide", "text"] ["wide", "text"] (aj li) := by walk_at "s"
abbrev br : Stmt := top 18
theorem aF : aS ["text", "words", "left", "top", "rows", "wide", "high", "cells"] ["text"] (aj br) := by walk_at "s"
abbrev tQ : Stmt := top 20
theorem lp : aS ["_law_script", "_law_k", "_law_cell"] ["_law_script", "_law_k"] (aj tQ) := by walk_at "s"
abbrev nX : Stmt := top 21
theorem gq : aS ["_law_pen_here", "_law_many", "_law_drawn", "_law_number_here"] ["_law_pen_here", "_law_many"] (aj nX) := by walk_at "s"
abbrev js : Stmt := top 22
theorem j7 : aS ["_law_pen_here", "_law_way"] ["_law_pen_here"] (aj js) := by walk_at "s"
abbrev gT : Stmt := top 23
theorem cu : aS ["_law_pen_here", "_law_left", "_law_top", "_law_cells", "_law_k", "_law_one"] ["_law_pen_here"] (aj gT) := by walk_at "s"
abbrev eP : Stmt := top 24
theorem gu : aS ["_law_live", "_law_left", "_law_top", "_law_rows", "_law_one"] ["_law_live"] (aj eP) := by walk_at "s"
abbrev e8 : Stmt := top 25
theorem fF : aS ["_law_text_here", "_law_figures"] ["_law_text_here"] (aj e8) := by walk_at "s"
abbrev hZ : Stmt := top 26
theorem bX : aS ["_law_text_here", "_law_corner", "_law_blank", "_law_rows", "_law_left", "_law_comma", "_law_top", "_law_numbers", "_law_cells", "_law_y", "_law_row", "_law_x", "_law_sign", "_law_far", "_law_apart"] ["_law_text_here"] (aj hZ) := by walk_at "s"
abbrev jt : Stmt := top 27
theorem bg : aS ["_law_pen_here", "_law_text_here", "_law_way", "_law_at", "_law_sign", "_law_corner", "_law_blank", "_law_rows", "_law_dots", "_law_free", "_law_some"] ["_law_pen_here", "_law_text_here"] (aj jt) := by walk_at "s"
abbrev lq : Stmt := top 28
theorem dO : aS ["_law_text_here", "_law_due_here", "_law_caught", "_law_found", "e"] ["_law_text_here", "_law_due_here"] (aj lq) := by walk_at "s"
abbrev AZ : Stmt := top 29
theorem h9 : aS ["_law_script", "_law_k", "_law_pen_here", "_law_live", "_law_text_here", "_law_due_here", "_law_spoilt_here", "_law_thing"] ["_law_script"] (aj AZ) := by walk_at "s"
structure Txt (mg : Str -> Option Value) : Prop where
 len_ : mg "len" = none
 range : mg "range" = none
 abs_ : mg "abs" = none
 isinstance_ : mg "isinstance" = none
 int_ : mg "int" = none
 bool_ : mg "bool" = none
 list_ : mg "list" = none
 tuple_ : mg "tuple" = none
 sorted_ : mg "sorted" = none
 max_ : mg "max" = none
 min_ : mg "min" = none
 all_ : mg "all" = none
 any_ : mg "any" = none
 set_ : mg "set" = none
 sum_ : mg "sum" = none
 str_ : mg "str" = none
 dict_ : mg "dict" = none
 zip_ : mg "zip" = none
 enumerate_ : mg "enumerate" = none
def Pn (b : Nat) (pn : List Int) : Prop := ∃ x y c : Int, pn = [x, y, c] /\ 0 <= c /\ c <= b
theorem Pn.le {b b' : Nat} {pn : List Int} (h : Pn b pn) (e : b <= b') : Pn b' pn := let ⟨x, y, c, h1, h2, h3⟩ := h; ⟨x, y, c, h1, h2, by lia⟩
def DB : List D -> (D -> Prop) -> Prop := fun ds R => ∃ (ns : List Int) (k : Nat), ds = [.lst (ns.map .int), .int k] /\ k <= 1000 /\ ∀ x y : Int, R (.lst ([x, y, 0].map .int))
def wL : List D -> (D -> Prop) -> Prop := fun ds R => ∃ ns : List Int, ds = [.lst (ns.map .int)] /\ ns.length <= 63 /\ R (.bl true)
def pJ : List Int -> List D -> (D -> List Int -> Prop) -> Prop := fun pn ds R => ∃ (b : Nat) (m : Int), ds = [.int m] /\ Pn b pn /\ b <= 1000000 /\ 0 < m /\ m < 1073741824 /\ ∀ (pn' : List Int) (r : Int), Pn (b + 1) pn' -> 0 <= r -> r < m -> R (.int r) pn'
theorem mS {j : Nat} (h : j < ns.length) : atI (ns.map D.int) (j : Int) = some (.int (ns[j])) := by
 exact ip (by simp [h])
section
variable {P : Program} {w : World} {K : PySem.W.Frag} {mg : Str -> Option Value} {base : Heap}
theorem A0 (S : Src K mg "_law_pen" tQ) (T : Txt mg) : Has P w K mg base 1 "_law_pen" ["_law_script", "_law_k"] (spP K DB) := by
 refine cZ S lp (by walk_at "2") (fun ds R zq1 => by obtain ⟨_, _, e, _⟩ := zq1; rw [e]; rfl) fun f cdv A outer s H E hr => ⟨_, _, (ai (aE (i := 2) lp.nd rfl (Or.inl rfl) (ak bj aJ (ak eF b8 ah (aa 1 (pv 1))) ah))
  (ai (bA (aK oo aJ (aa 1 (pv 1)) (au (ft (K := K) rfl) fq (by rfl) T.len_ bH (ae (aa 0 (pv 0)) af)) (aH _)) (ay (aE (i := 2) lp.nd rfl (Or.inl rfl) (aO rfl (aa 0 (pv 0)) (aa 1 (pv 1)) (fun _ _ => rfl)))) (ay (bA (aK fh aJ (au (ft (K := K) rfl) fq (by rfl) T.len_ bH (ae (aa 0 (pv 0)) af)) ah (aH _)) (ay (aE (i := 2) lp.nd rfl (Or.inl rfl) (ak bj aJ (ak cU b8 (aO rfl (aa 0 (pv 0)) (ak cU b8 (aa 1 (pv 1)) (au (ft (K := K) rfl) fq (by rfl) T.len_ bH (ae (aa 0 (pv 0)) af))) (fun _ _ => rfl)) ah) (ak eF b8 ah (aa 1 (pv 1)))))) aQ)))
  (ai (bA (aK xo aJ (aa 2 (pv 2)) (ak fv b8 ah ah) (aH _)) (ay (aP (aL (aY (ae (ak bZ aJ (aa 2 (pv 2)) (ak fv b8 ah ah)) (ae (ak cU b8 (aa 2 (pv 2)) ah) (ae ah af))))))) aQ)
  (ay (aP (aL (aY (ae ah (ae (ak cU b8 (aa 2 (pv 2)) ah) (ae ah af)))))))))), ?_⟩
 rintro ds R ⟨ns, k, rfl, hk, q⟩
 have fin : ∀ (x y : Int), R (.lst [.int x, .int y, .int 0]) := fun x y => q x y
 walk_at "sl"
 walk_at "rd"
 rw [List.length_map]
 refine eN (fun h1 => ?_) (fun h1 => ?_)
 ·have h1' : k < ns.length := by lia
  walk_at "rd"
  refine fY rfl rfl (mS h1') ?_
  walk_at "rd"
  refine eN (fun h1 => ?_) (fun h1 => ?_)
  all_goals (walk_at "rd"; exact fin _ _)
 ·walk_at "rd"
  rw [List.length_map]
  refine eN (fun h2 => ?_) (fun h2 => ?_)
  ·walk_at "rd"
   rw [List.length_map]
   have h2' : 0 < ns.length := by lia
   have e : ((k : Int) % (ns.length : Int)) = ((k % ns.length : Nat) : Int) := by lia
   refine BY (by show (0 : Int) < _; lia) ?_
   dsimp only [ofV]
   rw [e]
   refine fY rfl rfl (mS (Nat.mod_lt _ h2')) ?_
   walk_at "rd"
   refine eN (fun h1 => ?_) (fun h1 => ?_)
   all_goals (walk_at "rd"; exact fin _ _)
  ·walk_at "rd"
   refine eN (fun h1 => ?_) (fun h1 => ?_)
   all_goals (walk_at "rd"; exact fin _ _)
theorem wM (S : Src K mg "_law_draw" nX) (T : Txt mg) : Has P w K mg base 1 "_law_draw" ["_law_pen_here", "_law_many"] (spI K 0 pJ) := by
 refine oI 0 S gq (by walk_at "2") (fun ns ds R zq1 => by obtain ⟨_, _, e, _⟩ := zq1; rw [e]; rfl) fun f cdv A outer s H E hr => ⟨_, _, (ai (lZ 0 (pv 0) (ak bj aJ (aO rfl (aa 0 (pv 0)) ah (fun _ _ => rfl)) ah) ah)
  (ai (bA (aK fh aJ (aO rfl (aa 0 (pv 0)) ah (fun _ _ => rfl)) ah (aH _)) (ai (aE (i := 2) gq.nd rfl (Or.inl rfl) (ak cU b8 (aO rfl (aa 0 (pv 0)) ah (fun _ _ => rfl)) (aa 1 (pv 1))))
  (ai (lZ 0 (pv 0) (ak og b8 (aO rfl (aa 0 (pv 0)) ah (fun _ _ => rfl)) (aa 1 (pv 1))) ah)
  (ay (aP (bB (aa 2 (pv 2))))))) aQ)
  (ai (aE (i := 3) gq.nd rfl (Or.inl rfl) (ak cU b8 (ak bj aJ (ak bj aJ (aO rfl (aa 0 (pv 0)) ah (fun _ _ => rfl)) (ak eF b8 ah (aO rfl (aa 0 (pv 0)) ah (fun _ _ => rfl)))) ah) ah))
  (ai (aE (i := 3) gq.nd rfl (Or.inl rfl) (ak bj aJ (ak cU b8 (ak eF b8 (aa 3 (pv 3)) (aa 3 (pv 3))) ah) (ak eF b8 ah (aO rfl (aa 0 (pv 0)) ah (fun _ _ => rfl)))))
  (ai (aE (i := 3) gq.nd rfl (Or.inl rfl) (ak cU b8 (ak eF b8 (aa 3 (pv 3)) (aa 3 (pv 3))) ah))
  (ay (aP (ak cU b8 (ak og b8 (aa 3 (pv 3)) ah) (aa 1 (pv 1)))))))))), ?_⟩
 rintro a pn ds es R hl ⟨b, m, e, ⟨x, y, c, rfl, hc0, hc1⟩, hb, hm0, hm1, q⟩
 obtain rfl : ds = [] := List.eq_nil_of_length_eq_zero hl
 obtain rfl : es = [.int m] := e
 walk_at "sl"
 walk_at "rd"
 refine eN (fun h1 => ?_) (fun h1 => ?_)
 ·walk_at "rd"
  exact ⟨_, rfl, q _ _ ⟨_, _, _, rfl, by lia, by lia⟩ (Int.emod_nonneg _ (by lia)) (Int.emod_lt_of_pos _ hm0)⟩
 ·walk_at "rd"
  exact ⟨_, rfl, q _ _ ⟨_, _, _, rfl, by lia, by lia⟩ (Int.emod_nonneg _ (by lia)) (Int.emod_lt_of_pos _ hm0)⟩
end
end My
namespace My
open PySem PySem.NumText VL
theorem cw (x y : Str) : (x ++ y).cps.toList = x.cps.toList ++ y.cps.toList := by
 show (x.cps ++ y.cps).toList = _
 simp
theorem wN (s : Str) : mk s.cps.toList = s := cB (by rw [ao])
theorem tR (a b : List Nat) : mk a ++ mk b = mk (a ++ b) := cB (by rw [cw, ao, ao, ao])
theorem mk_inj {a b : List Nat} : mk a = mk b ↔ a = b := ⟨fun h => by have := congrArg (fun s : Str => s.cps.toList) h; simpa [ao] using this, fun h => by rw [h]⟩
def dig (c : Nat) : Bool := decide (48 <= c /\ c <= 57)
def fgs : List Nat -> List Nat
 | 45 :: r => r
 | l => l
def shp (l : List Nat) : Bool := decide (1 <= (fgs l).length) && decide ((fgs l).length <= 60) && (fgs l).all dig
def canon (l : List Nat) : Bool := decide ((fgs l).head? ≠ some 48) || decide (l = [48])
def isNum (l : List Nat) : Bool := shp l && canon l
def numOf : List Nat -> Int
 | 45 :: r => -((digitsVal r : Nat) : Int)
 | l => ((digitsVal l : Nat) : Int)
theorem wO {l : List Nat} (h : l.all dig = true) : ∀ c ∈ l, 48 <= c /\ c <= 57 := fun c hc => of_decide_eq_true (List.all_eq_true.mp h c hc)
theorem ei (l : List Nat) : (∃ r, l = 45 :: r /\ fgs l = r /\ numOf l = -((digitsVal r : Nat) : Int)) \/ (fgs l = l /\ numOf l = ((digitsVal l : Nat) : Int) /\ l.head? ≠ some 45) := by
 match l with
 | [] => exact .inr ⟨rfl, rfl, by simp⟩
 | c :: r =>
  by_cases h : c = 45
  ·subst h; exact .inl ⟨r, rfl, rfl, rfl⟩
  ·refine .inr ⟨?_, ?_, by simpa using h⟩
   ·unfold fgs; split
    ·rename_i e; cases e; exact absurd rfl h
    ·rfl
   ·unfold numOf; split
    ·rename_i e; cases e; exact absurd rfl h
    ·rfl
theorem cD {l : List Nat} (h : shp l = true) : fgs l ≠ [] /\ (fgs l).length <= 60 /\ (∀ c ∈ fgs l, 48 <= c /\ c <= 57) /\ l.length <= 61 := by
 unfold shp at h
 simp only [Bool.and_eq_true, decide_eq_true_eq] at h
 refine ⟨fun e => by rw [e] at h; simp at h, h.1.2, wO h.2, ?_⟩
 rcases ei l with ⟨r, rfl, e, _⟩ | ⟨e, _⟩
 ·rw [e] at h; simp; lia
 ·rw [e] at h; lia
theorem iB {l : List Nat} (h : shp l = true) : PySem.intText? (mk l) = some (numOf l) := by
 obtain ⟨h1, h2, h3, h4⟩ := cD h
 rcases ei l with ⟨r, rfl, e, e2⟩ | ⟨e, e2, _⟩
 ·rw [e2]
  rw [e] at h1 h3
  exact PySem.intText_neg (by rw [ao]) h3 h1 (by rw [aD]; lia)
 ·rw [e2]
  rw [e] at h1 h3
  have := PySem.intText_digits (x := mk l) (by rw [ao]; exact h3) (by rw [ao]; exact h1) (by rw [aD]; lia)
  rw [ao] at this
  exact this
theorem tS {l : List Nat} (h : ∀ c ∈ l, 48 <= c /\ c <= 57) : (l.map Char.ofNat).map Char.toNat = l := by
 rw [List.map_map]
 conv => rhs; rw [<- List.map_id l]
 refine List.map_congr_left fun c hc => ?_
 have e : ∀ c, c < 58 -> (Char.ofNat c).toNat = c := by decide
 exact e c (by have := h c hc; lia)
theorem pK {l : List Nat} : l.dropWhile (· == 48) = l ↔ l.head? ≠ some 48 := by
 match l with
 | [] => simp
 | c :: r =>
  by_cases h : c = 48
  ·subst h
   simp only [List.head?_cons, ne_eq, not_true_eq_false, iff_false]
   intro z
   have := congrArg List.length z
   have h2 := (List.dropWhile_sublist (p := (· == 48)) (l := r)).length_le
   simp at this
   lia
  ·simp [h]
theorem lu {f : List Nat} (h : ∀ c ∈ f, 48 <= c /\ c <= 57) (h1 : f ≠ []) : ((Nat.toDigits 10 (digitsVal f)).map Char.toNat = f ↔ (f.head? ≠ some 48 \/ f = [48])) := by
 have sub : ∀ c ∈ f.dropWhile (· == 48), 48 <= c /\ c <= 57 := fun c hc => h c (List.dropWhile_sublist _ |>.subset hc)
 have td := NumText.toDigits_all f h
 cases e : f.dropWhile (· == 48) with
 | nil =>
  rw [e] at td
  rw [td]
  have hne : ¬ f.head? ≠ some 48 := fun z => by rw [pK.mpr z] at e; exact h1 e
  constructor
  ·intro z; exact .inr z.symm
  ·intro z
   rcases z with z | z
   ·exact absurd z hne
   ·rw [z]; decide
 | cons c r =>
  rw [e] at td sub
  rw [td, tS sub, <- e]
  rw [pK]
  constructor
  ·exact .inl
  ·intro z
   rcases z with z | z
   ·exact z
   ·rw [z] at e; simp at e
theorem qv {f : List Nat} (h : ∀ c ∈ f, 48 <= c /\ c <= 57) (h0 : digitsVal f = 0) (h1 : f ≠ []) : f.head? = some 48 := by
 match f, h1 with
 | c :: r, _ =>
  have := h c (by simp)
  by_cases e : c = 48
  ·rw [e]; rfl
  ·have := digitsVal_pos (c := c) (cs := r) (by lia)
   lia
theorem iC {l : List Nat} (h : shp l = true) : decide (wr (numOf l) = mk l) = canon l := by
 obtain ⟨h1, h2, h3, h4⟩ := cD h
 rcases ei l with ⟨r, rfl, e, e2⟩ | ⟨e, e2, e3⟩
 ·rw [e2]
  rw [e] at h1 h3
  have hc : canon (45 :: r) = decide (r.head? ≠ some 48) := by unfold canon; rw [e]; simp
  rw [hc]
  refine decide_eq_decide.mpr ?_
  by_cases h0 : digitsVal r = 0
  ·have hh := qv h3 h0 h1
   rw [h0]
   have z2 : wr (-((0 : Nat) : Int)) = mk [48] := by decide
   rw [z2, mk_inj]
   exact ⟨fun z => (nomatch z), fun z => absurd hh z⟩
  ·rw [tu (by lia), mk_inj]
   have ef : figs (-((digitsVal r : Nat) : Int)) = (Nat.toDigits 10 (digitsVal r)).map Char.toNat := by
    unfold figs
    rw [show (-((digitsVal r : Nat) : Int)).natAbs = digitsVal r by lia]
   rw [ef]
   constructor
   ·intro z
    have z' := (lu h3 h1).mp (List.cons.inj z).2
    rcases z' with z' | z'
    ·exact z'
    ·rw [z'] at h0; exact absurd rfl h0
   ·intro z; rw [(lu h3 h1).mpr (.inl z)]
 ·rw [e2]
  rw [e] at h1 h3
  have hc : canon l = decide (l.head? ≠ some 48 \/ l = [48]) := by unfold canon; rw [e]; exact (Bool.decide_or _ _).symm
  rw [hc]
  refine decide_eq_decide.mpr ?_
  rw [tq (by lia), mk_inj]
  have ef : figs ((digitsVal l : Nat) : Int) = (Nat.toDigits 10 (digitsVal l)).map Char.toNat := by
   unfold figs
   rw [show (((digitsVal l : Nat) : Int)).natAbs = digitsVal l by lia]
  rw [ef]
  exact lu h3 h1
theorem yk : ∀ (f : List Nat) (a : Nat), (∀ c ∈ f, 48 <= c /\ c <= 57) -> f.foldl (fun acc c => acc * 10 + (c - 48)) a < (a + 1) * 10 ^ f.length
 | [], a, _ => by simp
 | c :: r, a, h => by
  have hc := h c (by simp)
  have ih := yk r (a * 10 + (c - 48)) fun d hd => h d (by simp [hd])
  rw [List.foldl_cons, List.length_cons, Nat.pow_succ]
  refine Nat.lt_of_lt_of_le ih ?_
  have : a * 10 + (c - 48) + 1 <= (a + 1) * 10 := by lia
  calc (a * 10 + (c - 48) + 1) * 10 ^ r.length <= ((a + 1) * 10) * 10 ^ r.length := Nat.mul_le_mul_right _ this
   _ = (a + 1) * (10 ^ r.length * 10) := by rw [Nat.mul_assoc, Nat.mul_comm 10]
theorem nY {l : List Nat} (h : shp l = true) : (numOf l).natAbs < 10 ^ 60 := by
 obtain ⟨h1, h2, h3, h4⟩ := cD h
 have key : ∀ f : List Nat, (∀ c ∈ f, 48 <= c /\ c <= 57) -> f.length <= 60 -> digitsVal f < 10 ^ 60 := fun f hf hl => by
  have := yk f 0 hf
  rw [Nat.zero_add, Nat.one_mul] at this
  exact Nat.lt_of_lt_of_le this (Nat.pow_le_pow_right (by decide) hl)
 rcases ei l with ⟨r, rfl, e, e2⟩ | ⟨e, e2, e3⟩
 ·rw [e] at h2 h3
  have := key r h3 h2
  rw [e2, show (-((digitsVal r : Nat) : Int)).natAbs = digitsVal r by lia]
  exact this
 ·rw [e] at h2 h3
  have := key l h3 h2
  rw [e2, show (((digitsVal l : Nat) : Int)).natAbs = digitsVal l by lia]
  exact this
def prt (c : Nat) (z : Str) : List (List Nat) := (Txt.split z (mk [c])).map fun w => w.cps.toList
theorem cJ (c : Nat) (z : Str) : Txt.split z (mk [c]) = (prt c z).map mk := by
 unfold prt
 rw [List.map_map]
 conv => lhs; rw [<- List.map_id (Txt.split z (mk [c]))]
 exact List.map_congr_left fun w _ => (wN w).symm
theorem dQ (c : Nat) (z : Str) : jl c (prt c z) = z.cps.toList := by
 unfold prt
 rw [<- kU]
 exact congrArg (fun s : Str => s.cps.toList) (StrLaws.join_split z (mk [c]))
theorem ju (c : Nat) (z : Str) : ∀ w ∈ prt c z, c ∉ w := by
 intro w hw
 obtain ⟨v, hv, rfl⟩ := List.mem_map.mp hw
 exact StrLaws.split_free z c v hv
theorem jv (c : Nat) (z : Str) : prt c z ≠ [] := fun h => by
 have hp := PyProof.Rows.split_pos z (mk [c])
 rw [cJ, h] at hp
 exact absurd hp (by decide)
theorem tT (c : Nat) : ∀ ws : List (List Nat), ws.length <= (jl c ws).length + 1 /\ ∀ w ∈ ws, w.length <= (jl c ws).length
 | [] => ⟨by simp, fun _ h => nomatch h⟩
 | [w] => ⟨by simp, fun v hv => by rw [List.mem_singleton.mp hv]; exact Nat.le_refl _⟩
 | w :: v :: r => by
  obtain ⟨h1, h2⟩ := tT c (v :: r)
  have e : (jl c (w :: v :: r)).length = w.length + 1 + (jl c (v :: r)).length := by
   show (w ++ c :: jl c (v :: r)).length = _
   rw [List.length_append, List.length_cons]; lia
  refine ⟨by rw [e]; simp only [List.length_cons] at h1 ⊢; lia, fun x hx => ?_⟩
  rw [e]
  rcases List.mem_cons.mp hx with rfl | hx
  ·lia
  ·have := h2 x hx; lia
theorem eu (c : Nat) {z : Str} {n : Nat} (hz : z.length <= n) : (prt c z).length <= n + 1 /\ ∀ w ∈ prt c z, w.length <= n := by
 obtain ⟨h1, h2⟩ := tT c (prt c z)
 have e : (jl c (prt c z)).length = z.length := by rw [dQ, Array.length_toList]; rfl
 rw [e] at h1 h2
 exact ⟨by lia, fun w hw => Nat.le_trans (h2 w hw) hz⟩
def isCel (l : List Nat) : Bool := match prt 44 (mk l) with
 | [a, b] => isNum a && isNum b
 | _ => false
def celOf (l : List Nat) : Int × Int := match prt 44 (mk l) with
 | [a, b] => (numOf a, numOf b)
 | _ => (0, 0)
end My
namespace My
open PySem PySem.NumText VL
theorem tU (n : Int) : ∀ c ∈ (wr n).cps.toList, c = 45 \/ (48 <= c /\ c <= 57) := by
 intro c hc
 by_cases h : 0 <= n
 ·rw [tq h, ao] at hc
  exact .inr (pD n c hc)
 ·rw [tu (by lia), ao] at hc
  rcases List.mem_cons.mp hc with e | e
  ·exact .inl e
  ·exact .inr (pD n c e)
theorem tV {m n : Int} (hm : m.natAbs < 10 ^ 600) (hn : n.natAbs < 10 ^ 600) (h : wr m = wr n) : m = n := by
 have e1 := mK hm
 have e2 := mK hn
 have h : Str.ofString (toString m) = Str.ofString (toString n) := h
 rw [h, e2] at e1
 exact (Option.some.inj e1).symm
def fs (ms : List Int) : Int := ms.getD 0 0
def sn (ms : List Int) : Int := ms.getD 1 0
def mxI (ns : List Int) : Int := -(mnI (ns.map fun x => -x))
theorem ly {M : Int} (h : M ∈ ns) (h2 : ∀ a ∈ ns, a <= M) : M = mxI ns := by
 have : -M = mnI (ns.map fun x => -x) := gP (List.mem_map.mpr ⟨M, h, rfl⟩) fun a ha => by
  obtain ⟨b, hb, rfl⟩ := List.mem_map.mp ha
  have := h2 b hb
  lia
 unfold mxI
 lia
theorem e9 (h : ns ≠ []) : mxI ns ∈ ns := by
 have := bC (ns := ns.map fun x => -x) (by simpa using h)
 obtain ⟨b, hb, e⟩ := List.mem_map.mp this
 have : b = mxI ns := by unfold mxI; lia
 rw [<- this]; exact hb
theorem gU {a : Int} (h : a ∈ ns) : a <= mxI ns := by
 have := gO (ns := ns.map fun x => -x) (List.mem_map.mpr ⟨a, h, rfl⟩)
 unfold mxI
 lia
def Pr (ms : List Int) : Prop := ∃ x y, ms = [x, y]
def bx (mss : List (List Int)) : List Int := [mnI (mss.map fs), mnI (mss.map sn), mxI (mss.map fs) - mnI (mss.map fs) + 1, mxI (mss.map sn) - mnI (mss.map sn) + 1]
theorem jw {a b : List Int} (h : ∀ x, x ∈ a ↔ x ∈ b) : mnI a = mnI b := by
 cases a with
 | nil =>
  cases b with
  | nil => rfl
  | cons y b => exact absurd ((h y).mpr List.mem_cons_self) (by simp)
 | cons x a =>
  have hb : b ≠ [] := fun e => by have := (h x).mp List.mem_cons_self; rw [e] at this; simp at this
  exact gP ((h _).mp (bC (by simp))) fun c hc => gO ((h c).mpr hc)
theorem mT {a b : List Int} (h : ∀ x, x ∈ a ↔ x ∈ b) : mxI a = mxI b := by
 unfold mxI
 rw [jw (a := a.map fun x => -x) (b := b.map fun x => -x) fun x => by
  constructor
  ·intro z; obtain ⟨y, hy, rfl⟩ := List.mem_map.mp z; exact List.mem_map.mpr ⟨y, (h y).mp hy, rfl⟩
  ·intro z; obtain ⟨y, hy, rfl⟩ := List.mem_map.mp z; exact List.mem_map.mpr ⟨y, (h y).mpr hy, rfl⟩]
theorem gv {α β : Type} {f : α -> β} {a b : List α} (h : ∀ x, x ∈ a ↔ x ∈ b) : ∀ y, y ∈ a.map f ↔ y ∈ b.map f := fun y => by
 constructor
 ·intro z; obtain ⟨x, hx, rfl⟩ := List.mem_map.mp z; exact List.mem_map.mpr ⟨x, (h x).mp hx, rfl⟩
 ·intro z; obtain ⟨x, hx, rfl⟩ := List.mem_map.mp z; exact List.mem_map.mpr ⟨x, (h x).mpr hx, rfl⟩
theorem pL {a b : List (List Int)} (h : ∀ x, x ∈ a ↔ x ∈ b) : bx a = bx b := by
 unfold bx
 rw [jw (gv (f := fs) h), jw (gv (f := sn) h), mT (gv (f := fs) h), mT (gv (f := sn) h)]
def lit (rows : List (List Nat)) (x y : Nat) : Bool := decide ((rows.getD y [])[x]? = some 35)
def cm (W H : Nat) (rows : List (List Nat)) (a b : Int) : List (List Int) := (List.range W).flatMap fun (x : Nat) => ((List.range H).filter fun y => lit rows x y).map fun (y : Nat) => [a + (x : Int), b + (y : Int)]
theorem nZ {W H : Nat} {rows : List (List Nat)} {a b : Int} {c : List Int} : c ∈ cm W H rows a b ↔ ∃ x y : Nat, x < W /\ y < H /\ lit rows x y = true /\ c = [a + (x : Int), b + (y : Int)] := by
 unfold cm
 simp only [List.mem_flatMap, List.mem_map, List.mem_filter, List.mem_range]
 constructor
 ·rintro ⟨x, hx, y, ⟨hy, hl⟩, rfl⟩; exact ⟨x, y, hx, hy, hl, rfl⟩
 ·rintro ⟨x, y, hx, hy, hl, rfl⟩; exact ⟨x, hx, y, ⟨hy, hl⟩, rfl⟩
def gw (a b : Int) (y : Nat) (r : List Nat) : List (List Int) := ((List.range r.length).filter fun x => decide (r[x]? = some 35)).map fun (x : Nat) => [a + (x : Int), b + (y : Int)]
def rm (rows : List (List Nat)) (a b : Int) : List (List Int) := (List.range rows.length).flatMap fun y => gw a b y (rows.getD y [])
theorem jx {a b : Int} {y : Nat} {r : List Nat} {c : List Int} : c ∈ gw a b y r ↔ ∃ x : Nat, r[x]? = some 35 /\ c = [a + (x : Int), b + (y : Int)] := by
 unfold gw
 simp only [List.mem_map, List.mem_filter, List.mem_range, decide_eq_true_eq]
 constructor
 ·rintro ⟨x, ⟨_, h⟩, rfl⟩; exact ⟨x, h, rfl⟩
 ·rintro ⟨x, h, rfl⟩; exact ⟨x, ⟨(List.getElem?_eq_some_iff.mp h).1, h⟩, rfl⟩
theorem lz {rows : List (List Nat)} {a b : Int} {c : List Int} : c ∈ rm rows a b ↔ ∃ x y : Nat, y < rows.length /\ lit rows x y = true /\ c = [a + (x : Int), b + (y : Int)] := by
 unfold rm
 simp only [List.mem_flatMap, List.mem_range, jx, lit, decide_eq_true_eq]
 constructor
 ·rintro ⟨y, hy, x, h, rfl⟩; exact ⟨x, y, hy, h, rfl⟩
 ·rintro ⟨x, y, hy, h, rfl⟩; exact ⟨y, hy, x, h, rfl⟩
theorem gV (a b : Int) (y : Nat) (r : List Nat) (c : Nat) : gw a b y (r ++ [c]) = gw a b y r ++ if c = 35 then [[a + (r.length : Int), b + (y : Int)]] else [] := by
 unfold gw
 rw [List.length_append, List.length_singleton, List.range_succ, List.filter_append, List.map_append]
 congr 1
 ·congr 1
  refine List.filter_congr fun x hx => ?_
  rw [List.getElem?_append_left (List.mem_range.mp hx)]
 ·by_cases h : c = 35
  ·rw [if_pos h]; simp [List.filter_cons, h]
  ·rw [if_neg h]; simp [List.filter_cons, h]
theorem lA (rows : List (List Nat)) (r : List Nat) (a b : Int) : rm (rows ++ [r]) a b = rm rows a b ++ gw a b rows.length r := by
 unfold rm
 rw [List.length_append, List.length_singleton, List.range_succ, List.flatMap_append]
 congr 1
 ·rw [List.flatMap_def, List.flatMap_def]
  congr 1
  refine List.map_congr_left fun y hy => ?_
  have := List.mem_range.mp hy
  rw [List.getD_eq_getElem?_getD, List.getD_eq_getElem?_getD, List.getElem?_append_left this]
 ·simp
theorem jy (a b : Int) (y : Nat) (r : List Nat) : (gw a b y r).length = r.count 35 := by
 have h : ∀ r : List Nat, (gw a b y r.reverse).length = r.reverse.count 35 := fun r => by
  induction r with
  | nil => rfl
  | cons c r ih =>
   rw [List.reverse_cons, gV, List.length_append, ih, List.count_append]
   by_cases h : c = 35
   ·subst h; simp
   ·rw [if_neg h]
    simp [List.count_cons, h]
 have := h r.reverse
 rwa [List.reverse_reverse] at this
def grd (mss : List (List Int)) (a b : Int) (W H : Nat) : List (List Nat) := (List.range H).map fun (y : Nat) => (List.range W).map fun (x : Nat) => if [a + (x : Int), b + (y : Int)] ∈ mss then 35 else 46
def txt (mss : List (List Int)) : List Nat := (wr (mnI (mss.map fs))).cps.toList ++ 44 :: ((wr (mnI (mss.map sn))).cps.toList ++ 32 :: jl 47 (grd mss (mnI (mss.map fs)) (mnI (mss.map sn)) (mxI (mss.map fs) - mnI (mss.map fs) + 1).toNat (mxI (mss.map sn) - mnI (mss.map sn) + 1).toNat))
def inB (c : List Int) : Bool := decide ((fs c).natAbs < 10 ^ 60) && decide ((sn c).natAbs < 10 ^ 60)
def rect (rows : List (List Nat)) : Bool := rows.all fun r => decide (r.length = (rows.headD []).length) && r.all fun c => decide (c = 35 \/ c = 46)
def okR (rows : List (List Nat)) (a b : Int) : Bool := decide ((rows.headD []).length <= 40) && decide (rows.length <= 40) && rect rows && !(cm (rows.headD []).length rows.length rows a b).isEmpty && (cm (rows.headD []).length rows.length rows a b).all inB
 && decide (bx (cm (rows.headD []).length rows.length rows a b) = [a, b, ((rows.headD []).length : Int), (rows.length : Int)])
def rdP (l : List Nat) : Option (List (List Int)) := if l = [45] then some [] else match prt 32 (mk l) with
 | [w0, w1] => if isCel w0 = true then (if okR (prt 47 (mk w1)) (celOf w0).1 (celOf w0).2 = true then some (cm ((prt 47 (mk w1)).headD []).length (prt 47 (mk w1)).length (prt 47 (mk w1)) (celOf w0).1 (celOf w0).2) else none) else none
 | _ => none
theorem eQ {rows : List (List Nat)} : rect rows = true ↔ ∀ r ∈ rows, r.length = (rows.headD []).length /\ ∀ c ∈ r, c = 35 \/ c = 46 := by
 unfold rect
 simp only [List.all_eq_true, Bool.and_eq_true, decide_eq_true_eq]
theorem tW {d : Nat} : ∀ {ws : List (List Nat)} {c : Nat}, c ∈ jl d ws -> c = d \/ ∃ w ∈ ws, c ∈ w
 | [], _, h => by simp [jl] at h
 | [w], _, h => .inr ⟨w, List.mem_cons_self, h⟩
 | w :: v :: r, c, h => by
  have h : c ∈ w ++ d :: jl d (v :: r) := h
  rcases List.mem_append.mp h with z | z
  ·exact .inr ⟨w, List.mem_cons_self, z⟩
  ·rcases List.mem_cons.mp z with z | z
   ·exact .inl z
   ·rcases tW z with z | ⟨u, hu, hc⟩
    ·exact .inl z
    ·exact .inr ⟨u, List.mem_cons_of_mem _ hu, hc⟩
theorem tX {c : Nat} {ws : List (List Nat)} (h0 : ws ≠ []) (h : ∀ w ∈ ws, c ∉ w) : prt c (mk (jl c ws)) = ws :=
 tf (jv c _) h0 (ju c _) h (by rw [dQ, ao])
theorem iD {c W : Nat} : ∀ {ws : List (List Nat)}, (∀ w ∈ ws, w.length <= W) -> (jl c ws).length <= ws.length * (W + 1)
 | [], _ => by simp [jl]
 | [w], h => by
  have := h w List.mem_cons_self
  show w.length <= 1 * (W + 1)
  lia
 | w :: v :: r, h => by
  have h1 := h w List.mem_cons_self
  have h2 := iD (c := c) (ws := v :: r) fun u hu => h u (List.mem_cons_of_mem _ hu)
  show (w ++ c :: jl c (v :: r)).length <= (r.length + 1 + 1) * (W + 1)
  rw [List.length_append, List.length_cons, Nat.succ_mul (r.length + 1)]
  have h2 : (jl c (v :: r)).length <= (r.length + 1) * (W + 1) := h2
  lia
theorem gx {c : Nat} {n : Int} (h : c ≠ 45) (h2 : ¬(48 <= c /\ c <= 57)) : c ∉ (wr n).cps.toList := fun z => (tU n c z).elim h h2
theorem tY {rows : List (List Nat)} {a b : Int} (hr : rect rows = true) : grd (rm rows a b) a b (rows.headD []).length rows.length = rows := by
 have hr := eQ.mp hr
 refine List.ext_getElem? fun y => ?_
 unfold grd
 rw [List.getElem?_map]
 by_cases hy : y < rows.length
 ·rw [List.getElem?_range hy, List.getElem?_eq_getElem hy]
  show some _ = some _
  congr 1
  obtain ⟨h1, h2⟩ := hr rows[y] (List.getElem_mem hy)
  refine List.ext_getElem? fun x => ?_
  rw [List.getElem?_map]
  by_cases hx : x < (rows.headD []).length
  ·rw [List.getElem?_range hx, List.getElem?_eq_getElem (show x < rows[y].length by lia)]
   show some _ = some _
   congr 1
   have e : ([a + (x : Int), b + (y : Int)] ∈ rm rows a b) ↔ rows[y][x]'(by lia) = 35 := by
    rw [lz]
    have gd : rows.getD y [] = rows[y] := by rw [List.getD_eq_getElem?_getD, List.getElem?_eq_getElem hy]; rfl
    constructor
    ·rintro ⟨x', y', hy', hl, e⟩
     simp only [List.cons.injEq, and_true] at e
     obtain rfl : x = x' := by lia
     obtain rfl : y = y' := by lia
     unfold lit at hl
     rw [gd, List.getElem?_eq_getElem (show x < rows[y].length by lia)] at hl
     exact Option.some.inj (of_decide_eq_true hl)
    ·intro e
     refine ⟨x, y, hy, ?_, rfl⟩
     unfold lit
     rw [gd, List.getElem?_eq_getElem (show x < rows[y].length by lia), e]
     rfl
   rcases h2 (rows[y][x]'(by lia)) (List.getElem_mem _) with h | h
   ·show (if _ then 35 else 46) = _
    rw [if_pos (e.mpr h), h]
   ·show (if _ then 35 else 46) = _
    rw [if_neg (fun z => by have := e.mp z; lia), h]
  ·rw [List.getElem?_eq_none (by simpa using hx), List.getElem?_eq_none (by lia)]; rfl
 ·rw [List.getElem?_eq_none (by simpa using hy), List.getElem?_eq_none (by lia)]; rfl
theorem tZ {rows : List (List Nat)} {a b : Int} (hr : rect rows = true) (c : List Int) : c ∈ rm rows a b ↔ c ∈ cm (rows.headD []).length rows.length rows a b := by
 rw [lz, nZ]
 constructor
 ·rintro ⟨x, y, hy, hl, rfl⟩
  refine ⟨x, y, ?_, hy, hl, rfl⟩
  have gd : rows.getD y [] = rows[y] := by rw [List.getD_eq_getElem?_getD, List.getElem?_eq_getElem hy]; rfl
  have := (eQ.mp hr rows[y] (List.getElem_mem hy)).1
  unfold lit at hl
  have hx := (List.getElem?_eq_some_iff.mp (of_decide_eq_true hl)).1
  rw [gd] at hx
  lia
 ·rintro ⟨x, y, hx, hy, hl, rfl⟩; exact ⟨x, y, hy, hl, rfl⟩
def t4 (l : List Nat) (rows : List (List Nat)) (a b : Int) : Prop := rm rows a b ≠ [] /\ (∀ c ∈ rm rows a b, inB c = true) /\ (∀ c ∈ rm rows a b, fs c - a <= 39 /\ sn c - b <= 39) /\ txt (rm rows a b) = l
theorem A1 {A B rest : List Nat} (hA : isNum A = true) (hB : isNum B = true) (h : okR (prt 47 (mk rest)) (numOf A) (numOf B) = true) :
  t4 (A ++ 44 :: (B ++ 32 :: rest)) (prt 47 (mk rest)) (numOf A) (numOf B) /\ (A ++ 44 :: (B ++ 32 :: rest)).length <= 2000 /\ ∀ c ∈ rest, c = 35 \/ c = 46 \/ c = 47 := by
 have hj := dQ 47 (mk rest)
 rw [ao] at hj
 generalize prt 47 (mk rest) = rows at h hj ⊢
 unfold okR at h
 simp only [Bool.and_eq_true, decide_eq_true_eq, Bool.not_eq_true', List.all_eq_true] at h
 obtain ⟨⟨⟨⟨⟨h1, h2⟩, h3⟩, h4⟩, h5⟩, h6⟩ := h
 have same := tZ (a := numOf A) (b := numOf B) h3
 have hbx := (pL same).trans h6
 have e1 : mnI ((rm rows (numOf A) (numOf B)).map fs) = numOf A := by have := congrArg (fun l : List Int => l.getD 0 0) hbx; exact this
 have e2 : mnI ((rm rows (numOf A) (numOf B)).map sn) = numOf B := by have := congrArg (fun l : List Int => l.getD 1 0) hbx; exact this
 have e3 : mxI ((rm rows (numOf A) (numOf B)).map fs) - mnI ((rm rows (numOf A) (numOf B)).map fs) + 1 = ((rows.headD []).length : Int) := by have := congrArg (fun l : List Int => l.getD 2 0) hbx; exact this
 have e4 : mxI ((rm rows (numOf A) (numOf B)).map sn) - mnI ((rm rows (numOf A) (numOf B)).map sn) + 1 = (rows.length : Int) := by have := congrArg (fun l : List Int => l.getD 3 0) hbx; exact this
 have rc := eQ.mp h3
 have ca : ∀ {L : List Nat}, isNum L = true -> (wr (numOf L)).cps.toList = L /\ L.length <= 61 := fun {L} hL => by
  unfold isNum at hL
  rw [Bool.and_eq_true] at hL
  have := iC hL.1
  rw [hL.2] at this
  exact ⟨by rw [of_decide_eq_true this, ao], (cD hL.1).2.2.2⟩
 refine ⟨⟨fun z => ?_, fun c hc => h5 c ((same c).mp hc), fun c hc => ?_, ?_⟩, ?_, fun c hc => ?_⟩
 ·have : cm (rows.headD []).length rows.length rows (numOf A) (numOf B) = [] := List.eq_nil_iff_forall_not_mem.mpr fun c hc => by
   have := (same c).mpr hc
   rw [z] at this
   simp at this
  rw [this] at h4
  cases h4
 ·obtain ⟨x, y, hx, hy, _, rfl⟩ := nZ.mp ((same c).mp hc)
  show numOf A + (x : Int) - numOf A <= 39 /\ numOf B + (y : Int) - numOf B <= 39
  lia
 ·unfold txt
  rw [e3, e4, e1, e2, Int.toNat_natCast, Int.toNat_natCast, tY h3, (ca hA).1, (ca hB).1, hj]
 ·have l1 := (ca hA).2
  have l2 := (ca hB).2
  have l3 := iD (c := 47) (W := 40) (ws := rows) fun w hw => by have := (rc w hw).1; lia
  rw [hj] at l3
  have l4 : rows.length * (40 + 1) <= 40 * (40 + 1) := Nat.mul_le_mul_right _ h2
  simp only [List.length_append, List.length_cons]
  lia
 ·rw [<- hj] at hc
  rcases tW hc with z | ⟨w, hw, hcw⟩
  ·exact .inr (.inr z)
  ·exact ((rc w hw).2 c hcw).elim .inl fun z => .inr (.inl z)
theorem toNat_pos {m M : Int} (h : m <= M) : ((M - m + 1).toNat : Int) = M - m + 1 := Int.toNat_of_nonneg (by lia)
theorem A2 {A B rest : List Nat} (hA : isNum A = true) (hB : isNum B = true) (h : t4 (A ++ 44 :: (B ++ 32 :: rest)) (prt 47 (mk rest)) (numOf A) (numOf B)) : okR (prt 47 (mk rest)) (numOf A) (numOf B) = true := by
 obtain ⟨h1, h2, h3, h4⟩ := h
 have fr : ∀ {L : List Nat} {c : Nat}, isNum L = true -> c ≠ 45 -> ¬(48 <= c /\ c <= 57) -> c ∉ L := fun {L c} hL c1 c2 hc => by
  unfold isNum at hL
  rw [Bool.and_eq_true] at hL
  obtain ⟨_, _, g3, _⟩ := cD hL.1
  rcases ei L with ⟨r, rfl, e, _⟩ | ⟨e, _, _⟩
  ·rw [e] at g3
   rcases List.mem_cons.mp hc with z | z
   ·exact c1 z
   ·exact c2 (g3 c z)
  ·rw [e] at g3
   exact c2 (g3 c hc)
 have ca : ∀ {L : List Nat}, isNum L = true -> (wr (numOf L)).cps.toList = L /\ (numOf L).natAbs < 10 ^ 60 := fun {L} hL => by
  unfold isNum at hL
  rw [Bool.and_eq_true] at hL
  have := iC hL.1
  rw [hL.2] at this
  exact ⟨by rw [of_decide_eq_true this, ao], nY hL.1⟩
 have n1 : (rm (prt 47 (mk rest)) (numOf A) (numOf B)).map fs ≠ [] := by simpa using h1
 have n2 : (rm (prt 47 (mk rest)) (numOf A) (numOf B)).map sn ≠ [] := by simpa using h1
 have q1 := List.mem_map.mp (bC n1)
 have q2 := List.mem_map.mp (bC n2)
 have q3 := List.mem_map.mp (e9 n1)
 have q4 := List.mem_map.mp (e9 n2)
 have p1 := gU (bC n1)
 have p2 := gU (bC n2)
 unfold txt at h4
 generalize hm1 : mnI ((rm (prt 47 (mk rest)) (numOf A) (numOf B)).map fs) = mx at *
 generalize hm2 : mnI ((rm (prt 47 (mk rest)) (numOf A) (numOf B)).map sn) = my at *
 generalize hM1 : mxI ((rm (prt 47 (mk rest)) (numOf A) (numOf B)).map fs) = Mx at *
 generalize hM2 : mxI ((rm (prt 47 (mk rest)) (numOf A) (numOf B)).map sn) = My at *
 obtain ⟨s1, s2⟩ := kS (gx (by decide) (by decide)) (fr hA (by decide) (by decide)) h4
 obtain ⟨s3, s4⟩ := kS (gx (by decide) (by decide)) (fr hB (by decide) (by decide)) s2
 obtain ⟨c1, hc1, e1⟩ := q1
 obtain ⟨c2, hc2, e2⟩ := q2
 obtain ⟨c3, hc3, e3⟩ := q3
 obtain ⟨c4, hc4, e4⟩ := q4
 have b1 := h2 c1 hc1
 have b2 := h2 c2 hc2
 unfold inB at b1 b2
 rw [Bool.and_eq_true, decide_eq_true_eq, decide_eq_true_eq] at b1 b2
 have lt6 : ∀ {n : Nat}, n < 10 ^ 60 -> n < 10 ^ 600 := fun h => Nat.lt_trans h (by decide +kernel)
 have ea : mx = numOf A := tV (lt6 (by rw [<- e1]; exact b1.1)) (lt6 (ca hA).2) (cB (s1.trans (ca hA).1.symm))
 have eb : my = numOf B := tV (lt6 (by rw [<- e2]; exact b2.2)) (lt6 (ca hB).2) (cB (s3.trans (ca hB).1.symm))
 have t1 := toNat_pos p1
 have t2 := toNat_pos p2
 have w3 := (h3 c3 hc3).1
 have w4 := (h3 c4 hc4).2
 rw [e3] at w3
 rw [e4] at w4
 generalize hW : (Mx - mx + 1).toNat = W at *
 generalize hH : (My - my + 1).toNat = Hh at *
 have hHp : 0 < Hh := by lia
 -- the rows are the picture's own
 have gne : grd (rm (prt 47 (mk rest)) (numOf A) (numOf B)) mx my W Hh ≠ [] := fun z => by
  have := congrArg List.length z
  unfold grd at this
  simp at this
  lia
 have gall : ∀ w ∈ grd (rm (prt 47 (mk rest)) (numOf A) (numOf B)) mx my W Hh, w.length = W /\ ∀ c ∈ w, c = 35 \/ c = 46 := fun w hw => by
  unfold grd at hw
  obtain ⟨y, _, rfl⟩ := List.mem_map.mp hw
  refine ⟨by simp, fun c hc => ?_⟩
  obtain ⟨x, _, rfl⟩ := List.mem_map.mp hc
  split
  ·exact .inl rfl
  ·exact .inr rfl
 have er : prt 47 (mk rest) = grd (rm (prt 47 (mk rest)) (numOf A) (numOf B)) mx my W Hh := by
  conv => lhs; rw [<- s4]
  exact tX gne fun w hw z => by rcases (gall w hw).2 47 z with h | h <;> cases h
 have glen : (grd (rm (prt 47 (mk rest)) (numOf A) (numOf B)) mx my W Hh).length = Hh := by unfold grd; simp
 have hhd : ((prt 47 (mk rest)).headD []).length = W := by
  rw [er]
  match hg : grd (rm (prt 47 (mk rest)) (numOf A) (numOf B)) mx my W Hh, gne with
  | w :: r, _ => exact (gall w (by rw [hg]; exact List.mem_cons_self)).1
 have hlen : (prt 47 (mk rest)).length = Hh := by rw [er, glen]
 have hrect : rect (prt 47 (mk rest)) = true := eQ.mpr fun r hr => by
  rw [hhd]
  rw [er] at hr
  exact gall r hr
 have same := tZ (a := numOf A) (b := numOf B) hrect
 have hbx := (pL same).symm
 unfold okR
 rw [hrect, hbx]
 simp only [Bool.and_eq_true, decide_eq_true_eq, Bool.not_eq_true', List.all_eq_true, and_true]
 refine ⟨⟨⟨⟨?_, ?_⟩, ?_⟩, fun c hc => h2 c ((same c).mpr hc)⟩, ?_⟩
 ·rw [hhd]; lia
 ·rw [hlen]; lia
 ·cases hcm : cm ((prt 47 (mk rest)).headD []).length (prt 47 (mk rest)).length (prt 47 (mk rest)) (numOf A) (numOf B) with
  | nil =>
   have := (same c1).mp hc1
   rw [hcm] at this
   simp at this
  | cons c r => rfl
 ·unfold bx
  rw [hm1, hm2, hM1, hM2, hhd, hlen, ea, eb]
  rw [ea] at t1
  rw [eb] at t2
  rw [t1, t2]
theorem DC {rows : List (List Nat)} {a b : Int} : ∀ c ∈ rm rows a b, Pr c := fun c hc => by
 obtain ⟨x, y, _, _, rfl⟩ := lz.mp hc
 exact ⟨_, _, rfl⟩
end My
namespace My
open PySem L2 VL
theorem lB {n : Int} (h : n.natAbs < 10 ^ 60) : n.natAbs.log2 < 1920 := by
 by_cases h0 : n.natAbs = 0
 ·rw [h0]; decide
 ·exact (Nat.log2_lt h0).mpr (Nat.lt_of_lt_of_le h (by decide))
theorem aW {n : Nat} (h : n <= 1000000) : n <= sizeLine := Nat.le_trans h (by rw [sizeLine_eq]; decide)
theorem jz (l : List Nat) : sgs (mk l) = l.map fun c => .str ⟨#[c]⟩ := by unfold sgs; rw [ao]
theorem all_map {α : Type} (l : List α) (p : α -> Bool) (h : q (.bl (l.all p))) : CP (fun x => x.all id) [.lst (l.map fun x => D.bl (p x))] q :=
 ⟨l.map p, by rw [List.map_map]; rfl, by show q (.bl ((l.map p).all id)); rw [List.all_map]; exact h⟩
theorem n0 (z : Str) (c : Nat) : inS ⟨#[c]⟩ z = decide (c ∈ z.cps.toList) := StrLaws.found_one z c
theorem lD (c : Nat) : inS ⟨#[c]⟩ "0123456789" = dig c := by
 rw [n0]
 have e : (Str.ofString "0123456789").cps.toList = [48, 49, 50, 51, 52, 53, 54, 55, 56, 57] := by decide
 show decide (c ∈ (Str.ofString "0123456789").cps.toList) = _
 rw [e]
 simp only [List.mem_cons, List.not_mem_nil, or_false]
 unfold dig
 refine decide_eq_decide.mpr ⟨fun h => ?_, fun h => ?_⟩
 ·rcases h with h | h | h | h | h | h | h | h | h | h <;> (subst h; decide)
 ·have : c - 48 < 10 := Nat.lt_of_le_of_lt (Nat.sub_le_sub_right h.2 48) (by decide)
  have e2 : ∀ d, d < 10 -> (48 + d = 48 \/ 48 + d = 49 \/ 48 + d = 50 \/ 48 + d = 51 \/ 48 + d = 52 \/ 48 + d = 53 \/ 48 + d = 54 \/ 48 + d = 55 \/ 48 + d = 56 \/ 48 + d = 57) := by decide
  have := e2 (c - 48) this
  rw [Nat.add_sub_of_le h.1] at this
  exact this
theorem pM (l : List Nat) : Txt.removeprefix (mk l) (mk [45]) = mk (fgs l) := by
 rcases ei l with ⟨r, rfl, e, _⟩ | ⟨e, _, h⟩
 ·rw [e]; exact wm
 ·rw [e]
  match l, h with
  | [], _ => decide
  | c :: r, h => exact AQ (by simpa using h)
theorem t5 {f g : Int -> Int -> Bool} {va vb vc : VT} {a b c : Int} {Q : VR -> List Sl -> Prop} (ha : ∀ Q', Q' (.d (.int a)) S -> va S Q') (hb : ∀ Q', Q' (.d (.int b)) S -> vb S Q') (hc : ∀ Q', Q' (.d (.int c)) S -> vc S Q') (h : Q (.d (.bl (f a b && g b c))) S) :
  kG (wI0 fun i j => V.bl (f i j)) (wI0 fun i j => V.bl (g i j)) va vb vc S Q := by
 unfold kG
 refine ha _ (hb _ ⟨.int a, .int b, rfl, rfl, a, b, rfl, rfl, _, rfl, ?_⟩)
 cases h1 : f a b with
 | true =>
  rw [if_pos rfl]
  refine hc _ ⟨.int b, .int c, rfl, rfl, b, c, rfl, rfl, ?_⟩
  rw [h1, Bool.true_and] at h
  exact h
 | false =>
  rw [if_neg Bool.false_ne_true]
  rw [h1, Bool.false_and] at h
  exact h
theorem j8 (l : List Nat) : shp l = ((decide ((1 : Int) <= ((fgs l).length : Int)) && decide (((fgs l).length : Int) <= 60)) && (fgs l).all dig) := by
 unfold shp
 congr 1
 congr 1
 ·exact decide_eq_decide.mpr (by lia)
 ·exact decide_eq_decide.mpr (by lia)
def pNum (ds : List D) (R : D -> Prop) : Prop := ∃ l : List Nat, ds = [.str (mk l)] /\ l.length <= 100000 /\ isNum l = true /\ R (.int (numOf l))
def bdN (cN : Addr) : List D -> Addr -> Prop := fun ds C => ∃ l : List Nat, ds = [.str (mk l)] /\ l.length <= 100000 /\ isNum l = false /\ C = cN
theorem lE (l : List Nat) : (fgs l).length <= l.length := by
 rcases ei l with ⟨r, rfl, e, _⟩ | ⟨e, _, _⟩
 ·rw [e]; simp
 ·rw [e]; exact Nat.le_refl _
section
variable {P : Program} {w : World} {K : PySem.W.Frag} {mg : Str -> Option Value} {base : Heap}
theorem DD {t1 t2 : Tok} (S : Src K mg "read_number" bO) (T : Txt mg) (g_MOST_FIGURES : mg "MOST_FIGURES" = some (.int 60 t1)) (g_FIGURES : mg "FIGURES" = some (.str "0123456789" t2)) : Has P w K mg base 1 "read_number" ["text"] (spP K pNum) := by
 refine cZ S bS (by walk_at "1") (fun ds R zq1 => by obtain ⟨_, e, _⟩ := zq1; rw [e]; rfl) fun f cdv A outer s H E hr => ⟨_, _, (ai (aE (i := 1) bS.nd rfl (Or.inl rfl) (sV rfl (aa 0 (pv 0)) aB))
  (ai (bA (dt (cH (bU (mr oq aJ oq aJ ah (au bq d9 (by rfl) T.len_ bH (ae (aa 1 (pv 1)) af)) (cV (cy (v := .int 60) (by rfl) g_MOST_FIGURES ⟨_, rfl⟩) (fun _ _ => .int _)))) (cW (bU (cf (au (i8 (K := K) rfl rfl) i9 (by rfl) T.all_ fC (ae (aL (bf (tg := ["sign"]) (cs := []) (ix := []) (aI (aj bO) ["text", "figures", "number"] (by decide +kernel)) rfl (aN (by decide)) (by decide) (jh (aa 1 (pv 1))) (fun _ _ _ _ => (az (aw (i := 0) (show (["sign"] : List Str).Nodup by decide +kernel) rfl (Or.inl rfl) (by first | exact Or.inl rfl | exact Or.inr rfl)))) (fun _ _ _ _ => ba) (fun _ _ _ _ => (dy gE sS (aa 0 (pv 0)) (cV (cy (v := .str "0123456789") (by rfl) g_FIGURES ⟨_, rfl⟩) (fun _ _ => .str _)) (by with_unfolding_all rfl))))) af))))))) (ay cY) aQ)
  (ai (aE (i := 2) bS.nd rfl (Or.inl rfl) (cj gQ nU (by rfl) T.int_ kr (ae (aa 0 (pv 0)) af)))
  (ai (bA (aK gY lU (cj cQ kK (by rfl) T.str_ gM (ae (aa 2 (pv 2)) af)) (aa 0 (pv 0)) (aH _)) (ay cY) aQ)
  (ay (aP (bB (aa 2 (pv 2))))))))), ?_⟩
 rintro ds R ⟨l, rfl, hl, hn, q⟩
 unfold isNum at hn
 rw [Bool.and_eq_true] at hn
 obtain ⟨hs, hc⟩ := hn
 have hs' := hs
 rw [j8, Bool.and_eq_true] at hs'
 obtain ⟨i1, i2, i3, i4⟩ := cD hs
 have hfl := lE l
 walk_at "sl"
 walk_at "rd"
 rw [show Str.ofString "-" = mk [45] from rfl]
 refine pB (by rw [aD]; exact aW (by lia)) ?_
 rw [pM]
 walk_at "rd"
 refine t5 (a := 1) (b := ((fgs l).length : Int)) (c := 60) (fun Q' h => by walk_at "rd"; exact h) (fun Q' h => ?_) (fun Q' h => by walk_at "rd"; exact h) ?_
 ·walk_at "rd"
  refine eg (by rw [aD]; exact aW (by lia)) ?_
  rw [aD]
  exact h
 rw [hs'.1]
 walk_at "rc"
 rw [jz]
 refine comp_map (xs := fgs l) (f := fun c => D.bl (dig c)) (by lia) (fun c hc A B hA => ?_) ?_
 ·dsimp only [bp, List.replicate, List.map_cons, List.map_nil, List.cons_append, List.nil_append]
  walk_at "rd"
  refine sY (lD c) ?_
  walk_at "rd"
  exact hA _ rfl
 walk_at "rd"
 refine all_map _ dig ?_
 rw [hs'.2]
 walk_at "rc"
 refine kQ (iB hs) (by rw [aD]; lia) ?_
 walk_at "rd"
 refine kL (lB (nY hs)) ?_
 walk_at "rd"
 have e := iC hs
 rw [hc] at e
 rw [show decide (Str.ofString (toString (numOf l)) = mk l) = true from e]
 walk_at "rc"
 exact q
theorem A3 {c_NoText : Addr} {t1 t2 : Tok} (S : Src K mg "read_number" bO) (T : Txt mg) (g_MOST_FIGURES : mg "MOST_FIGURES" = some (.int 60 t1)) (g_FIGURES : mg "FIGURES" = some (.str "0123456789" t2)) (g_NoText : mg "NoText" = some (.ref c_NoText)) (x_NoText : PySem.W.excIn K c_NoText [.type "ValueError", .type "Exception", .type "BaseException", .type "object"] "ValueError.__new__" = true) : kM P w K mg base 1 "read_number" ["text"] (bdN c_NoText) := by
 refine sI S bS (by walk_at "1") (fun ds C zq1 => by obtain ⟨_, e, _⟩ := zq1; rw [e]; rfl) fun f cdv A outer s H E hr TH => ⟨_, _, (d8 (aE (i := 1) bS.nd rfl (Or.inl rfl) (sV rfl (aa 0 (pv 0)) aB)) (jd (dt (cH (bU (mr oq aJ oq aJ ah (au bq d9 (by rfl) T.len_ bH (ae (aa 1 (pv 1)) af)) (cV (cy (v := .int 60) (by rfl) g_MOST_FIGURES ⟨_, rfl⟩) (fun _ _ => .int _)))) (cW (bU (cf (au (i8 (K := K) rfl rfl) i9 (by rfl) T.all_ fC (ae (aL (bf (tg := ["sign"]) (cs := []) (ix := []) (aI (aj bO) ["text", "figures", "number"] (by decide +kernel)) rfl (aN (by decide)) (by decide) (jh (aa 1 (pv 1))) (fun _ _ _ _ => (az (aw (i := 0) (show (["sign"] : List Str).Nodup by decide +kernel) rfl (Or.inl rfl) (by first | exact Or.inl rfl | exact Or.inr rfl)))) (fun _ _ _ _ => ba) (fun _ _ _ _ => (dy gE sS (aa 0 (pv 0)) (cV (cy (v := .str "0123456789") (by rfl) g_FIGURES ⟨_, rfl⟩) (fun _ _ => .str _)) (by with_unfolding_all rfl))))) af))))))) (df TH PySem.F.excBase_ValueError x_NoText g_NoText rfl)
  (d8 (aE (i := 2) bS.nd rfl (Or.inl rfl) (cj gQ nU (by rfl) T.int_ kr (ae (aa 0 (pv 0)) af))) (jd (aK gY lU (cj cQ kK (by rfl) T.str_ gM (ae (aa 2 (pv 2)) af)) (aa 0 (pv 0)) (aH _)) (df TH PySem.F.excBase_ValueError x_NoText g_NoText rfl)
  mF)))), ?_⟩
 rintro ds C ⟨l, rfl, hl, hn, rfl⟩
 have hfl := lE l
 walk_at "sl"
 walk_at "rd"
 rw [show Str.ofString "-" = mk [45] from rfl]
 refine pB (by rw [aD]; exact aW (by lia)) ?_
 rw [pM]
 walk_at "rd"
 refine t5 (a := 1) (b := ((fgs l).length : Int)) (c := 60) (fun Q' h => by walk_at "rd"; exact h) (fun Q' h => ?_) (fun Q' h => by walk_at "rd"; exact h) ?_
 ·walk_at "rd"
  refine eg (by rw [aD]; exact aW (by lia)) ?_
  rw [aD]
  exact h
 cases h1 : (decide ((1 : Int) <= ((fgs l).length : Int)) && decide (((fgs l).length : Int) <= 60)) with
 | false =>
  walk_at "rc"
  rw [if_pos rfl]
  trivial
 | true =>
  walk_at "rc"
  rw [jz]
  refine comp_map (xs := fgs l) (f := fun c => D.bl (dig c)) (by lia) (fun c hc A B hA => ?_) ?_
  ·dsimp only [bp, List.replicate, List.map_cons, List.map_nil, List.cons_append, List.nil_append]
   walk_at "rd"
   refine sY (lD c) ?_
   walk_at "rd"
   exact hA _ rfl
  walk_at "rd"
  refine all_map _ dig ?_
  cases h2 : (fgs l).all dig with
  | false =>
   walk_at "rc"
   rw [if_pos (show (!false) = true from rfl)]
   trivial
  | true =>
   have hs : shp l = true := by rw [j8, h1, h2]; rfl
   have hc : canon l = false := by
    unfold isNum at hn
    rw [hs, Bool.true_and] at hn
    exact hn
   obtain ⟨i1, i2, i3, i4⟩ := cD hs
   walk_at "rc"
   rw [if_neg (show ¬(!true) = true from by decide)]
   walk_at "rc"
   refine kQ (iB hs) (by rw [aD]; lia) ?_
   walk_at "rc"
   refine kL (lB (nY hs)) ?_
   walk_at "rc"
   have e := iC hs
   rw [hc] at e
   rw [show decide (Str.ofString (toString (numOf l)) = mk l) = false from e]
   rw [if_pos (show (!false) = true from rfl)]
   trivial
end
end My
namespace My
open PySem L2 VL
def A4 (ds : List D) (R : D -> Prop) : Prop := ∃ l : List Nat, ds = [.str (mk l)] /\ l.length <= 100000 /\ isCel l = true /\ R (.tup [.int (celOf l).1, .int (celOf l).2])
def yl (cN : Addr) : List D -> Addr -> Prop := fun ds C => ∃ l : List Nat, ds = [.str (mk l)] /\ l.length <= 100000 /\ isCel l = false /\ C = cN
theorem wQ {l : List Nat} (h : isCel l = true) : ∃ a b, prt 44 (mk l) = [a, b] /\ isNum a = true /\ isNum b = true /\ celOf l = (numOf a, numOf b) := by
 unfold isCel at h
 split at h
 ·rename_i a b e
  rw [Bool.and_eq_true] at h
  refine ⟨a, b, e, h.1, h.2, ?_⟩
  unfold celOf
  rw [e]
 ·cases h
section
variable {P : Program} {w : World} {K : PySem.W.Frag} {mg : Str -> Option Value} {base : Heap}
theorem DE (S : Src K mg "read_cell" dN) (T : Txt mg) (e1_ : Has P w K mg base 1 "read_number" ["text"] (spP K pNum)) : Has P w K mg base 2 "read_cell" ["text"] (spP K A4) := by
 refine cZ S eh (by walk_at "1") (fun ds R zq1 => by obtain ⟨_, e, _⟩ := zq1; rw [e]; rfl) fun f cdv A outer s H E hr => ⟨_, _, (ai (aE (i := 1) eh.nd rfl (Or.inl rfl) (aL (dh rfl rfl (aa 0 (pv 0)) aB)))
  (ai (bA (aK gY lU (au (ft (K := K) rfl) fq (by rfl) T.len_ bH (ae (aa 1 (pv 1)) af)) ah (aH _)) (ay cY) aQ)
  (ay (aP (cg (ae (bD e1_ hr (ae (aO rfl (aa 1 (pv 1)) ah (fun _ _ => rfl)) af)) (ae (bD e1_ hr (ae (aO rfl (aa 1 (pv 1)) ah (fun _ _ => rfl)) af)) af))))))), ?_⟩
 rintro ds R ⟨l, rfl, hl, hc, q⟩
 obtain ⟨a, b, e, ha, hb, ec⟩ := wQ hc
 have hz := (eu 44 (z := mk l) (n := 100000) (by rw [aD]; exact hl)).2
 rw [e] at hz
 have la := hz a (by simp)
 have lb := hz b (by simp)
 walk_at "sl"
 walk_at "rd"
 refine fE (ws := [mk a, mk b]) (by rw [aD]; exact aW (by lia)) rfl (by rw [show Str.ofString "," = mk [44] from rfl, cJ, e]; rfl) (aW (show 2 <= 1000000 by decide)) ?_
 walk_at "rc"
 refine ⟨a, rfl, la, ha, ?_⟩
 walk_at "rc"
 refine ⟨b, rfl, lb, hb, ?_⟩
 walk_at "rc"
 rw [ec] at q
 exact q
theorem A5 {c_NoText : Addr} (S : Src K mg "read_cell" dN) (T : Txt mg) (e1_ : Has P w K mg base 1 "read_number" ["text"] (spP K pNum)) (EX_read_number : kM P w K mg base 1 "read_number" ["text"] (bdN c_NoText)) (g_NoText : mg "NoText" = some (.ref c_NoText)) (x_NoText : PySem.W.excIn K c_NoText [.type "ValueError", .type "Exception", .type "BaseException", .type "object"] "ValueError.__new__" = true) : kM P w K mg base 2 "read_cell" ["text"] (yl c_NoText) := by
 refine sI S eh (by walk_at "1") (fun ds C zq1 => by obtain ⟨_, e, _⟩ := zq1; rw [e]; rfl) fun f cdv A outer s H E hr TH => ⟨_, _, (d8 (aE (i := 1) eh.nd rfl (Or.inl rfl) (aL (dh rfl rfl (aa 0 (pv 0)) aB))) (jd (aK gY lU (au (ft (K := K) rfl) fq (by rfl) T.len_ bH (ae (aa 1 (pv 1)) af)) ah (aH _)) (df TH PySem.F.excBase_ValueError x_NoText g_NoText rfl)
  (AS (wt (pG (mO (jk TH.next EX_read_number rfl hr (ae (aO rfl (aa 1 (pv 1)) ah (fun _ _ => rfl)) af)) (ae (bD e1_ hr (ae (aO rfl (aa 1 (pv 1)) ah (fun _ _ => rfl)) af)) af))) (pG (tx (bD e1_ hr (ae (aO rfl (aa 1 (pv 1)) ah (fun _ _ => rfl)) af)) (mO (jk TH.next EX_read_number rfl hr (ae (aO rfl (aa 1 (pv 1)) ah (fun _ _ => rfl)) af)) af))))))), ?_⟩
 rintro ds C ⟨l, rfl, hl, hc, rfl⟩
 have hz := eu 44 (z := mk l) (n := 100000) (by rw [aD]; exact hl)
 walk_at "sl"
 walk_at "rd"
 refine fE (by rw [aD]; exact aW (by lia)) rfl (cJ 44 (mk l)) (by rw [List.length_map]; exact aW (by lia)) ?_
 walk_at "rc"
 rw [List.length_map, List.length_map]
 by_cases h2 : (prt 44 (mk l)).length = 2
 ·obtain ⟨a, b, e⟩ : ∃ a b, prt 44 (mk l) = [a, b] := by
   match prt 44 (mk l), h2 with
   | [a, b], _ => exact ⟨a, b, rfl⟩
  rw [e] at hz ⊢
  have la := hz.2 a (by simp)
  have lb := hz.2 b (by simp)
  have hc' : (isNum a && isNum b) = false := by
   unfold isCel at hc
   rw [e] at hc
   exact hc
  show if (!true) = true then _ else _
  rw [if_neg (by decide)]
  cases ha : isNum a with
  | false =>
   refine .inl ?_
   walk_at "rc"
   exact ⟨_, _, rfl, ⟨a, rfl, la, ha, rfl⟩, rfl⟩
  | true =>
   refine .inr ?_
   rw [ha, Bool.true_and] at hc'
   walk_at "rc"
   refine ⟨a, rfl, la, ha, ?_⟩
   walk_at "rc"
   exact ⟨_, _, rfl, ⟨b, rfl, lb, hc', rfl⟩, rfl⟩
 ·rw [decide_eq_false (show ¬(((prt 44 (mk l)).length : Int) = 2) by lia)]
  show if (!false) = true then _ else _
  rw [if_pos (show (!false) = true from rfl)]
  trivial
end
end My
namespace My
open PySem L2 VL
theorem Ed (n : Nat) : cutD ds (some (n : Int)) none = ds.drop n := by
 unfold cutD
 rw [HT.uB, HT.qP]
 by_cases h : n <= ds.length
 ·rw [Nat.min_eq_left h, List.take_of_length_le (by rw [List.length_drop]; lia)]
 ·rw [Nat.min_eq_right (by lia), List.drop_eq_nil_of_le (Nat.le_refl _), List.drop_eq_nil_of_le (by lia), List.take_nil]
theorem Ee (a b : List (List Int)) : zpD (a.map eT) (b.map eT) = (a.zip b).map fun p => .tup [eT p.1, eT p.2] := by
 unfold zpD
 rw [List.zip_map, List.map_map]
 rfl
def Pc (mss : List (List Int)) : Prop := (∀ ms ∈ mss, Pr ms) /\ mss.length <= 2000
def Asc (mss : List (List Int)) : Prop := mss.Pairwise fun p q => HT.lexLt p q = true
theorem pN : ∀ {mss : List (List Int)}, Asc mss -> (mss.zip (mss.drop 1)).all (fun p => HT.lexLt p.1 p.2) = true
 | [], _ => rfl
 | [_], _ => rfl
 | a :: b :: r, h => by
  have h1 := (List.pairwise_cons.mp h).1 b List.mem_cons_self
  have h2 := pN (List.pairwise_cons.mp h).2
  simp only [List.drop_succ_cons, List.drop_zero, List.zip_cons_cons, List.all_cons, h1, Bool.true_and] at h2 ⊢
  exact h2
def pWh : List D -> (D -> Prop) -> Prop := fun ds R => ∃ x : Int, ds = [.int x] /\ R (.bl true)
def pPair : List D -> (D -> Prop) -> Prop := fun ds R => ∃ x y : Int, ds = [eT [x, y]] /\ R (.bl true)
def ym : List D -> (D -> Prop) -> Prop := fun ds R => ∃ x y : Int, ds = [eT [x, y]] /\ R (.bl (inB [x, y]))
def n4 : List D -> (D -> Prop) -> Prop := fun ds R => ∃ mss, ds = [eL mss] /\ Pc mss /\ Asc mss /\ R (.bl (mss.all inB))
def A6 : List D -> (D -> Prop) -> Prop := fun ds R => ∃ mss, ds = [eL mss] /\ Pc mss /\ (mss = [] -> R .non) /\ (mss ≠ [] -> R (eT (bx mss)))
def sgn (c : Nat) : Bool := decide (c = 35 \/ c = 46)
def A7 : List D -> (D -> Prop) -> Prop := fun ds R => ∃ (W : Int) (l : List Nat), ds = [.int W, .str (mk l)] /\ l.length <= 100000 /\ R (.bl (decide ((l.length : Int) = W) && l.all sgn))
theorem DF (x y : Int) : inB [x, y] = (decide (x.natAbs < 10 ^ 60) && decide (y.natAbs < 10 ^ 60)) := rfl
theorem yo (k : Int) : decide ((if k < 0 then -k else k) < (10 : Int) ^ Int.toNat 60) = decide (k.natAbs < 10 ^ 60) := by
 have h : (if k < 0 then -k else k) = (k.natAbs : Int) := by split <;> lia
 rw [h, show (10 : Int) ^ Int.toNat 60 = ((10 ^ 60 : Nat) : Int) from by rw [show Int.toNat 60 = 60 from rfl]; exact (Int.natCast_pow 10 60).symm]
 exact decide_eq_decide.mpr Int.ofNat_lt
theorem A8 (c : Nat) : inS ⟨#[c]⟩ "#." = sgn c := by
 rw [n0]
 unfold sgn
 rw [show (Str.ofString "#.").cps.toList = [35, 46] by decide +kernel]
 exact decide_eq_decide.mpr (by simp)
section
variable {P : Program} {w : World} {K : PySem.W.Frag} {mg : Str -> Option Value} {base : Heap}
theorem DG (S : Src K mg "is_whole" jq) (T : Txt mg) : Has P w K mg base 1 "is_whole" ["thing"] (spP K pWh) := by
 refine cZ S qu (by walk_at "1") (fun ds R zq1 => by obtain ⟨_, e, _⟩ := zq1; rw [e]; rfl) fun f cdv A outer s H E hr => ⟨_, _, (ay (aP (cX (au (i6 (K := K) rfl) iR (by rfl) T.isinstance_ aZ (ae (aa 0 (pv 0)) (ae (cV (dm (v := .ty "int") (by rfl) T.int_ kr rfl) (fun _ _ => .ty _)) af))) (gI (rj (au (i6 (K := K) rfl) iR (by rfl) T.isinstance_ aZ (ae (aa 0 (pv 0)) (ae (cV (dm (v := .ty "bool") (by rfl) T.bool_ uH rfl) (fun _ _ => .ty _)) af)))))))), ?_⟩
 rintro ds R ⟨x, rfl, q⟩
 walk_at "sl"
 walk_at "rc"
 exact q
theorem wR (S : Src K mg "is_pair" lg) (T : Txt mg) (e10_ : Has P w K mg base 1 "is_whole" ["thing"] (spP K pWh)) : Has P w K mg base 2 "is_pair" ["thing"] (spP K pPair) := by
 refine cZ S tO (by walk_at "1") (fun ds R zq1 => by obtain ⟨_, _, e, _⟩ := zq1; rw [e]; rfl) fun f cdv A outer s H E hr => ⟨_, _, (ay (aP (cX (au (i6 (K := K) rfl) iR (by rfl) T.isinstance_ aZ (ae (aa 0 (pv 0)) (ae (cV (dm (v := .ty "tuple") (by rfl) T.tuple_ qT rfl) (fun _ _ => .ty _)) af))) (cX (dy dq fU (au (ft (K := K) rfl) fq (by rfl) T.len_ bH (ae (aa 0 (pv 0)) af)) ah (aH _)) (cX (bD e10_ hr (ae (aO rfl (aa 0 (pv 0)) ah (fun _ _ => rfl)) af)) (gI (bD e10_ hr (ae (aO rfl (aa 0 (pv 0)) ah (fun _ _ => rfl)) af)))))))), ?_⟩
 rintro ds R ⟨x, y, rfl, q⟩
 walk_at "sl"
 walk_at "rc"
 refine ⟨x, rfl, ?_⟩
 walk_at "rc"
 refine ⟨y, rfl, ?_⟩
 walk_at "rc"
 exact q
theorem wU (S : Src K mg "is_cell" lh) (T : Txt mg) (e12_ : Has P w K mg base 2 "is_pair" ["thing"] (spP K pPair)) : Has P w K mg base 3 "is_cell" ["thing"] (spP K ym) := by
 refine cZ S tP (by walk_at "1") (fun ds R zq1 => by obtain ⟨_, _, e, _⟩ := zq1; rw [e]; rfl) fun f cdv A outer s H E hr => ⟨_, _, (ay (aP (cX (bD e12_ hr (ae (aa 0 (pv 0)) af)) (cX (dy oo aJ (au fH oF (by rfl) T.abs_ ku (ae (aO rfl (aa 0 (pv 0)) ah (fun _ _ => rfl)) af)) (ak fv b8 ah ah) (aH _)) (gI (dy oo aJ (au fH oF (by rfl) T.abs_ ku (ae (aO rfl (aa 0 (pv 0)) ah (fun _ _ => rfl)) af)) (ak fv b8 ah ah) (aH _))))))), ?_⟩
 rintro ds R ⟨m, n, rfl, q⟩
 walk_at "sl"
 walk_at "rd"
 refine ⟨m, n, rfl, ?_⟩
 walk_at "rc"
 rw [DF] at q
 show mn _ _ (VR.d (D.bl (decide ((if m < 0 then -m else m) < 10 ^ Int.toNat 60)))) _
 rw [yo m]
 cases hm : decide (m.natAbs < 10 ^ 60) with
 | false =>
  rw [hm, Bool.false_and] at q
  refine xR rfl ?_
  refine rH rfl ?_
  exact q
 | true =>
  rw [hm, Bool.true_and] at q
  refine xQ rfl ?_
  walk_at "rd"
  show R (.bl (decide ((if n < 0 then -n else n) < 10 ^ Int.toNat 60)))
  rw [yo n]
  exact q
theorem t6 (S : Src K mg "is_picture" di) (T : Txt mg) (e16_ : Has P w K mg base 3 "is_cell" ["thing"] (spP K ym)) : Has P w K mg base 4 "is_picture" ["thing"] (spP K n4) := by
 refine cZ S mR (by walk_at "1") (fun ds R zq1 => by obtain ⟨_, e, _⟩ := zq1; rw [e]; rfl) fun f cdv A outer s H E hr => ⟨_, _, (ai (bA (dt (cH (bU (cf (au (i6 (K := K) rfl) iR (by rfl) T.isinstance_ aZ (ae (aa 0 (pv 0)) (ae (cV (dm (v := .ty "list") (by rfl) T.list_ oy rfl) (fun _ _ => .ty _)) af))))) (cW (bU (cf (au (i8 (K := K) rfl rfl) i9 (by rfl) T.all_ fC (ae (aL (bf (tg := ["cell"]) (cs := []) (ix := []) (aI (aj di) ["thing"] (by decide +kernel)) rfl (aN (by decide)) (by decide) (bI rfl (aa 0 (pv 0))) (fun _ _ _ _ => (az (aw (i := 0) (show (["cell"] : List Str).Nodup by decide +kernel) rfl (Or.inl rfl) (by first | exact Or.inl rfl | exact Or.inr rfl)))) (fun _ _ _ _ => ba) (fun _ _ _ _ => (bD e16_ hr (ae (aa 0 (pv 0)) af))))) af))))))) (ay (aP oD)) aQ)
  (ay (aP (au (i8 (K := K) rfl rfl) i9 (by rfl) T.all_ fC (ae (aL (bf (tg := ["one", "other"]) (cs := []) (ix := []) (aI (aj di) ["thing"] (by decide +kernel)) rfl (gG (by decide) (by decide)) (by decide) (AE rfl (by rfl) T.zip_ (ae (aa 0 (pv 0)) (ae (aL (CU rfl (aa 0 (pv 0)) (bR ah) bQ)) af))) (fun _ _ _ _ => (ck (n := 2) rfl rfl (aM (az (aw (i := 0) (show (["one", "other"] : List Str).Nodup by decide +kernel) rfl (Or.inl rfl) (by first | exact Or.inl rfl | exact Or.inr rfl))) (aM (az (aw (i := 1) (show (["one", "other"] : List Str).Nodup by decide +kernel) rfl (Or.inl rfl) (by first | exact Or.inl rfl | exact Or.inr rfl))) bP)))) (fun _ _ _ _ => ba) (fun _ _ _ _ => (dy (Cz (K := K) rfl hr.units) CA (aa 0 (pv 0)) (aa 1 (pv 1)) (aH _))))) af))))), ?_⟩
 rintro ds R ⟨mss, rfl, hp, ha, q⟩
 walk_at "sl"
 walk_at "rc"
 refine comp_map (xs := mss) (en := eT) (f := fun m => .bl (inB m)) (by have := hp.2; lia) (fun m hm A B hA => ?_) ?_
 ·obtain ⟨x, y, rfl⟩ := hp.1 m hm
  dsimp only [bp, List.replicate, List.map_cons, List.map_nil, List.cons_append, List.nil_append]
  walk_at "rd"
  refine ⟨x, y, rfl, ?_⟩
  walk_at "rd"
  exact hA _ rfl
 walk_at "rd"
 refine all_map mss inB ?_
 cases hc : mss.all inB with
 | false =>
  rw [hc] at q
  walk_at "rc"
  exact q
 | true =>
  rw [hc] at q
  walk_at "rc"
  refine vB rfl (eK _) (Ed 1) ?_
  rw [<- List.map_drop]
  walk_at "rd"
  rw [Ee]
  refine comp_map (xs := mss.zip (mss.drop 1)) (en := fun p => .tup [eT p.1, eT p.2]) (f := fun p => .bl (HT.lexLt p.1 p.2)) (by rw [List.length_zip]; have := hp.2; lia) (fun p hm A B hA => ?_) ?_
  ·dsimp only [bp, List.replicate, List.map_cons, List.map_nil, List.cons_append, List.nil_append]
   walk_at "rd"
   exact hA _ rfl
  walk_at "rd"
  refine all_map (mss.zip (mss.drop 1)) (fun p => HT.lexLt p.1 p.2) ?_
  rw [pN ha]
  walk_at "rd"
  exact q
theorem A9 (S : Src K mg "box_of" jr) (T : Txt mg) : Has P w K mg base 1 "box_of" ["picture"] (spP K A6) := by
 refine cZ S iA (by walk_at "1") (fun ds R zq1 => by obtain ⟨_, e, _⟩ := zq1; rw [e]; rfl) fun f cdv A outer s H E hr => ⟨_, _, (ai (bA (bU (Ae rfl (aa 0 (pv 0)))) (ay (aP cL)) aQ)
  (ai (mf (ii := 1) (tg := ["x", "y"]) (cs := []) (ix := []) iA.nd rfl (Or.inl rfl) (Or.inl rfl) (aI (aj jr) ["picture", "columns", "rows", "left", "top"] (by decide +kernel)) rfl (gG (by decide) (by decide)) (by decide) (bI rfl (aa 0 (pv 0))) (fun _ _ _ _ => (ck (n := 2) rfl rfl (aM (az (aw (i := 0) (show (["x", "y"] : List Str).Nodup by decide +kernel) rfl (Or.inl rfl) (by first | exact Or.inl rfl | exact Or.inr rfl))) (aM (az (aw (i := 1) (show (["x", "y"] : List Str).Nodup by decide +kernel) rfl (Or.inl rfl) (by first | exact Or.inl rfl | exact Or.inr rfl))) bP)))) (fun _ _ _ _ => ba) (fun _ _ _ _ => (bB (aa 0 (pv 0)))))
  (ai (mf (ii := 2) (tg := ["x", "y"]) (cs := []) (ix := []) iA.nd rfl (Or.inl rfl) (Or.inl rfl) (aI (aj jr) ["picture", "columns", "rows", "left", "top"] (by decide +kernel)) rfl (gG (by decide) (by decide)) (by decide) (bI rfl (aa 0 (pv 0))) (fun _ _ _ _ => (ck (n := 2) rfl rfl (aM (az (aw (i := 0) (show (["x", "y"] : List Str).Nodup by decide +kernel) rfl (Or.inl rfl) (by first | exact Or.inl rfl | exact Or.inr rfl))) (aM (az (aw (i := 1) (show (["x", "y"] : List Str).Nodup by decide +kernel) rfl (Or.inl rfl) (by first | exact Or.inl rfl | exact Or.inr rfl))) bP)))) (fun _ _ _ _ => ba) (fun _ _ _ _ => (bB (aa 1 (pv 1)))))
  (ai (vo (fun _ h => yL (i := 3) (j := 4) rfl iA.nd rfl rfl (by decide) rfl rfl h rfl) (ae (au (kH (K := K) rfl rfl) dA (by rfl) T.min_ kF (ae (aa 1 (pv 1)) af)) (ae (au (kH (K := K) rfl rfl) dA (by rfl) T.min_ kF (ae (aa 2 (pv 2)) af)) af)))
  (ay (aP (cg (ae (bB (aa 3 (pv 3))) (ae (bB (aa 4 (pv 4))) (ae (ak bj aJ (ak bZ aJ (au (gN (K := K) rfl rfl) dA (by rfl) T.max_ gL (ae (aa 1 (pv 1)) af)) (aa 3 (pv 3))) ah) (ae (ak bj aJ (ak bZ aJ (au (gN (K := K) rfl rfl) dA (by rfl) T.max_ gL (ae (aa 2 (pv 2)) af)) (aa 4 (pv 4))) ah) af))))))))))), ?_⟩
 rintro ds R ⟨mss, rfl, hp, q1, q2⟩
 walk_at "sl"
 walk_at "rd"
 by_cases h0 : mss = []
 ·subst h0
  refine sm (d := eL []) (b := false) rfl rfl ?_
  walk_at "rc"
  exact q1 rfl
 ·have e0 : tru (eL mss) = some true := by cases mss with | nil => exact absurd rfl h0 | cons a r => rfl
  have n1 : mss.map fs ≠ [] := by simpa using h0
  have n2 : mss.map sn ≠ [] := by simpa using h0
  refine sm (d := eL mss) (b := true) rfl e0 ?_
  walk_at "rc"
  refine comp_map (f := fun m => .int (fs m)) (by have := hp.2; lia) (fun m hm A B hA => ?_) ?_
  ·obtain ⟨x, y, rfl⟩ := hp.1 m hm
   dsimp only [bp, List.replicate, List.map_cons, List.map_nil, List.cons_append, List.nil_append]
   walk_at "rd"
   exact hA _ rfl
  walk_at "rd"
  refine comp_map (f := fun m => .int (sn m)) (by have := hp.2; lia) (fun m hm A B hA => ?_) ?_
  ·obtain ⟨x, y, rfl⟩ := hp.1 m hm
   dsimp only [bp, List.replicate, List.map_cons, List.map_nil, List.cons_append, List.nil_append]
   walk_at "rd"
   exact hA _ rfl
  walk_at "rd"
  rw [show mss.map (fun m => D.int (fs m)) = (mss.map fs).map D.int by rw [List.map_map]; rfl, show mss.map (fun m => D.int (sn m)) = (mss.map sn).map D.int by rw [List.map_map]; rfl]
  refine dB n1 fun M1 h1 h2 => ?_
  obtain rfl := gP h1 h2
  walk_at "rd"
  refine dB n2 fun M2 h3 h4 => ?_
  obtain rfl := gP h3 h4
  walk_at "rd"
  refine dB n1 fun M3 h5 h6 => ?_
  obtain rfl := ly h5 h6
  walk_at "rd"
  refine dB n2 fun M4 h7 h8 => ?_
  obtain rfl := ly h7 h8
  walk_at "rd"
  exact q2 h0
theorem Ba (S : Src K mg "is_row" li) (T : Txt mg) : Has P w K mg base 1 "is_row" ["wide", "text"] (spP K A7) := by
 refine cZ S wK (by walk_at "2") (fun ds R zq1 => by obtain ⟨_, _, e, _⟩ := zq1; rw [e]; rfl) fun f cdv A outer s H E hr => ⟨_, _, (ay (aP (cX (dy dq fU (au bq d9 (by rfl) T.len_ bH (ae (aa 1 (pv 1)) af)) (aa 0 (pv 0)) (aH _)) (gI (au (i8 (K := K) rfl rfl) i9 (by rfl) T.all_ fC (ae (aL (bf (tg := ["sign"]) (cs := []) (ix := []) (aI (aj li) ["wide", "text"] (by decide +kernel)) rfl (aN (by decide)) (by decide) (jh (aa 1 (pv 1))) (fun _ _ _ _ => (az (aw (i := 0) (show (["sign"] : List Str).Nodup by decide +kernel) rfl (Or.inl rfl) (by first | exact Or.inl rfl | exact Or.inr rfl)))) (fun _ _ _ _ => ba) (fun _ _ _ _ => (dy gE sS (aa 0 (pv 0)) aB (by with_unfolding_all rfl))))) af)))))), ?_⟩
 rintro ds R ⟨W, l, rfl, hl, q⟩
 walk_at "sl"
 walk_at "rd"
 refine eg (by rw [aD]; exact aW (by lia)) ?_
 rw [aD]
 walk_at "rd"
 cases hw : decide ((l.length : Int) = W) with
 | false =>
  rw [hw, Bool.false_and] at q
  walk_at "rc"
  exact q
 | true =>
  rw [hw, Bool.true_and] at q
  walk_at "rc"
  rw [jz]
  refine comp_map (xs := l) (f := fun c => D.bl (sgn c)) (by lia) (fun c hc A B hA => ?_) ?_
  ·dsimp only [bp, List.replicate, List.map_cons, List.map_nil, List.cons_append, List.nil_append]
   walk_at "rd"
   refine sY (A8 c) ?_
   walk_at "rd"
   exact hA _ rfl
  walk_at "rd"
  refine all_map _ sgn ?_
  walk_at "rd"
  exact q
end
end My
namespace My
open PySem L2 VL
def DH : D -> Prop
 | .int _ => True
 | .bl _ => True
 | .non => True
 | .lst _ => True
 | .tup _ => True
 | .dic _ _ => True
 | _ => False
def wS (ws : List (List Nat)) : List D := ws.map fun w => .str (mk w)
theorem lF (ws : List (List Nat)) : (wS ws).length = ws.length := by unfold wS; rw [List.length_map]
theorem t7 {ws : List (List Nat)} {i : Nat} {w : List Nat} (e : ws[i]? = some w) : atI (wS ws) (i : Int) = some (.str (mk w)) := ip (by unfold wS; rw [List.getElem?_map, e]; rfl)
theorem lH (ws : List (List Nat)) : (ws.map mk).map D.str = wS ws := by unfold wS; rw [List.map_map]; rfl
theorem fc {c : Nat} {b r : List Nat} (h : c ∉ b) : L2.part3 (mk (b ++ c :: r)) (mk [c]) = [mk b, mk [c], mk r] := by
 have hx : (mk (b ++ c :: r)).cps.toList = b ++ c :: r := ao _
 have hp : Txt.partition (mk (b ++ c :: r)) (mk [c]) = (mk b, mk [c], mk r) := by
  unfold Txt.partition
  have at_b : (mk (b ++ c :: r)).cps.toList[b.length]? = some c := by rw [hx]; simp
  rcases StrLaws.occ_head (mk (b ++ c :: r)) (mk [c]) 1 (Nat.le_refl 1) with ⟨_, hn⟩ | ⟨i, r', h0, hi, hn⟩
  ·exact absurd ((StrLaws.subAt_one _ c b.length).mpr at_b) (hn b.length)
  ·rw [h0]
   have hm := (StrLaws.subAt_one _ c i).mp hi
   have e : i = b.length := by
    rcases Nat.lt_trichotomy i b.length with lt | e | gt
    ·rw [hx, List.getElem?_append_left lt] at hm
     exact absurd (List.mem_of_getElem? hm) h
    ·exact e
    ·exact absurd ((StrLaws.subAt_one _ c b.length).mpr at_b) (hn b.length gt)
   subst e
   show (Builtin.Str.strSub _ 0 b.length, mk [c], Builtin.Str.strSub _ (b.length + 1) _) = _
   have e1 : Builtin.Str.strSub (mk (b ++ c :: r)) 0 b.length = mk b := cB (by
    rw [StrLaws.strSub_toList, hx, ao]; simp)
   have e2 : Builtin.Str.strSub (mk (b ++ c :: r)) (b.length + 1) (mk (b ++ c :: r)).length = mk r := cB (by
    rw [StrLaws.strSub_toList, hx, ao, aD]; simp; exact List.take_of_length_le (by lia))
   rw [e1, e2]
 unfold L2.part3
 rw [hp]
theorem gW {c : Nat} {l : List Nat} (h : c ∉ l) : L2.part3 (mk l) (mk [c]) = [mk l, mk [], mk []] := by
 unfold L2.part3 Txt.partition
 rcases StrLaws.occ_head (mk l) (mk [c]) 1 (Nat.le_refl 1) with ⟨h0, _⟩ | ⟨i, r, h0, hi, hn⟩
 ·rw [h0]; rfl
 ·have := List.mem_of_getElem? ((StrLaws.subAt_one _ c i).mp hi)
  rw [ao] at this
  exact absurd this h
theorem eR {l : List Nat} (h : isNum l = true) : 44 ∉ l := by
 intro hc
 unfold isNum at h
 rw [Bool.and_eq_true] at h
 obtain ⟨_, _, h3, _⟩ := cD h.1
 rcases ei l with ⟨r, rfl, e, _⟩ | ⟨e, _, _⟩
 ·rw [e] at h3
  rcases List.mem_cons.mp hc with z | z
  ·cases z
  ·have := h3 44 z; lia
 ·rw [e] at h3
  have := h3 44 hc; lia
theorem comma (l : List Nat) : (L2.part3 (mk l) (mk [44]) = [mk l, mk [], mk []] /\ isCel l = false) \/ ∃ a r, l = a ++ 44 :: r /\ 44 ∉ a /\ L2.part3 (mk l) (mk [44]) = [mk a, mk [44], mk r] /\ isCel l = (isNum a && isNum r) := by
 have hj := dQ 44 (mk l)
 have hf := ju 44 (mk l)
 have hne := jv 44 (mk l)
 rw [ao] at hj
 match e : prt 44 (mk l), hne with
 | [w], _ =>
  rw [e] at hj hf
  obtain rfl : w = l := hj
  exact .inl ⟨gW (hf w (by simp)), by unfold isCel; rw [e]⟩
 | [a, r], _ =>
  rw [e] at hj hf
  have hj : a ++ 44 :: r = l := hj
  subst hj
  exact .inr ⟨a, r, rfl, hf a (by simp), fc (hf a (by simp)), by unfold isCel; rw [e]⟩
 | a :: b :: c :: ws, _ =>
  rw [e] at hj hf
  have hj : a ++ 44 :: (jl 44 (b :: c :: ws)) = l := hj
  subst hj
  refine .inr ⟨a, _, rfl, hf a (by simp), fc (hf a (by simp)), ?_⟩
  have h1 : isCel (a ++ 44 :: (jl 44 (b :: c :: ws))) = false := by unfold isCel; rw [e]
  have h2 : isNum (jl 44 (b :: c :: ws)) = false := by
   cases hn : isNum (jl 44 (b :: c :: ws)) with
   | false => rfl
   | true => exact absurd (show 44 ∈ b ++ 44 :: jl 44 (c :: ws) by simp) (eR hn)
  rw [h1, h2, Bool.and_false]
theorem t8 {l : List Nat} {cs : List (List Int)} (h : rdP l = some cs) : (l = [45] /\ cs = []) \/ (l ≠ [45] /\ ∃ w0 w1, prt 32 (mk l) = [w0, w1] /\ isCel w0 = true /\ okR (prt 47 (mk w1)) (celOf w0).1 (celOf w0).2 = true /\ cs = cm ((prt 47 (mk w1)).headD []).length (prt 47 (mk w1)).length (prt 47 (mk w1)) (celOf w0).1 (celOf w0).2) := by
 unfold rdP at h
 by_cases h0 : l = [45]
 ·rw [if_pos h0] at h
  exact .inl ⟨h0, (Option.some.inj h).symm⟩
 ·rw [if_neg h0] at h
  refine .inr ⟨h0, ?_⟩
  split at h
  ·rename_i w0 w1 e
   by_cases h1 : isCel w0 = true
   ·rw [if_pos h1] at h
    by_cases h2 : okR (prt 47 (mk w1)) (celOf w0).1 (celOf w0).2 = true
    ·rw [if_pos h2] at h
     exact ⟨w0, w1, e, h1, h2, (Option.some.inj h).symm⟩
    ·rw [if_neg h2] at h; cases h
   ·rw [if_neg h1] at h; cases h
  ·cases h
theorem t9 {l : List Nat} (h : rdP l = none) : l ≠ [45] /\ ((prt 32 (mk l)).length ≠ 2 \/ ∃ w0 w1, prt 32 (mk l) = [w0, w1] /\ (isCel w0 = false \/ (isCel w0 = true /\ okR (prt 47 (mk w1)) (celOf w0).1 (celOf w0).2 = false))) := by
 unfold rdP at h
 by_cases h0 : l = [45]
 ·rw [if_pos h0] at h; cases h
 ·rw [if_neg h0] at h
  refine ⟨h0, ?_⟩
  split at h
  ·rename_i w0 w1 e
   refine .inr ⟨w0, w1, e, ?_⟩
   by_cases h1 : isCel w0 = true
   ·rw [if_pos h1] at h
    by_cases h2 : okR (prt 47 (mk w1)) (celOf w0).1 (celOf w0).2 = true
    ·rw [if_pos h2] at h; cases h
    ·exact .inr ⟨h1, Bool.eq_false_iff.mpr h2⟩
   ·exact .inl (Bool.eq_false_iff.mpr h1)
  ·rename_i hn
   refine .inl fun z => ?_
   match e : prt 32 (mk l), z with
   | [a, b], _ => exact hn a b e
theorem yp {W H : Nat} {rows : List (List Nat)} {a b : Int} : ∀ c ∈ cm W H rows a b, Pr c := fun c hc => by
 obtain ⟨x, y, _, _, _, rfl⟩ := nZ.mp hc
 exact ⟨_, _, rfl⟩
theorem DI {x y x' y' : Int} (h : x < x' \/ (x = x' /\ y < y')) : HT.lexLt [x, y] [x', y'] = true := by
 simp only [HT.b9]
 rcases h with h | ⟨rfl, h⟩
 ·rw [if_neg (by lia)]; exact decide_eq_true h
 ·rw [if_pos rfl, if_neg (by lia)]; exact decide_eq_true h
theorem n5 (W H : Nat) (rows : List (List Nat)) (a b : Int) : Asc (cm W H rows a b) := by
 unfold Asc cm
 rw [List.pairwise_flatMap]
 refine ⟨fun x _ => ?_, ?_⟩
 ·rw [List.pairwise_map]
  refine List.Pairwise.imp (fun {y y'} h => DI (.inr ⟨rfl, by have h : y < y' := h; lia⟩)) (List.Pairwise.filter _ List.pairwise_lt_range)
 ·refine List.Pairwise.imp (fun {x x'} h c hc d hd => ?_) List.pairwise_lt_range
  obtain ⟨y, _, rfl⟩ := List.mem_map.mp hc
  obtain ⟨y', _, rfl⟩ := List.mem_map.mp hd
  have h : x < x' := h
  exact DI (.inl (by lia))
theorem ua (W H : Nat) (rows : List (List Nat)) (a b : Int) : (cm W H rows a b).length <= W * H := by
 unfold cm
 rw [List.length_flatMap]
 have h : ∀ l : List Nat, (l.map fun x => (((List.range H).filter fun y => lit rows x y).map fun (y : Nat) => [a + (x : Int), b + (y : Int)]).length).sum <= l.length * H := fun l => by
  induction l with
  | nil => simp
  | cons x l ih =>
   have := List.length_filter_le (fun y => lit rows x y) (List.range H)
   rw [List.length_range] at this
   simp only [List.map_cons, List.sum_cons, List.length_map, List.length_cons, Nat.succ_mul] at ih ⊢
   lia
 have := h (List.range W)
 rwa [List.length_range] at this
def eOL : Option (List Int) -> D
 | none => .non
 | some l => eT l
theorem Bb : Enc 1 eOL where
 ty := fun x => by cases x with | none => rfl | some l => exact d7.ty l
 lay := fun x => by cases x with | none => rfl | some l => exact d7.lay l
 dep := fun x => by cases x with | none => decide | some l => exact d7.dep l
 eq := fun x y => by
  cases x with
  | none => cases y <;> simp [eOL, pd, pds, eT, PyData.eqv]
  | some l =>
   cases y with
   | none => simp [eOL, pd, pds, eT, PyData.eqv]
   | some m => show PyData.eqv (pd (eT l)) (pd (eT m)) = true ↔ _; rw [d7.eq l m]; simp
theorem mU (rows : List (List Nat)) : (rows.all fun r => (decide ((r.length : Int) = ((rows.headD []).length : Int)) && r.all sgn)) = rect rows := by
 unfold rect
 congr 1
 funext r
 congr 1
 exact decide_eq_decide.mpr (by lia)
def pRp (ds : List D) (R : D -> Prop) : Prop := ∃ (l : List Nat) (cs : List (List Int)), ds = [.str (mk l)] /\ l.length <= 10000 /\ rdP l = some cs /\ R (eL cs)
def bdP (cN : Addr) : List D -> Addr -> Prop := fun ds C => (∃ l : List Nat, ds = [.str (mk l)] /\ l.length <= 10000 /\ rdP l = none /\ C = cN) \/ ∃ d, ds = [d] /\ DH d /\ C = cN
section
variable {P : Program} {w : World} {K : PySem.W.Frag} {mg : Str -> Option Value} {base : Heap}
theorem jA {rows : List (List Nat)} {a b : Int} {s0 s1 s7 : Sl} {QN : List D -> List Sl -> Prop} (g3 : rect rows = true) (g1 : (rows.headD []).length <= 40) (g2 : rows.length <= 40)
  (h : QN ((cm (rows.headD []).length rows.length rows a b).map eT) [s0, s1, .val (.int a), .val (.int b), .val (.lst (wS rows)), .val (.int ((rows.headD []).length : Int)), .val (.int (rows.length : Int)), s7]) :
  nQ 2 [2, 3, 6, 4] (vgN 0) rE (zw (lW (jH 4) uP)) (vgN 1) (iQ (v2 wEq (AG (vIx (jH 5) (jH 1)) (jH 0)) (vC (D.str "#")))) (zh (lW (v2 (wI0 fun i j => L2.V.int (i + j)) (jH 2) (jH 0)) (lW (v2 (wI0 fun i j => L2.V.int (i + j)) (jH 3) (jH 1)) uP))) QN (rg 0 ((rows.headD []).length : Int).toNat)
   [s0, s1, .val (.int a), .val (.int b), .val (.lst (wS rows)), .val (.int ((rows.headD []).length : Int)), .val (.int (rows.length : Int)), s7] := by
 refine qp (xs := List.range ((rows.headD []).length : Int).toNat) (en := fun (i : Nat) => .int (0 + (i : Int))) (r := fun (x : Nat) => ((List.range (rows.length : Int).toNat).filter fun y => lit rows x y).map fun (y : Nat) => eT [a + (0 + (x : Int)), b + (0 + (y : Int))]) (by rw [List.length_range, Int.toNat_natCast]; lia) (fun x hx ys A B hA => ?_) ?_
 ·dsimp only [bp, List.replicate, List.map_cons, List.map_nil, List.cons_append, List.nil_append]
  have hx' : x < (rows.headD []).length := by have := List.mem_range.mp hx; lia
  walk_at "rd"
  refine qt (xs := List.range (rows.length : Int).toNat) (en := fun (i : Nat) => .int (0 + (i : Int))) (f := fun (y : Nat) => eT [a + (0 + (x : Int)), b + (0 + (y : Int))]) (p := fun y => lit rows x y) (by rw [List.length_range, Int.toNat_natCast]; lia) (fun y hy A B hA hB => ?_) ?_
  ·have hy' : y < rows.length := by have := List.mem_range.mp hy; lia
   obtain ⟨rl, _⟩ := eQ.mp g3 rows[y] (List.getElem_mem hy')
   walk_at "rd"
   refine fY rfl rfl (by rw [Int.zero_add]; exact t7 (i := y) (List.getElem?_eq_getElem hy')) ?_
   walk_at "rd"
   have hxl : x < rows[y].length := by lia
   refine kZ (c := rows[y][x]) (by rw [aD]; exact aW (by lia)) (by rw [ao, Int.zero_add]; exact ip (List.getElem?_eq_getElem hxl)) ?_
   walk_at "rd"
   have el : decide ((⟨#[rows[y][x]]⟩ : Str) = Str.ofString "#") = lit rows x y := by
    unfold lit
    rw [List.getD_eq_getElem?_getD, List.getElem?_eq_getElem hy']
    show _ = decide (rows[y][x]? = some 35)
    rw [List.getElem?_eq_getElem hxl]
    exact decide_eq_decide.mpr ⟨fun z => by have := congrArg (fun s : Str => s.cps.toList) (z.trans (show Str.ofString "#" = ⟨#[35]⟩ from rfl)); simpa using this, fun z => by rw [Option.some.inj z]; rfl⟩
   rw [el]
   cases hl : lit rows x y with
   | true =>
    refine i7 (fun _ => ?_) (fun e => nomatch e)
    walk_at "rd"
    exact hA _ rfl hl
   | false =>
    refine i7 (fun e => nomatch e) (fun _ => ?_)
    exact hB _ rfl hl
  ·walk_at "rd"
   exact hA _ rfl
 ·rw [Int.toNat_natCast, Int.toNat_natCast]
  have e : (cm (rows.headD []).length rows.length rows a b).map eT = (List.range (rows.headD []).length).flatMap fun (x : Nat) => ((List.range rows.length).filter fun y => lit rows x y).map fun (y : Nat) => eT [a + (0 + (x : Int)), b + (0 + (y : Int))] := by
   unfold cm
   rw [List.map_flatMap]
   congr 1
   funext x
   rw [List.map_map]
   refine List.map_congr_left fun y _ => ?_
   rw [Int.zero_add, Int.zero_add]
   rfl
  rw [<- e]
  exact h
theorem DJ {t1 : Tok} (S : Src K mg "read_picture" br) (T : Txt mg) (e6_ : Has P w K mg base 2 "read_cell" ["text"] (spP K A4)) (e3_ : Has P w K mg base 1 "is_row" ["wide", "text"] (spP K A7)) (e4_ : Has P w K mg base 4 "is_picture" ["thing"] (spP K n4)) (e7_ : Has P w K mg base 1 "box_of" ["picture"] (spP K A6)) (g_MOST_SIDE : mg "MOST_SIDE" = some (.int 40 t1)) : Has P w K mg base 5 "read_picture" ["text"] (spP K pRp) := by
 refine cZ S aF (by walk_at "1") (fun ds R zq1 => by obtain ⟨_, _, e, _⟩ := zq1; rw [e]; rfl) fun f cdv A outer s H E hr => ⟨_, _, (ai (bA (bU (cf (au (i6 (K := K) rfl) iR (by rfl) T.isinstance_ aZ (ae (aa 0 (pv 0)) (ae (cV (dm (v := .ty "str") (by rfl) T.str_ gM rfl) (fun _ _ => .ty _)) af))))) (ay cY) aQ)
  (ai (bA (aK dq fU (aa 0 (pv 0)) aB (aH _)) (ay (aP (aL (aY af)))) aQ)
  (ai (aE (i := 1) aF.nd rfl (Or.inl rfl) (aL (dh rfl rfl (aa 0 (pv 0)) aB)))
  (ai (bA (aK gY lU (au (ft (K := K) rfl) fq (by rfl) T.len_ bH (ae (aa 1 (pv 1)) af)) ah (aH _)) (ay cY) aQ)
  (ai (fA (bD e6_ hr (ae (aO rfl (aa 1 (pv 1)) ah (fun _ _ => rfl)) af)) (ck (n := 2) rfl rfl (aM (az (aw (i := 2) aF.nd rfl (Or.inr rfl) (Or.inl rfl))) (aM (az (aw (i := 3) aF.nd rfl (Or.inr rfl) (Or.inl rfl))) bP))))
  (ai (aE (i := 4) aF.nd rfl (Or.inr rfl) (aL (dh rfl rfl (aO rfl (aa 1 (pv 1)) ah (fun _ _ => rfl)) aB)))
  (ai (fA (cg (ae (au bq d9 (by rfl) T.len_ bH (ae (aO rfl (aa 4 (pv 4)) ah (fun _ _ => rfl)) af)) (ae (au (ft (K := K) rfl) fq (by rfl) T.len_ bH (ae (aa 4 (pv 4)) af)) af))) (ck (n := 2) rfl rfl (aM (az (aw (i := 5) aF.nd rfl (Or.inr rfl) (Or.inl rfl))) (aM (az (aw (i := 6) aF.nd rfl (Or.inr rfl) (Or.inl rfl))) bP))))
  (ai (bA (dt (cH (aK fh aJ (aa 5 (pv 5)) (cV (cy (v := .int 40) (by rfl) g_MOST_SIDE ⟨_, rfl⟩) (fun _ _ => .int _)) (aH _)) (cH (aK fh aJ (aa 6 (pv 6)) (cV (cy (v := .int 40) (by rfl) g_MOST_SIDE ⟨_, rfl⟩) (fun _ _ => .int _)) (aH _)) (cW (bU (cf (au (i8 (K := K) rfl rfl) i9 (by rfl) T.all_ fC (ae (aL (bf (tg := ["row"]) (cs := ["wide"]) (ix := [5]) (aI (aj br) ["text", "words", "left", "top", "rows", "wide", "high", "cells"] (by decide +kernel)) rfl (aN (by decide)) (by decide) (bI rfl (aa 4 (pv 4))) (fun _ _ _ _ => (az (aw (i := 0) (show (["row", "wide"] : List Str).Nodup by decide +kernel) rfl (Or.inl rfl) (by first | exact Or.inl rfl | exact Or.inr rfl)))) (fun _ _ _ _ => ba) (fun _ _ _ _ => (bD e3_ hr (ae (aa 1 (pv 1)) (ae (aa 0 (pv 0)) af)))))) af)))))))) (ay cY) aQ)
  (ai (j5 (ii := 7) (tg := ["x", "y"]) (cs := ["left", "top", "high", "rows"]) (ix := [2, 3, 6, 4]) aF.nd rfl (Or.inl rfl) (Or.inl rfl) (aI (aj br) ["text", "words", "left", "top", "rows", "wide", "high", "cells"] (by decide +kernel)) rfl (f7 (by decide) (by decide) (by decide)) (by decide) (bY rfl T.range (ae (aa 5 (pv 5)) af)) (fun _ _ _ _ => (az (aw (i := 0) (show (["x", "y", "left", "top", "high", "rows"] : List Str).Nodup by decide +kernel) rfl (Or.inl rfl) (by first | exact Or.inl rfl | exact Or.inr rfl)))) (fun _ _ _ _ => ba) (fun _ _ _ _ => (bY rfl T.range (ae (aa 4 (pv 4)) af))) (fun _ _ _ _ => (az (aw (i := 1) (show (["x", "y", "left", "top", "high", "rows"] : List Str).Nodup by decide +kernel) rfl (Or.inl rfl) (by first | exact Or.inl rfl | exact Or.inr rfl)))) (fun _ _ _ _ => (iw (aK dq fU (kO rfl (aO rfl (aa 5 (pv 5)) (aa 1 (pv 1)) (fun _ _ => rfl)) (aa 0 (pv 0)) (fun _ _ => rfl)) aB (aH _)))) (fun _ _ _ _ => (cg (ae (ak bj aJ (aa 2 (pv 2)) (aa 0 (pv 0))) (ae (ak bj aJ (aa 3 (pv 3)) (aa 1 (pv 1))) af)))))
  (ai (bA (dt (cH (bU (cf (bD e4_ hr (ae (aa 7 (pv 7)) af)))) (cW (aK (rG (K := K) rfl hr.units) oJ (bD e7_ hr (ae (aa 7 (pv 7)) af)) (cg (ae (aa 2 (pv 2)) (ae (aa 3 (pv 3)) (ae (aa 5 (pv 5)) (ae (aa 6 (pv 6)) af))))) (aH _))))) (ay cY) aQ)
  (ay (aP (bB (aa 7 (pv 7))))))))))))))), ?_⟩
 rintro ds R ⟨l, cs, rfl, hl, hr', q⟩
 walk_at "sl"
 walk_at "rc"
 rcases t8 hr' with ⟨rfl, rfl⟩ | ⟨h0, w0, w1, e, h1, h2, rfl⟩
 ·rw [show decide (mk [45] = Str.ofString "-") = true from decide_eq_true rfl]
  walk_at "rc"
  exact q
 ·rw [show decide (mk l = Str.ofString "-") = false from decide_eq_false fun z => h0 (mk_inj.mp (z.trans (show Str.ofString "-" = mk [45] from rfl)))]
  have hz := eu 32 (z := mk l) (n := 10000) (by rw [aD]; exact hl)
  rw [e] at hz
  have l0 := hz.2 w0 (by simp)
  have l1 := hz.2 w1 (by simp)
  have hy := eu 47 (z := mk w1) (n := 10000) (by rw [aD]; exact l1)
  have ne := jv 47 (mk w1)
  have es := cJ 47 (mk w1)
  walk_at "rc"
  refine fE (ws := [mk w0, mk w1]) (by rw [aD]; exact aW (by lia)) rfl (by rw [show Str.ofString " " = mk [32] from rfl, cJ, e]; rfl) (aW (show 2 <= 1000000 by decide)) ?_
  walk_at "rc"
  refine ⟨w0, rfl, by lia, h1, ?_⟩
  walk_at "rc"
  generalize prt 47 (mk w1) = rows at *
  refine fE (ws := rows.map mk) (by rw [aD]; exact aW (by lia)) rfl es (by rw [List.length_map]; exact aW (by lia)) ?_
  rw [lH]
  obtain ⟨r0, rr, er⟩ : ∃ r0 rr, rows = r0 :: rr := by
   match rows, ne with
   | a :: b, _ => exact ⟨a, b, rfl⟩
  have hd : (rows.headD []).length = r0.length := by rw [er]; rfl
  have lr0 := hy.2 r0 (by rw [er]; exact List.mem_cons_self)
  walk_at "rc"
  refine fY rfl rfl (t7 (i := 0) (by rw [er]; rfl)) ?_
  walk_at "rc"
  refine eg (by rw [aD]; exact aW (by lia)) ?_
  rw [aD]
  walk_at "rc"
  rw [lF, <- hd]
  generalize (celOf w0).1 = a at *
  generalize (celOf w0).2 = b at *
  unfold okR at h2
  simp only [Bool.and_eq_true, decide_eq_true_eq, Bool.not_eq_true', List.all_eq_true] at h2
  obtain ⟨⟨⟨⟨⟨g1, g2⟩, g3⟩, g4⟩, g5⟩, g6⟩ := h2
  rw [show decide ((40 : Int) < ((rows.headD []).length : Int)) = false from decide_eq_false (by lia)]
  walk_at "rc"
  rw [show decide ((40 : Int) < (rows.length : Int)) = false from decide_eq_false (by lia)]
  walk_at "rc"
  refine comp_map (xs := rows) (en := fun w => .str (mk w)) (f := fun r => D.bl (decide ((r.length : Int) = ((rows.headD []).length : Int)) && r.all sgn)) (by lia) (fun r hr A B hA => ?_) ?_
  ·dsimp only [bp, List.replicate, List.map_cons, List.map_nil, List.cons_append, List.nil_append]
   walk_at "rd"
   refine ⟨_, r, rfl, by have := hy.2 r hr; lia, ?_⟩
   walk_at "rd"
   exact hA _ rfl
  walk_at "rd"
  refine all_map rows _ ?_
  rw [mU, g3]
  walk_at "rc"
  refine jA g3 g1 g2 ?_
  have hpc : Pc (cm (rows.headD []).length rows.length rows a b) := ⟨yp, Nat.le_trans (ua _ _ _ _ _) (Nat.le_trans (Nat.mul_le_mul g1 g2) (by decide))⟩
  walk_at "rc"
  refine ⟨_, rfl, hpc, n5 _ _ _ _ _, ?_⟩
  rw [List.all_eq_true.mpr g5]
  walk_at "rc"
  refine ⟨_, rfl, hpc, fun z => ?_, fun _ => ?_⟩
  ·rw [z] at g4; cases g4
  walk_at "rd"
  change iX true (eT (bx _)) (eT [a, b, ((rows.headD []).length : Int), (rows.length : Int)]) _
  refine CN d7 g6 ?_
  walk_at "rc"
  exact q
theorem Bc {c_NoText : Addr} {t1 : Tok} (S : Src K mg "read_picture" br) (T : Txt mg) (e6_ : Has P w K mg base 2 "read_cell" ["text"] (spP K A4)) (EX_read_cell : kM P w K mg base 2 "read_cell" ["text"] (yl c_NoText)) (e3_ : Has P w K mg base 1 "is_row" ["wide", "text"] (spP K A7)) (e4_ : Has P w K mg base 4 "is_picture" ["thing"] (spP K n4)) (e7_ : Has P w K mg base 1 "box_of" ["picture"] (spP K A6)) (g_MOST_SIDE : mg "MOST_SIDE" = some (.int 40 t1)) (g_NoText : mg "NoText" = some (.ref c_NoText)) (x_NoText : PySem.W.excIn K c_NoText [.type "ValueError", .type "Exception", .type "BaseException", .type "object"] "ValueError.__new__" = true) : kM P w K mg base 5 "read_picture" ["text"] (bdP c_NoText) := by
 refine sI S aF (by walk_at "1") (fun ds C h => by rcases h with ⟨_, e, _⟩ | ⟨_, e, _⟩ <;> (rw [e]; rfl)) fun f cdv A outer s H E hr TH => ⟨_, _, (jd (bU (cf (au (i6 (K := K) rfl) iR (by rfl) T.isinstance_ aZ (ae (aa 0 (pv 0)) (ae (cV (dm (v := .ty "str") (by rfl) T.str_ gM rfl) (fun _ _ => .ty _)) af))))) (df TH PySem.F.excBase_ValueError x_NoText g_NoText rfl)
  (d8 (bA (aK dq fU (aa 0 (pv 0)) aB (aH _)) (ay (aP (aL (aY af)))) aQ) (d8 (aE (i := 1) aF.nd rfl (Or.inl rfl) (aL (dh rfl rfl (aa 0 (pv 0)) aB))) (jd (aK gY lU (au (ft (K := K) rfl) fq (by rfl) T.len_ bH (ae (aa 1 (pv 1)) af)) ah (aH _)) (df TH PySem.F.excBase_ValueError x_NoText g_NoText rfl)
  (AB (wz (jk TH.next EX_read_cell rfl hr (ae (aO rfl (aa 1 (pv 1)) ah (fun _ _ => rfl)) af)) (ck (n := 2) rfl rfl (aM (az (aw (i := 2) aF.nd rfl (Or.inr rfl) (Or.inl rfl))) (aM (az (aw (i := 3) aF.nd rfl (Or.inr rfl) (Or.inl rfl))) bP)))) (d8 (fA (bD e6_ hr (ae (aO rfl (aa 1 (pv 1)) ah (fun _ _ => rfl)) af)) (ck (n := 2) rfl rfl (aM (az (aw (i := 2) aF.nd rfl (Or.inr rfl) (Or.inl rfl))) (aM (az (aw (i := 3) aF.nd rfl (Or.inr rfl) (Or.inl rfl))) bP)))) (d8 (aE (i := 4) aF.nd rfl (Or.inr rfl) (aL (dh rfl rfl (aO rfl (aa 1 (pv 1)) ah (fun _ _ => rfl)) aB))) (d8 (fA (cg (ae (au bq d9 (by rfl) T.len_ bH (ae (aO rfl (aa 4 (pv 4)) ah (fun _ _ => rfl)) af)) (ae (au (ft (K := K) rfl) fq (by rfl) T.len_ bH (ae (aa 4 (pv 4)) af)) af))) (ck (n := 2) rfl rfl (aM (az (aw (i := 5) aF.nd rfl (Or.inr rfl) (Or.inl rfl))) (aM (az (aw (i := 6) aF.nd rfl (Or.inr rfl) (Or.inl rfl))) bP)))) (jd (dt (cH (aK fh aJ (aa 5 (pv 5)) (cV (cy (v := .int 40) (by rfl) g_MOST_SIDE ⟨_, rfl⟩) (fun _ _ => .int _)) (aH _)) (cH (aK fh aJ (aa 6 (pv 6)) (cV (cy (v := .int 40) (by rfl) g_MOST_SIDE ⟨_, rfl⟩) (fun _ _ => .int _)) (aH _)) (cW (bU (cf (au (i8 (K := K) rfl rfl) i9 (by rfl) T.all_ fC (ae (aL (bf (tg := ["row"]) (cs := ["wide"]) (ix := [5]) (aI (aj br) ["text", "words", "left", "top", "rows", "wide", "high", "cells"] (by decide +kernel)) rfl (aN (by decide)) (by decide) (bI rfl (aa 4 (pv 4))) (fun _ _ _ _ => (az (aw (i := 0) (show (["row", "wide"] : List Str).Nodup by decide +kernel) rfl (Or.inl rfl) (by first | exact Or.inl rfl | exact Or.inr rfl)))) (fun _ _ _ _ => ba) (fun _ _ _ _ => (bD e3_ hr (ae (aa 1 (pv 1)) (ae (aa 0 (pv 0)) af)))))) af)))))))) (df TH PySem.F.excBase_ValueError x_NoText g_NoText rfl)
  (d8 (j5 (ii := 7) (tg := ["x", "y"]) (cs := ["left", "top", "high", "rows"]) (ix := [2, 3, 6, 4]) aF.nd rfl (Or.inl rfl) (Or.inl rfl) (aI (aj br) ["text", "words", "left", "top", "rows", "wide", "high", "cells"] (by decide +kernel)) rfl (f7 (by decide) (by decide) (by decide)) (by decide) (bY rfl T.range (ae (aa 5 (pv 5)) af)) (fun _ _ _ _ => (az (aw (i := 0) (show (["x", "y", "left", "top", "high", "rows"] : List Str).Nodup by decide +kernel) rfl (Or.inl rfl) (by first | exact Or.inl rfl | exact Or.inr rfl)))) (fun _ _ _ _ => ba) (fun _ _ _ _ => (bY rfl T.range (ae (aa 4 (pv 4)) af))) (fun _ _ _ _ => (az (aw (i := 1) (show (["x", "y", "left", "top", "high", "rows"] : List Str).Nodup by decide +kernel) rfl (Or.inl rfl) (by first | exact Or.inl rfl | exact Or.inr rfl)))) (fun _ _ _ _ => (iw (aK dq fU (kO rfl (aO rfl (aa 5 (pv 5)) (aa 1 (pv 1)) (fun _ _ => rfl)) (aa 0 (pv 0)) (fun _ _ => rfl)) aB (aH _)))) (fun _ _ _ _ => (cg (ae (ak bj aJ (aa 2 (pv 2)) (aa 0 (pv 0))) (ae (ak bj aJ (aa 3 (pv 3)) (aa 1 (pv 1))) af))))) (jd (dt (cH (bU (cf (bD e4_ hr (ae (aa 7 (pv 7)) af)))) (cW (aK (rG (K := K) rfl hr.units) oJ (bD e7_ hr (ae (aa 7 (pv 7)) af)) (cg (ae (aa 2 (pv 2)) (ae (aa 3 (pv 3)) (ae (aa 5 (pv 5)) (ae (aa 6 (pv 6)) af))))) (aH _))))) (df TH PySem.F.excBase_ValueError x_NoText g_NoText rfl)
  mF))))))))))), ?_⟩
 rintro ds C (⟨l, rfl, hl, hn, rfl⟩ | ⟨d, rfl, hd, rfl⟩)
 ·obtain ⟨h0, hn⟩ := t9 hn
  have hz := eu 32 (z := mk l) (n := 10000) (by rw [aD]; exact hl)
  walk_at "sl"
  walk_at "rc"
  rw [if_neg (by decide)]
  walk_at "rc"
  rw [show decide (mk l = Str.ofString "-") = false from decide_eq_false fun z => h0 (mk_inj.mp (z.trans (show Str.ofString "-" = mk [45] from rfl)))]
  walk_at "rc"
  refine fE (by rw [aD]; exact aW (by lia)) rfl (cJ 32 (mk l)) (by rw [List.length_map]; exact aW (by lia)) ?_
  rw [lH]
  walk_at "rc"
  rw [lF]
  rcases hn with hn | ⟨w0, w1, e, hn⟩
  ·rw [decide_eq_false (show ¬(((prt 32 (mk l)).length : Int) = 2) by lia), if_pos (show (!false) = true from rfl)]
   trivial
  rw [e] at hz ⊢
  have l0 := hz.2 w0 (by simp)
  have l1 := hz.2 w1 (by simp)
  show if (!true) = true then _ else _
  rw [if_neg (by decide)]
  rcases hn with hc | ⟨hc, hk⟩
  ·refine .inl ?_
   walk_at "rc"
   exact ⟨_, _, rfl, ⟨w0, rfl, by lia, hc, rfl⟩, rfl⟩
  refine .inr ?_
  have hy := eu 47 (z := mk w1) (n := 10000) (by rw [aD]; exact l1)
  have ne := jv 47 (mk w1)
  have es := cJ 47 (mk w1)
  walk_at "rc"
  refine ⟨w0, rfl, by lia, hc, ?_⟩
  walk_at "rc"
  generalize prt 47 (mk w1) = rows at *
  refine fE (ws := rows.map mk) (by rw [aD]; exact aW (by lia)) rfl es (by rw [List.length_map]; exact aW (by lia)) ?_
  rw [lH]
  obtain ⟨r0, rr, er⟩ : ∃ r0 rr, rows = r0 :: rr := by
   match rows, ne with
   | a :: b, _ => exact ⟨a, b, rfl⟩
  have hd : (rows.headD []).length = r0.length := by rw [er]; rfl
  have lr0 := hy.2 r0 (by rw [er]; exact List.mem_cons_self)
  walk_at "rc"
  refine fY rfl rfl (t7 (i := 0) (by rw [er]; rfl)) ?_
  walk_at "rc"
  refine eg (by rw [aD]; exact aW (by lia)) ?_
  rw [aD]
  walk_at "rc"
  rw [lF, <- hd]
  generalize (celOf w0).1 = a at *
  generalize (celOf w0).2 = b at *
  by_cases g1 : (rows.headD []).length <= 40
  case neg =>
   rw [show decide ((40 : Int) < ((rows.headD []).length : Int)) = true from decide_eq_true (by lia)]
   walk_at "rc"
   trivial
  rw [show decide ((40 : Int) < ((rows.headD []).length : Int)) = false from decide_eq_false (by lia)]
  walk_at "rc"
  by_cases g2 : rows.length <= 40
  case neg =>
   rw [show decide ((40 : Int) < (rows.length : Int)) = true from decide_eq_true (by lia)]
   walk_at "rc"
   trivial
  rw [show decide ((40 : Int) < (rows.length : Int)) = false from decide_eq_false (by lia)]
  walk_at "rc"
  refine comp_map (xs := rows) (en := fun w => .str (mk w)) (f := fun r => D.bl (decide ((r.length : Int) = ((rows.headD []).length : Int)) && r.all sgn)) (by lia) (fun r hr A B hA => ?_) ?_
  ·dsimp only [bp, List.replicate, List.map_cons, List.map_nil, List.cons_append, List.nil_append]
   walk_at "rd"
   refine ⟨_, r, rfl, by have := hy.2 r hr; lia, ?_⟩
   walk_at "rd"
   exact hA _ rfl
  walk_at "rd"
  refine all_map rows _ ?_
  rw [mU]
  cases g3 : rect rows with
  | false =>
   walk_at "rc"
   trivial
  | true =>
   walk_at "rc"
   rw [if_neg (by decide)]
   walk_at "rc"
   refine jA g3 g1 g2 ?_
   have hpc : Pc (cm (rows.headD []).length rows.length rows a b) := ⟨yp, Nat.le_trans (ua _ _ _ _ _) (Nat.le_trans (Nat.mul_le_mul g1 g2) (by decide))⟩
   walk_at "rc"
   refine ⟨_, rfl, hpc, n5 _ _ _ _ _, ?_⟩
   cases g5 : (cm (rows.headD []).length rows.length rows a b).all inB with
   | false =>
    walk_at "rc"
    trivial
   | true =>
    walk_at "rc"
    refine ⟨_, rfl, hpc, fun z => ?_, fun z => ?_⟩
    ·walk_at "rd"
     change iX true (eOL none) (eOL (some [a, b, ((rows.headD []).length : Int), (rows.length : Int)])) _
     refine xT Bb (by simp) ?_
     walk_at "rc"
     trivial
    ·walk_at "rd"
     change iX true (eT (bx _)) (eT [a, b, ((rows.headD []).length : Int), (rows.length : Int)]) _
     refine xT d7 (fun g6 => ?_) ?_
     ·unfold okR at hk
      have h4 : (cm (rows.headD []).length rows.length rows a b).isEmpty = false := by
       cases hcm : cm (rows.headD []).length rows.length rows a b with
       | nil => exact absurd hcm z
       | cons c r => rfl
      rw [decide_eq_true g1, decide_eq_true g2, g3, g5, h4, decide_eq_true g6] at hk
      cases hk
     walk_at "rc"
     trivial
 ·walk_at "sl"
  cases d with
  | int i => walk_at "rc"; trivial
  | bl i => walk_at "rc"; trivial
  | non => walk_at "rc"; trivial
  | lst i => walk_at "rc"; trivial
  | tup i => walk_at "rc"; trivial
  | dic i j => walk_at "rc"; trivial
  | str i => exact hd.elim
  | ty i => exact hd.elim
  | exc i => exact hd.elim
end
end My
namespace My
open PySem L2 VL
theorem Bd (w : List Nat) : Txt.slice (mk w) none (some 1) = mk (w.take 1) := by
 match w with
 | [] => decide
 | c :: r => exact mL
theorem wV (w : List Nat) : Txt.slice (mk w) (some 1) none = mk (w.drop 1) := by
 match w with
 | [] => decide
 | c :: r => exact nW
def grS (cs : List (List Int)) (a b : Int) (W H : Nat) : List (List Str) := (List.range H).map fun (y : Nat) => (List.range W).map fun (x : Nat) => if [a + (x : Int), b + (y : Int)] ∈ cs then mk [35] else mk [46]
theorem iE {cs : List (List Int)} {a b : Int} {W H y : Nat} (h : y < H) : (grS cs a b W H)[y]? = some ((List.range W).map fun (x : Nat) => if [a + (x : Int), b + (y : Int)] ∈ cs then mk [35] else mk [46]) := by
 unfold grS
 rw [List.getElem?_map, List.getElem?_range h]
 rfl
theorem wW {cs : List (List Int)} {a b : Int} {W H x y : Nat} (hx : x < W) (hy : y < H) :
  (grS cs a b W H).set y (((List.range W).map fun (x' : Nat) => if [a + (x' : Int), b + (y : Int)] ∈ cs then mk [35] else mk [46]).set x (mk [35])) = grS (cs ++ [[a + (x : Int), b + (y : Int)]]) a b W H := by
 refine List.ext_getElem? fun y' => ?_
 by_cases hy' : y' < H
 ·rw [iE hy', List.getElem?_set]
  by_cases e : y = y'
  ·subst e
   rw [if_pos rfl, if_pos (by unfold grS; simpa using hy)]
   congr 1
   refine List.ext_getElem? fun x' => ?_
   rw [List.getElem?_set, List.getElem?_map, List.getElem?_map]
   by_cases ex : x = x'
   ·subst ex
    rw [if_pos rfl, if_pos (by simpa using hx), List.getElem?_range hx]
    show some _ = some (if _ then mk [35] else mk [46])
    rw [if_pos (by simp)]
   ·rw [if_neg ex]
    by_cases hx' : x' < W
    ·rw [List.getElem?_range hx']
     show some (if _ then _ else _) = some (if _ then _ else _)
     congr 2
     apply propext
     simp only [List.mem_append, List.mem_singleton]
     constructor
     ·exact .inl
     ·rintro (h | h)
      ·exact h
      ·simp only [List.cons.injEq, and_true] at h; lia
    ·rw [List.getElem?_eq_none (by simpa using hx')]; rfl
  ·rw [if_neg e, iE hy']
   congr 1
   refine List.map_congr_left fun x' _ => ?_
   congr 1
   apply propext
   simp only [List.mem_append, List.mem_singleton]
   constructor
   ·exact .inl
   ·rintro (h | h)
    ·exact h
    ·simp only [List.cons.injEq, and_true] at h; lia
 ·rw [List.getElem?_eq_none (by unfold grS; simp; lia), List.getElem?_eq_none (by unfold grS; simp; lia)]
theorem jB : ∀ l : List Nat, Str.join (Str.ofString "") (l.map fun c => mk [c]) = mk l
 | [] => rfl
 | [c] => rfl
 | c :: d :: r => by
  have ih := jB (d :: r)
  show mk [c] ++ Str.ofString "" ++ Str.join (Str.ofString "") ((d :: r).map fun c => mk [c]) = _
  rw [ih, show Str.ofString "" = mk [] from rfl, tR, tR]
  rfl
def eOI (b : Bool) (n : Int) : D := if b = true then .int n else .non
def pWi (ds : List D) (R : D -> Prop) : Prop := ∃ l : List Nat, ds = [.str (mk l)] /\ l.length <= 100000 /\ R (eOI (isNum l) (numOf l))
def pO : List Int -> List D -> (D -> List Int -> Prop) -> Prop := fun pn ds R => ∃ b : Nat, ds = [] /\ Pn b pn /\ b <= 1000 /\ ∀ (x : Int) pn', x.natAbs + 8 <= 10 ^ 60 -> Pn (b + 4) pn' -> R (.int x) pn'
def Lp (mss : List (List Int)) : Prop := mss.length <= 12 /\ ∃ a b : Int, [a, b] ∈ mss /\ a.natAbs + 8 <= 10 ^ 60 /\ b.natAbs + 8 <= 10 ^ 60 /\ ∀ c ∈ mss, ∃ x y : Int, c = [x, y] /\ a <= x /\ x <= a + 4 /\ b <= y /\ y <= b + 4
def DK : List Int -> List D -> (D -> List Int -> Prop) -> Prop := fun pn ds R => ∃ b : Nat, ds = [] /\ Pn b pn /\ b <= 500 /\ ∀ mss pn', Lp mss -> Pn (b + 60) pn' -> R (eL mss) pn'
def ub (ds : List D) (R : D -> Prop) : Prop := ∃ mss, ds = [eL mss] /\ Pc mss /\ mss ≠ [] /\ (∀ c ∈ mss, inB c = true) /\ mxI (mss.map fs) - mnI (mss.map fs) <= 99 /\ mxI (mss.map sn) - mnI (mss.map sn) <= 99 /\ R (.str (mk (txt mss)))
section
variable {P : Program} {w : World} {K : PySem.W.Frag} {mg : Str -> Option Value} {base : Heap}
theorem DL (S : Src K mg "_law_whole_in" e8) (T : Txt mg) : Has P w K mg base 1 "_law_whole_in" ["_law_text_here"] (spP K pWi) := by
 refine cZ S fF (by walk_at "1") (fun ds R zq1 => by obtain ⟨_, e, _⟩ := zq1; rw [e]; rfl) fun f cdv A outer s H E hr => ⟨_, _, (ai (aE (i := 1) fF.nd rfl (Or.inl rfl) (aa 0 (pv 0)))
  (ai (bA (aK dq fU (cM (aa 0 (pv 0)) bQ (bR ah)) aB (aH _)) (ay (aE (i := 1) fF.nd rfl (Or.inl rfl) (cM (aa 0 (pv 0)) (bR ah) bQ))) aQ)
  (ai (bA (dt (cH (aK dq fU (aa 1 (pv 1)) aB (aH _)) (cH (aK fh aJ (au bq d9 (by rfl) T.len_ bH (ae (aa 1 (pv 1)) af)) ah (aH _)) (cW (aK (tD rfl hr.units) yi (aL (bf (tg := ["_law_sign"]) (cs := []) (ix := []) (aI (aj e8) ["_law_text_here", "_law_figures"] (by decide +kernel)) rfl (aN (by decide)) (by decide) (jh (aa 1 (pv 1))) (fun _ _ _ _ => (az (aw (i := 0) (show (["_law_sign"] : List Str).Nodup by decide +kernel) rfl (Or.inl rfl) (by first | exact Or.inl rfl | exact Or.inr rfl)))) (fun _ _ _ _ => (iw (aK fJ mH (aa 0 (pv 0)) aB (by with_unfolding_all rfl)))) (fun _ _ _ _ => (bB (aa 0 (pv 0)))))) (aL (aY af)) (aH _)))))) (ay (aP cL)) aQ)
  (ai (bA (dt (nH (aK dq fU (kO rfl (aa 1 (pv 1)) ah (fun _ _ => rfl)) aB (aH _)) (kD (aK gY lU (aa 0 (pv 0)) aB (aH _))))) (ay (aP cL)) aQ)
  (ay (aP (cj gQ nU (by rfl) T.int_ kr (ae (aa 0 (pv 0)) af)))))))), ?_⟩
 rintro ds R ⟨l, rfl, hl, q⟩
 have hsz : (mk l).length <= sizeLine := by rw [aD]; exact aW (by lia)
 have hfl := lE l
 have hsf : (mk (fgs l)).length <= sizeLine := by rw [aD]; exact aW (by lia)
 walk_at "sl"
 walk_at "rd"
 refine kR hsz (Bd l) ?_
 walk_at "rd"
 rw [show Str.ofString "-" = mk [45] from rfl]
 refine vm (fun S => S = [.val (.str (mk l)), .val (.str (mk (fgs l)))]) ?_ (fun nx hx c1 => ?_) (fun nx hx c1 => ?_)
 ·rintro S' rfl
  walk_at "rd"
  rw [show Str.ofString "" = mk [] from rfl]
  by_cases e0 : fgs l = []
  ·rw [decide_eq_true (mk_inj.mpr e0)]
   walk_at "rc"
   have : isNum l = false := by unfold isNum shp; rw [e0]; rfl
   rw [this] at q
   exact q
  ·rw [decide_eq_false (fun z => e0 (mk_inj.mp z))]
   have hpos : 0 < (fgs l).length := List.length_pos_iff.mpr e0
   walk_at "rc"
   refine eg hsf ?_
   rw [aD]
   walk_at "rc"
   by_cases h60 : (fgs l).length <= 60
   ·rw [decide_eq_false (show ¬((60 : Int) < ((fgs l).length : Int)) by lia)]
    walk_at "rc"
    rw [jz]
    refine eO (xs := fgs l) (f := fun c => D.str ⟨#[c]⟩) (p := fun c => !dig c) (by lia) (fun c hc A B hA hB => ?_) ?_
    ·dsimp only [bp, List.replicate, List.map_cons, List.map_nil, List.cons_append, List.nil_append]
     walk_at "rd"
     refine mM (lD c) ?_
     cases hd : dig c with
     | true =>
      walk_at "rc"
      exact hB _ rfl (by rw [hd]; rfl)
     | false =>
      rw [show (!false) = true from rfl]
      walk_at "rc"
      exact hA _ rfl (by rw [hd]; rfl)
    walk_at "rc"
    cases ha : (fgs l).all dig with
    | false =>
     have hne : (((fgs l).filter fun c => !dig c).map fun c => D.str (⟨#[c]⟩ : Str)).isEmpty = false := by
      rw [List.isEmpty_eq_false_iff]
      intro z
      rw [List.map_eq_nil_iff, List.filter_eq_nil_iff] at z
      have : (fgs l).all dig = true := List.all_eq_true.mpr fun c hc => by have := z c hc; simpa using this
      rw [this] at ha
      cases ha
     rw [hne]
     walk_at "rc"
     have : isNum l = false := by unfold isNum shp; rw [ha]; simp
     rw [this] at q
     exact q
    | true =>
     have hne : (((fgs l).filter fun c => !dig c).map fun c => D.str (⟨#[c]⟩ : Str)).isEmpty = true := by
      rw [List.isEmpty_iff, List.map_eq_nil_iff, List.filter_eq_nil_iff]
      intro c hc
      rw [List.all_eq_true.mp ha c hc]
      decide
     rw [hne]
     walk_at "rc"
     have hs : shp l = true := by unfold shp; rw [decide_eq_true (show 1 <= (fgs l).length by lia), decide_eq_true h60, ha]; rfl
     have hi : isNum l = canon l := by unfold isNum; rw [hs, Bool.true_and]
     rw [hi] at q
     obtain ⟨c, r, ef⟩ : ∃ c r, fgs l = c :: r := by
      match fgs l, e0 with
      | c :: r, _ => exact ⟨c, r, rfl⟩
     refine kZ (c := c) hsf (by rw [ef, ao]; exact ip (j := 0) rfl) ?_
     walk_at "rc"
     have e48 : (⟨#[c]⟩ : Str) = mk [c] := rfl
     rw [show Str.ofString "0" = mk [48] from rfl, e48]
     have fin : canon l = true -> R (.int (numOf l)) := fun hc => by rw [hc] at q; exact q
     have fin0 : canon l = false -> R .non := fun hc => by rw [hc] at q; exact q
     by_cases hc : c = 48
     ·subst hc
      rw [decide_eq_true rfl]
      walk_at "rc"
      rw [show decide (mk l = mk [48]) = decide (l = [48]) from decide_eq_decide.mpr mk_inj]
      by_cases h48 : l = [48]
      ·rw [decide_eq_true h48]
       walk_at "rc"
       refine kQ (iB hs) (by rw [aD]; have := (cD hs).2.2.2; lia) ?_
       walk_at "rc"
       exact fin (by unfold canon; rw [decide_eq_true h48, Bool.or_true])
      ·rw [decide_eq_false h48]
       walk_at "rc"
       exact fin0 (by unfold canon; rw [ef, decide_eq_false h48]; rfl)
     ·rw [decide_eq_false (fun z => hc (by have := mk_inj.mp z; simpa using this))]
      walk_at "rc"
      refine kQ (iB hs) (by rw [aD]; have := (cD hs).2.2.2; lia) ?_
      walk_at "rc"
      exact fin (by unfold canon; rw [ef, decide_eq_true (show (c :: r).head? ≠ some 48 by simpa using hc), Bool.true_or])
   ·rw [decide_eq_true (show ((60 : Int) < ((fgs l).length : Int)) by lia)]
    walk_at "rc"
    have : isNum l = false := by unfold isNum shp; rw [decide_eq_false h60]; simp
    rw [this] at q
    exact q
 ·walk_at "rd"
  refine kR hsz (wV l) ?_
  walk_at "rd"
  refine hx _ ?_
  rw [mk_inj] at c1
  match l, c1 with
  | c :: r, c1 =>
   obtain rfl : c = 45 := by simpa using c1
   rfl
 ·walk_at "rd"
  refine hx _ ?_
  rcases ei l with ⟨r, rfl, _, _⟩ | ⟨e, _, _⟩
  ·exact absurd rfl c1
  ·rw [e]
theorem DM (S : Src K mg "_law_number" js) (T : Txt mg) (e0_ : Has P w K mg base 1 "_law_draw" ["_law_pen_here", "_law_many"] (spI K 0 pJ)) : Has P w K mg base 2 "_law_number" ["_law_pen_here"] (spI K 0 pO) := by
 refine oI 0 S j7 (by walk_at "1") (fun ns ds R zq1 => by obtain ⟨_, e, _⟩ := zq1; rw [e]; rfl) fun f cdv A outer s H E hr => ⟨_, _, (ai (aE (i := 1) j7.nd rfl (Or.inl rfl) (bN e0_ hr (ae (aa 0 (pv 0)) (ae ah af))))
  (ai (bA (aK oo aJ (aa 1 (pv 1)) ah (aH _)) (ay (aP (ak bZ aJ (bN e0_ hr (ae (aa 0 (pv 0)) (ae ah af))) ah))) aQ)
  (ay (aP (ak eF b8 (ak bZ aJ (aO rfl (aL (aY (ae (ak fv b8 ah ah) (ae (ak bZ aJ (ak fv b8 ah ah) ah) af)))) (ak bZ aJ (aa 1 (pv 1)) ah) (fun _ _ => rfl)) (bN e0_ hr (ae (aa 0 (pv 0)) (ae ah af)))) (ak bZ aJ ah (ak eF b8 ah (bN e0_ hr (ae (aa 0 (pv 0)) (ae ah af)))))))))), ?_⟩
 rintro a pn ds es R hl ⟨b, e, hpn, hb, q⟩
 obtain rfl : ds = [] := List.eq_nil_of_length_eq_zero hl
 obtain rfl : es = [] := e
 have e60 : (10 ^ 60 : Nat) = 1000000000000000000000000000000000000000000000000000000000000 := by decide
 have e6 : (10 ^ Int.toNat 60 : Int) = 1000000000000000000000000000000000000000000000000000000000000 := by decide
 have e3 : (10 ^ Int.toNat 30 : Int) = 1000000000000000000000000000000 := by decide
 walk_at "sl"
 walk_at "rd"
 refine ⟨b, 8, rfl, hpn, by lia, by lia, by lia, fun pn1 r1 h1 r1a r1b => ?_⟩
 walk_at "rd"
 refine eN (fun c1 => ?_) (fun c1 => ?_)
 ·walk_at "rd"
  refine ⟨b + 1, 25, rfl, h1, by lia, by lia, by lia, fun pn2 r2 h2 r2a r2b => ?_⟩
  walk_at "rd"
  exact ⟨_, rfl, q _ _ (by rw [e60]; lia) (h2.le (by lia))⟩
 ·walk_at "rd"
  obtain ⟨M, hM, hM2, eM⟩ : ∃ M : Int, 100 <= M /\ M <= 10 ^ 60 - 8 /\ atI [D.int (10 ^ Int.toNat 30), .int (10 ^ Int.toNat 60 - 8)] (r1 - 6) = some (.int M) := by
   rcases (by lia : r1 = 6 \/ r1 = 7) with rfl | rfl
   ·exact ⟨10 ^ Int.toNat 30, by rw [e3]; lia, by rw [e3]; decide, rfl⟩
   ·exact ⟨10 ^ Int.toNat 60 - 8, by rw [e6]; lia, by rw [e6]; decide, rfl⟩
  refine fY rfl rfl eM ?_
  walk_at "rd"
  refine ⟨b + 1, 3, rfl, h1, by lia, by lia, by lia, fun pn2 r2 h2 r2a r2b => ?_⟩
  walk_at "rd"
  refine ⟨b + 2, 2, rfl, h2, by lia, by lia, by lia, fun pn3 r3 h3 r3a r3b => ?_⟩
  walk_at "rd"
  have e60' : (10 ^ 60 : Int) = 1000000000000000000000000000000000000000000000000000000000000 := by decide
  rw [e60'] at hM2
  refine ⟨_, rfl, q _ _ ?_ (h3.le (by lia))⟩
  rw [e60]
  rcases (by lia : r3 = 0 \/ r3 = 1) with rfl | rfl
  ·rw [show (1 - 2 * 0 : Int) = 1 from rfl, Int.mul_one]; lia
  ·rw [show (1 - 2 * 1 : Int) = -1 from rfl]; lia
theorem wX (S : Src K mg "_law_text" eP) (T : Txt mg) : Has P w K mg base 1 "_law_text" ["_law_live"] (spP K ub) := by
 refine cZ S gu (by walk_at "1") (fun ds R zq1 => by obtain ⟨_, e, _⟩ := zq1; rw [e]; rfl) fun f cdv A outer s H E hr => ⟨_, _, (ai (aE (i := 1) gu.nd rfl (Or.inr rfl) (au (kH (K := K) rfl rfl) dA (by rfl) T.min_ kF (ae (aL (bf (tg := ["_law_one"]) (cs := []) (ix := []) (aI (aj eP) ["_law_live", "_law_left", "_law_top", "_law_rows", "_law_one"] (by decide +kernel)) rfl (aN (by decide)) (by decide) (bI rfl (aa 0 (pv 0))) (fun _ _ _ _ => (az (aw (i := 0) (show (["_law_one"] : List Str).Nodup by decide +kernel) rfl (Or.inl rfl) (by first | exact Or.inl rfl | exact Or.inr rfl)))) (fun _ _ _ _ => ba) (fun _ _ _ _ => (bB (aO rfl (aa 0 (pv 0)) ah (fun _ _ => rfl)))))) af)))
  (ai (aE (i := 2) gu.nd rfl (Or.inl rfl) (au (kH (K := K) rfl rfl) dA (by rfl) T.min_ kF (ae (aL (bf (tg := ["_law_one"]) (cs := []) (ix := []) (aI (aj eP) ["_law_live", "_law_left", "_law_top", "_law_rows", "_law_one"] (by decide +kernel)) rfl (aN (by decide)) (by decide) (bI rfl (aa 0 (pv 0))) (fun _ _ _ _ => (az (aw (i := 0) (show (["_law_one"] : List Str).Nodup by decide +kernel) rfl (Or.inl rfl) (by first | exact Or.inl rfl | exact Or.inr rfl)))) (fun _ _ _ _ => ba) (fun _ _ _ _ => (bB (aO rfl (aa 0 (pv 0)) ah (fun _ _ => rfl)))))) af)))
  (tG (i := 3) (j := 4) (vv := 0) (tgs := ["_law_y"]) (cs := ["_law_left", "_law_live"]) (ix := [1, 0]) gu.nd rfl (Or.inl rfl) (Or.inl rfl) (aI (aj eP) ["_law_live", "_law_left", "_law_top", "_law_rows", "_law_one"] (by decide +kernel)) rfl rfl (aN (by decide)) (by decide) (bY rfl T.range (ae (ak bj aJ (ak bZ aJ (au (gN (K := K) rfl rfl) dA (by rfl) T.max_ gL (ae (aL (bf (tg := ["_law_one"]) (cs := []) (ix := []) (aI (aj eP) ["_law_live", "_law_left", "_law_top", "_law_rows", "_law_one"] (by decide +kernel)) rfl (aN (by decide)) (by decide) (bI rfl (aa 0 (pv 0))) (fun _ _ _ _ => (az (aw (i := 0) (show (["_law_one"] : List Str).Nodup by decide +kernel) rfl (Or.inl rfl) (by first | exact Or.inl rfl | exact Or.inr rfl)))) (fun _ _ _ _ => ba) (fun _ _ _ _ => (bB (aO rfl (aa 0 (pv 0)) ah (fun _ _ => rfl)))))) af)) (aa 2 (pv 2))) ah) af)) (fun _ _ _ _ => (az (aw (i := 0) (show (["_law_y", "_law_left", "_law_live"] : List Str).Nodup by decide +kernel) rfl (Or.inl rfl) (by first | exact Or.inl rfl | exact Or.inr rfl)))) (fun _ _ _ _ => (bf (tg := ["_law_x"]) (cs := []) (ix := []) (hV (by decide +kernel)) rfl (aN (by decide)) (by decide) (bY rfl T.range (ae (ak bj aJ (ak bZ aJ (au (gN (K := K) rfl rfl) dA (by rfl) T.max_ gL (ae (aL (bf (tg := ["_law_one"]) (cs := []) (ix := []) (hV (by decide +kernel)) rfl (aN (by decide)) (by decide) (bI rfl (aa 2 (pv 2))) (fun _ _ _ _ => (az (aw (i := 0) (show (["_law_one"] : List Str).Nodup by decide +kernel) rfl (Or.inl rfl) (by first | exact Or.inl rfl | exact Or.inr rfl)))) (fun _ _ _ _ => ba) (fun _ _ _ _ => (bB (aO rfl (aa 0 (pv 0)) ah (fun _ _ => rfl)))))) af)) (aa 1 (pv 1))) ah) af)) (fun _ _ _ _ => (az (aw (i := 0) (show (["_law_x"] : List Str).Nodup by decide +kernel) rfl (Or.inl rfl) (by first | exact Or.inl rfl | exact Or.inr rfl)))) (fun _ _ _ _ => ba) (fun _ _ _ _ => aB))) PassesOwn.never (pv 0) (aw (i := 4) gu.nd rfl (Or.inl rfl) (Or.inl rfl)) (pv 3) (ak bZ aJ (aO rfl (aa 4 (pv 4)) ah (fun _ _ => rfl)) (aa 2 (pv 2))) (ak bZ aJ (aO rfl (aa 4 (pv 4)) ah (fun _ _ => rfl)) (aa 1 (pv 1))) (fun _ _ => rfl)
  (ay (aP (ak aA aT (ak aA aT (ak aA aT (ak aA aT (cj cQ kK (by rfl) T.str_ gM (ae (aa 1 (pv 1)) af)) aB) (cj cQ kK (by rfl) T.str_ gM (ae (aa 2 (pv 2)) af))) aB) (mI rfl aB (bf (tg := ["_law_row"]) (cs := []) (ix := []) (aI (aj eP) ["_law_live", "_law_left", "_law_top", "_law_rows", "_law_one"] (by decide +kernel)) rfl (aN (by decide)) (by decide) (bI rfl (aa 3 (pv 3))) (fun _ _ _ _ => (az (aw (i := 0) (show (["_law_row"] : List Str).Nodup by decide +kernel) rfl (Or.inl rfl) (by first | exact Or.inl rfl | exact Or.inr rfl)))) (fun _ _ _ _ => ba) (fun _ _ _ _ => (vW rfl aB (aa 0 (pv 0)))))))))))), ?_⟩
 rintro ds R ⟨mss, rfl, hp, h0, hB, hW, hH, q⟩
 have n1 : mss.map fs ≠ [] := by simpa using h0
 have n2 : mss.map sn ≠ [] := by simpa using h0
 have p1 := gU (bC n1)
 have p2 := gU (bC n2)
 walk_at "sl"
 walk_at "rd"
 refine comp_map (xs := mss) (en := eT) (f := fun m => .int (fs m)) (by have := hp.2; lia) (fun m hm A B hA => ?_) ?_
 ·obtain ⟨x, y, rfl⟩ := hp.1 m hm
  dsimp only [bp, List.replicate, List.map_cons, List.map_nil, List.cons_append, List.nil_append]
  walk_at "rd"
  exact hA _ rfl
 rw [show mss.map (fun m => D.int (fs m)) = (mss.map fs).map D.int by rw [List.map_map]; rfl]
 walk_at "rd"
 refine dB n1 fun M1 g1 g2 => ?_
 obtain rfl := gP g1 g2
 walk_at "rd"
 refine comp_map (xs := mss) (en := eT) (f := fun m => .int (sn m)) (by have := hp.2; lia) (fun m hm A B hA => ?_) ?_
 ·obtain ⟨x, y, rfl⟩ := hp.1 m hm
  dsimp only [bp, List.replicate, List.map_cons, List.map_nil, List.cons_append, List.nil_append]
  walk_at "rd"
  exact hA _ rfl
 rw [show mss.map (fun m => D.int (sn m)) = (mss.map sn).map D.int by rw [List.map_map]; rfl]
 walk_at "rd"
 refine dB n2 fun M2 g3 g4 => ?_
 obtain rfl := gP g3 g4
 walk_at "rd"
 refine ⟨Nat.le_of_ble_eq_true rfl, Nat.le_of_ble_eq_true rfl, by decide, by decide, by decide, ?_⟩
 show vGr _ _ _ _ _ [lendF (.val (eL mss)), lendF (.val (.int (mnI (mss.map fs)))), lendF (.val (.int (mnI (mss.map sn)))), .no, .no] _
 unfold vGr
 dsimp only [lendF, ph]
 walk_at "rd"
 refine comp_map (xs := mss) (en := eT) (f := fun m => .int (sn m)) (by have := hp.2; lia) (fun m hm A B hA => ?_) ?_
 ·obtain ⟨x, y, rfl⟩ := hp.1 m hm
  dsimp only [bp, List.replicate, List.map_cons, List.map_nil, List.cons_append, List.nil_append]
  walk_at "rd"
  exact hA _ rfl
 rw [show mss.map (fun m => D.int (sn m)) = (mss.map sn).map D.int by rw [List.map_map]; rfl]
 walk_at "rd"
 refine dB n2 fun M4 g7 g8 => ?_
 obtain rfl := ly g7 g8
 walk_at "rd"
 have t1 := toNat_pos p1
 have t2 := toNat_pos p2
 have hmx : ∀ c ∈ mss, mnI (mss.map fs) <= fs c /\ fs c <= mxI (mss.map fs) := fun c hc => ⟨gO (List.mem_map.mpr ⟨c, hc, rfl⟩), gU (List.mem_map.mpr ⟨c, hc, rfl⟩)⟩
 have hmy : ∀ c ∈ mss, mnI (mss.map sn) <= sn c /\ sn c <= mxI (mss.map sn) := fun c hc => ⟨gO (List.mem_map.mpr ⟨c, hc, rfl⟩), gU (List.mem_map.mpr ⟨c, hc, rfl⟩)⟩
 have bx1 : (mnI (mss.map fs)).natAbs < 10 ^ 60 := by
  obtain ⟨c, hc, e⟩ := List.mem_map.mp (bC n1)
  have := hB c hc
  unfold inB at this
  rw [Bool.and_eq_true, decide_eq_true_eq] at this
  rw [<- e]; exact this.1
 have by1 : (mnI (mss.map sn)).natAbs < 10 ^ 60 := by
  obtain ⟨c, hc, e⟩ := List.mem_map.mp (bC n2)
  have := hB c hc
  unfold inB at this
  rw [Bool.and_eq_true, decide_eq_true_eq] at this
  rw [<- e]; exact of_decide_eq_true this.2
 unfold txt at q
 generalize hW' : (mxI (mss.map fs) - mnI (mss.map fs) + 1).toNat = W at *
 generalize hH' : (mxI (mss.map sn) - mnI (mss.map sn) + 1).toNat = Hh at *
 generalize hWi : mxI (mss.map fs) - mnI (mss.map fs) + 1 = Wi at *
 generalize hMx : mxI (mss.map fs) = Mx at *
 generalize hMy : mxI (mss.map sn) = My at *
 generalize ha : mnI (mss.map fs) = a at *
 generalize hb : mnI (mss.map sn) = b at *
 refine ⟨rfl, by simp [rg]; lia, grS [] a b W Hh, by simp [rg, grS], fun i d r e1 e2 => ?_, mss.map eT, rfl, fun k rows => rows = grS (mss.take k) a b W Hh, by simp, ?_, ?_⟩
 ·dsimp only [bp, List.replicate, List.map_cons, List.map_nil, List.cons_append, List.nil_append]
  have hi : i < Hh := by
   have := (List.getElem?_eq_some_iff.mp e2).1
   unfold grS at this
   simpa using this
  rw [iE hi] at e2
  obtain rfl := Option.some.inj e2
  refine ⟨Nat.le_of_ble_eq_true rfl, ?_⟩
  show oH _ _ _ _ _ _ [.val d, .val (.int a), .val (eL mss)] _
  walk_at "rd"
  refine comp_map (xs := mss) (en := eT) (f := fun m => .int (fs m)) (by have := hp.2; lia) (fun m hm A B hA => ?_) ?_
  ·obtain ⟨x, y, rfl⟩ := hp.1 m hm
   dsimp only [bp, List.replicate, List.map_cons, List.map_nil, List.cons_append, List.nil_append]
   walk_at "rd"
   exact hA _ rfl
  rw [show mss.map (fun m => D.int (fs m)) = (mss.map fs).map D.int by rw [List.map_map]; rfl]
  walk_at "rd"
  refine dB n1 fun M5 g9 g10 => ?_
  obtain rfl : M5 = Mx := (ly g9 g10).trans hMx
  walk_at "rd"
  have eW : (M5 - a + 1).toNat = W := by lia
  rw [eW]
  refine comp_map (xs := List.range W) (en := fun (i : Nat) => .int (0 + (i : Int))) (f := fun _ => .str (mk [46])) (by rw [List.length_range]; lia) (fun m hm A B hA => ?_) ?_
  ·dsimp only [bp, List.replicate, List.map_cons, List.map_nil, List.cons_append, List.nil_append]
   walk_at "rd"
   exact hA _ rfl
  ·refine ⟨?_, rfl⟩
   rw [List.map_map]
   refine List.map_congr_left fun x _ => ?_
   show _ = D.str (if _ then _ else _)
   rw [if_neg (by simp)]
 ·rintro m d rows e rfl
  obtain ⟨c, h1, rfl, hm, ht⟩ := cA e
  obtain ⟨x, y, rfl⟩ := hp.1 c hm
  obtain ⟨x1, x2⟩ := hmx _ hm
  obtain ⟨y1, y2⟩ := hmy _ hm
  have x1 : a <= x := x1
  have x2 : x <= Mx := x2
  have y1 : b <= y := y1
  have y2 : y <= My := y2
  obtain ⟨xn, hxn⟩ : ∃ n : Nat, x = a + (n : Int) := ⟨(x - a).toNat, by lia⟩
  obtain ⟨yn, hyn⟩ : ∃ n : Nat, y = b + (n : Int) := ⟨(y - b).toNat, by lia⟩
  have hx : xn < W := by lia
  have hy : yn < Hh := by lia
  show v2 _ _ _ [.val (eL mss), .val (.int a), .val (.int b), .no, .val (eT [x, y])] _
  walk_at "rd"
  refine ⟨rfl, y - b, yn, _, rfl, ?_, iE hy, ?_⟩
  ·rw [oT (by lia) (by unfold grS; simp; lia)]
   congr 1
   lia
  show v2 _ _ _ [.val (eL mss), .val (.int a), .val (.int b), .no, .val (eT [x, y])] _
  walk_at "rd"
  refine ⟨rfl, x - a, xn, rfl, ?_, ?_⟩
  ·rw [oT (by lia) (by simp; lia)]
   congr 1
   lia
  ·show _ = grS (mss.take (m + 1)) a b W Hh
   rw [show Str.ofString "#" = mk [35] from rfl, wW hx hy, ht, hxn, hyn]
 ·rintro rows rfl
  rw [List.length_map, List.take_length]
  show zo _ _ [.val (eL mss), .val (.int a), .val (.int b), .val (grD (grS mss a b W Hh)), .no]
  unfold grD
  have la : (wr a).length <= 61 := gk (by decide) bx1
  have lb : (wr b).length <= 61 := gk (by decide) by1
  have lapp : ∀ x y : Str, (x ++ y).length = x.length + y.length := fun x y => by
   show (x.cps ++ y.cps).size = _
   rw [Array.size_append]; rfl
  have tj : ∀ (s : Str) (ws : List Str), Txt.join s ws = Str.join s ws := fun s ws => StrLaws.glued_eq_join _ _
  have l1 : (Str.ofString ",").length = 1 := rfl
  have l2 : (Str.ofString " ").length = 1 := rfl
  walk_at "rd"
  refine kL (lB bx1) ?_
  rw [show Str.ofString (toString a) = wr a from rfl]
  walk_at "rd"
  refine ji (aW (by lia)) ?_
  walk_at "rd"
  refine kL (lB by1) ?_
  rw [show Str.ofString (toString b) = wr b from rfl]
  walk_at "rd"
  refine ji (aW (by rw [lapp]; lia)) ?_
  walk_at "rd"
  refine ji (aW (by rw [lapp, lapp]; lia)) ?_
  walk_at "rd"
  refine comp_map (xs := grS mss a b W Hh) (en := fun r => .lst (r.map .str)) (f := fun r => .str (Txt.join (Str.ofString "") r)) (by unfold grS; simp; lia) (fun r hr A B hA => ?_) ?_
  ·dsimp only [bp, List.replicate, List.map_cons, List.map_nil, List.cons_append, List.nil_append]
   walk_at "rd"
   refine AW (zs := r) rfl (PyProof.Rows.joinOk_of ?_) ?_
   ·unfold grS at hr
    obtain ⟨y, _, rfl⟩ := List.mem_map.mp hr
    rw [List.map_map, show (Str.ofString "").length = 0 from rfl, Nat.mul_zero, Nat.add_zero]
    have : ∀ n : Nat, ((List.range n).map ((fun z : Str => z.length) ∘ fun (x : Nat) => if [a + (x : Int), b + (y : Int)] ∈ mss then mk [35] else mk [46])).sum <= n := fun n => by
     induction n with
     | zero => simp
     | succ n ih =>
      rw [List.range_succ, List.map_append, List.sum_append]
      simp only [List.map_cons, List.map_nil, List.sum_cons, List.sum_nil, Function.comp]
      split <;> (rw [aD]; simp only [List.length_singleton]; lia)
    exact Nat.le_trans (this W) (by lia)
   walk_at "rd"
   exact hA _ rfl
  walk_at "rd"
  have hz : (grS mss a b W Hh).map (fun r => Txt.join (Str.ofString "") r) = (grd mss a b W Hh).map mk := by
   unfold grS grd
   rw [List.map_map, List.map_map]
   refine List.map_congr_left fun y _ => ?_
   refine ((tj _ _).trans ?_).trans (jB ((List.range W).map fun (x : Nat) => if [a + (x : Int), b + (y : Int)] ∈ mss then 35 else 46))
   rw [List.map_map]
   congr 1
   refine List.map_congr_left fun x _ => ?_
   show (if _ then _ else _) = mk [if _ then 35 else 46]
   split <;> rfl
  have gl : ∀ w ∈ (grd mss a b W Hh).map mk, w.length = W := fun w hw => by
   obtain ⟨v, hv, rfl⟩ := List.mem_map.mp hw
   unfold grd at hv
   obtain ⟨y, _, rfl⟩ := List.mem_map.mp hv
   rw [aD]
   simp
  have sl : ∀ ws : List Str, (∀ w ∈ ws, w.length = W) -> (ws.map (·.length)).sum = ws.length * W := fun ws => by
   induction ws with
   | nil => simp
   | cons w ws ih =>
    intro h
    rw [List.map_cons, List.sum_cons, ih fun v hv => h v (List.mem_cons_of_mem _ hv), h w List.mem_cons_self, List.length_cons, Nat.succ_mul]
    lia
  have gh : ((grd mss a b W Hh).map mk).length = Hh := by unfold grd; simp
  have hHW : Hh * W <= 100 * 100 := Nat.mul_le_mul (by lia) (by lia)
  refine sZ (zs := (grd mss a b W Hh).map mk) (by rw [<- hz, List.map_map]; rfl) (PyProof.Rows.joinOk_of (by rw [sl _ gl, gh, show (Str.ofString "/").length = 1 from rfl]; lia)) ?_
  have ej : (Txt.join (Str.ofString "/") ((grd mss a b W Hh).map mk)).cps.toList = jl 47 (grd mss a b W Hh) := by
   rw [tj, show Str.ofString "/" = ⟨#[47]⟩ from rfl, kU, List.map_map]
   congr 1
   conv => rhs; rw [<- List.map_id (grd mss a b W Hh)]
   exact List.map_congr_left fun w _ => ao w
  have lj : (Txt.join (Str.ofString "/") ((grd mss a b W Hh).map mk)).length <= 20000 := by
   show Array.size _ <= _
   rw [<- Array.length_toList, ej]
   have := iD (c := 47) (W := W) (ws := grd mss a b W Hh) fun w hw => by
    have := gl (mk w) (List.mem_map.mpr ⟨w, hw, rfl⟩)
    rw [aD] at this
    lia
   rw [List.length_map] at gh
   rw [gh, Nat.mul_add] at this
   lia
  walk_at "rd"
  refine ji (aW (by rw [lapp, lapp, lapp]; lia)) ?_
  walk_at "rd"
  have fin : wr a ++ Str.ofString "," ++ wr b ++ Str.ofString " " ++ Txt.join (Str.ofString "/") ((grd mss a b W Hh).map mk) = mk ((wr a).cps.toList ++ 44 :: ((wr b).cps.toList ++ 32 :: jl 47 (grd mss a b W Hh))) := cB (by
   rw [cw, cw, cw, cw, ej, ao, show (Str.ofString ",").cps.toList = [44] from rfl, show (Str.ofString " ").cps.toList = [32] from rfl]
   simp)
  rw [fin]
  exact q
end
end My
namespace My
open PySem L2 VL
theorem uc (rows : List (List Nat)) (a b : Int) : (rm rows a b).Nodup := by
 unfold rm
 show List.Pairwise _ _
 rw [List.pairwise_flatMap]
 refine ⟨fun y _ => ?_, ?_⟩
 ·unfold gw
  rw [List.pairwise_map]
  refine List.Pairwise.imp (fun {x x'} h e => ?_) (List.Pairwise.filter _ List.pairwise_lt_range)
  have h : x < x' := h
  simp only [List.cons.injEq, and_true] at e
  lia
 ·refine List.Pairwise.imp (fun {y y'} h c hc d hd e => ?_) List.pairwise_lt_range
  have h : y < y' := h
  obtain ⟨x, _, rfl⟩ := jx.mp hc
  obtain ⟨x', _, rfl⟩ := jx.mp hd
  simp only [List.cons.injEq, and_true] at e
  lia
theorem DN {p q : List Int} (h : HT.lexLt p q = true) : p ≠ q := fun e => by
 rw [e, lex_irrefl] at h
 cases h
theorem DO {p q : List Int} (h : HT.lexLt p q = true) : lexLe p q = true := by
 have t := gZ p q
 unfold lexLe at t ⊢
 rw [h] at t
 simpa using t
theorem Be {rows : List (List Nat)} {a b : Int} (hr : rect rows = true) : srt (rm rows a b) = cm (rows.headD []).length rows.length rows a b := by
 have as := n5 (rows.headD []).length rows.length rows a b
 have nd : (cm (rows.headD []).length rows.length rows a b).Nodup := List.Pairwise.imp (fun h => DN h) as
 have p := (List.perm_ext_iff_of_nodup nd (uc rows a b)).mpr fun c => (tZ hr c).symm
 exact (nv p (List.Pairwise.imp (fun h => DO h) as)).symm
def okC (l rest : List Nat) (a b : Int) : Prop := l.length <= 2000 /\ (∀ c ∈ rest, c = 35 \/ c = 46 \/ c = 47) /\ t4 l (prt 47 (mk rest)) a b
theorem ud {l : List Nat} (h0 : l ≠ [45]) : ∃ w0 rest : List Nat, ∃ bl : Str, L2.part3 (mk l) (mk [32]) = [mk w0, bl, mk rest] /\ w0.length <= l.length /\ rest.length <= l.length /\ rest.count 35 <= l.count 35 /\ (isCel w0 = false -> rdP l = none) /\
  ∀ A B, w0 = A ++ 44 :: B -> isNum A = true -> isNum B = true -> (okC l rest (numOf A) (numOf B) -> rdP l = some (srt (rm (prt 47 (mk rest)) (numOf A) (numOf B)))) /\ (¬okC l rest (numOf A) (numOf B) -> rdP l = none) := by
 have hj := dQ 32 (mk l)
 have hf := ju 32 (mk l)
 have hne := jv 32 (mk l)
 rw [ao] at hj
 match e : prt 32 (mk l), hne with
 | [w], _ =>
  rw [e] at hj hf
  obtain rfl : w = l := hj
  have hn : rdP w = none := by unfold rdP; rw [if_neg h0, e]
  refine ⟨w, [], mk [], gW (hf w (by simp)), Nat.le_refl _, Nat.zero_le _, Nat.zero_le _, fun _ => hn, fun A B ew hA hB => ⟨fun c => ?_, fun _ => hn⟩⟩
  obtain ⟨_, _, c, _⟩ := c
  exact absurd (show rm (prt 47 (mk [])) (numOf A) (numOf B) = [] from by rw [show prt 47 (mk []) = [[]] by decide +kernel]; rfl) c
 | [w0, rest], _ =>
  rw [e] at hj hf
  have hj : w0 ++ 32 :: rest = l := hj
  have hn0 : isCel w0 = false -> rdP l = none := fun hc => by unfold rdP; rw [if_neg h0, e]; simp [hc]
  have hs : isCel w0 = true -> rdP l = if okR (prt 47 (mk rest)) (celOf w0).1 (celOf w0).2 = true then some (cm ((prt 47 (mk rest)).headD []).length (prt 47 (mk rest)).length (prt 47 (mk rest)) (celOf w0).1 (celOf w0).2) else none := fun hc => by unfold rdP; rw [if_neg h0, e]; simp [hc]
  refine ⟨w0, rest, mk [32], by rw [<- hj]; exact fc (hf w0 (by simp)), by rw [<- hj, List.length_append]; lia, by rw [<- hj, List.length_append, List.length_cons]; lia, by rw [<- hj, List.count_append, List.count_cons]; lia, hn0, fun A B ew hA hB => ?_⟩
  have nA := eR hA
  have nB := eR hB
  have ep : prt 44 (mk w0) = [A, B] := by rw [ew]; exact tX (ws := [A, B]) (by simp) (by rintro w hw; rcases List.mem_cons.mp hw with rfl | hw; exact nA; rw [List.mem_singleton.mp hw]; exact nB)
  have hc : isCel w0 = true := by unfold isCel; rw [ep]; simp [hA, hB]
  have ec : celOf w0 = (numOf A, numOf B) := by unfold celOf; rw [ep]
  have el : A ++ 44 :: (B ++ 32 :: rest) = l := by rw [<- hj, ew]; simp
  rw [hs hc, ec]
  constructor
  ·rintro ⟨c1, c2, c3⟩
   have ok := A2 hA hB (by rw [el]; exact c3)
   have hr : rect (prt 47 (mk rest)) = true := by
    unfold okR at ok
    simp only [Bool.and_eq_true] at ok
    exact ok.1.1.1.2
   rw [if_pos ok, Be hr]
  ·intro hn
   refine if_neg fun ok => hn ?_
   obtain ⟨d1, d2, d3⟩ := A1 hA hB ok
   rw [el] at d1 d2
   exact ⟨d2, d3, d1⟩
 | w0 :: w1 :: w2 :: ws, _ =>
  rw [e] at hj hf
  have hj : w0 ++ 32 :: (jl 32 (w1 :: w2 :: ws)) = l := hj
  have hn : rdP l = none := by unfold rdP; rw [if_neg h0, e]
  refine ⟨w0, jl 32 (w1 :: w2 :: ws), mk [32], by rw [<- hj]; exact fc (hf w0 (by simp)), by rw [<- hj, List.length_append]; lia, by rw [<- hj, List.length_append, List.length_cons]; lia, by rw [<- hj, List.count_append, List.count_cons]; lia, fun _ => hn, fun A B ew hA hB => ⟨fun c => ?_, fun _ => hn⟩⟩
  have := c.2.1 32 (show 32 ∈ w1 ++ 32 :: jl 32 (w2 :: ws) by simp)
  lia
theorem n6 (rows : List (List Nat)) (a b : Int) : (rm rows a b).length = (rows.map (·.count 35)).sum := by
 have h : ∀ rows : List (List Nat), (rm rows.reverse a b).length = (rows.reverse.map (·.count 35)).sum := fun rows => by
  induction rows with
  | nil => rfl
  | cons r rows ih =>
   rw [List.reverse_cons, lA, List.length_append, ih, List.map_append, List.sum_append, jy]
   simp
 have := h rows.reverse
 rwa [List.reverse_reverse] at this
theorem mV {c d : Nat} (h : c ≠ d) : ∀ ws : List (List Nat), (jl d ws).count c = (ws.map (·.count c)).sum
 | [] => rfl
 | [w] => by simp [jl]
 | w :: v :: r => by
  have ih := mV h (v :: r)
  show (w ++ d :: jl d (v :: r)).count c = _
  rw [List.count_append, List.count_cons, ih, if_neg (by simpa using Ne.symm h), List.map_cons, List.sum_cons]
  rfl
theorem mW : ∀ (ns : List Nat) (k : Nat), (ns.take k).sum <= ns.sum
 | [], _ => by simp
 | _ :: _, 0 => by simp
 | n :: ns, k + 1 => by
  have := mW ns k
  simp only [List.take_succ_cons, List.sum_cons]
  lia
theorem wY (rows : List (List Nat)) (a b : Int) (k : Nat) : (rm (rows.take k) a b).length <= (rm rows a b).length := by
 rw [n6, n6, List.map_take]
 exact mW _ _
def eOP : Option (List (List Int)) -> D
 | none => .non
 | some cs => eL cs
def DP (ds : List D) (R : D -> Prop) : Prop := ∃ l : List Nat, ds = [.str (mk l)] /\ l.length <= 10000 /\ l.count 35 < 64 /\ R (eOP (rdP l))
theorem sl3 (c : Nat) : inS ⟨#[c]⟩ "#./" = decide (c = 35 \/ c = 46 \/ c = 47) := by
 rw [n0, show (Str.ofString "#./").cps.toList = [35, 46, 47] by decide +kernel]
 exact decide_eq_decide.mpr (by simp)
theorem pP {i : Nat} (h : (enD ds)[i]? = some d) : ∃ x, ds[i]? = some x /\ d = .tup [.int i, x] := by
 have hi : i < ds.length := by have := (List.getElem?_eq_some_iff.mp h).1; rwa [f9] at this
 refine ⟨ds[i], List.getElem?_eq_getElem hi, ?_⟩
 rw [nT (List.getElem?_eq_getElem hi)] at h
 exact (Option.some.inj h).symm
theorem jC {α : Type} {l : List α} {i : Nat} {x : α} (h : l[i]? = some x) : l.take (i + 1) = l.take i ++ [x] := by
 rw [List.take_succ, h]; rfl
theorem ey (s : Sl) (r : List Sl) : flatS (s :: r) = (flatS [s] && flatS r) := by cases s <;> simp [flatS]
theorem n8 {v9 v10 v11 v12 : Sl} (h : flatS [v9, v10, v11, v12, .no, .no] = true) : flatS [v9, v10, v11, v12, .val d, .no] = true := by
 rw [ey v9, ey v10, ey v11, ey v12] at h ⊢
 exact h
theorem ez {β : Type} (f : β -> Int) (l : List β) : flats (l.map fun c => D.int (f c)) = true := by
 rw [show (l.map fun c => D.int (f c)) = (l.map f).map D.int by rw [List.map_map]; rfl]
 exact dX _
theorem wZ {β : Type} (f : β -> Int) (l : List β) : (l.map fun c => D.int (f c)) = (l.map f).map D.int := by rw [List.map_map]; rfl
def ab (x : Int) : Int := if x < 0 then -x else x
theorem pQ {x : Int} : ab x < 10 ^ 60 ↔ x.natAbs < 10 ^ 60 := by
 have h : ab x = (x.natAbs : Int) := by unfold ab; split <;> lia
 rw [h, show (10 : Int) ^ 60 = ((10 ^ 60 : Nat) : Int) from (Int.natCast_pow 10 60).symm]
 exact Int.ofNat_lt
def eOi : Option Int -> D
 | none => .non
 | some n => .int n
theorem ue : Enc 0 eOi where
 ty := fun x => by cases x <;> rfl
 lay := fun x => by cases x <;> rfl
 dep := fun x => by cases x <;> exact Nat.le_refl _
 eq := fun x y => by cases x <;> cases y <;> simp [eOi, pd, PyData.eqv]
theorem uf (b : Bool) (n : Int) : eOI b n = eOi (if b = true then some n else none) := by cases b <;> rfl
section
variable {P : Program} {w : World} {K : PySem.W.Frag} {mg : Str -> Option Value} {base : Heap}
theorem Bf (S : Src K mg "_law_picture" gT) (T : Txt mg) (e11_ : Has P w K mg base 2 "_law_number" ["_law_pen_here"] (spI K 0 pO)) (e0_ : Has P w K mg base 1 "_law_draw" ["_law_pen_here", "_law_many"] (spI K 0 pJ)) : Has P w K mg base 3 "_law_picture" ["_law_pen_here"] (spI K 0 DK) := by
 refine oI 0 S cu (by walk_at "1") (fun ns ds R zq1 => by obtain ⟨_, e, _⟩ := zq1; rw [e]; rfl) fun f cdv A outer s H E hr => ⟨_, _, (ai (aE (i := 1) cu.nd rfl (Or.inl rfl) (bN e11_ hr (ae (aa 0 (pv 0)) af)))
  (ai (aE (i := 2) cu.nd rfl (Or.inl rfl) (bN e11_ hr (ae (aa 0 (pv 0)) af)))
  (ai (dY (fun _ h => dR (i := 3) cu.nd rfl (Or.inl rfl) h) (aY (ae (cg (ae (bB (aa 1 (pv 1))) (ae (bB (aa 2 (pv 2))) af))) af)))
  (ai (iT PassesOwn.never rfl (bY rfl T.range (ae (bN e0_ hr (ae (aa 0 (pv 0)) (ae ah af))) af)) (az (aw (i := 4) cu.nd rfl (Or.inl rfl) (Or.inl rfl))) (ai (aE (i := 5) cu.nd rfl (Or.inl rfl) (cg (ae (ak bj aJ (aa 1 (pv 1)) (bN e0_ hr (ae (aa 0 (pv 0)) (ae ah af)))) (ae (ak bj aJ (aa 2 (pv 2)) (bN e0_ hr (ae (aa 0 (pv 0)) (ae ah af)))) af))))
  (ay (bA (aK (qg (K := K) rfl hr.units) xE (aa 5 (pv 5)) (aa 3 (pv 3)) (by with_unfolding_all rfl)) (ay (oG (rA 3 rfl (pv 3) (bB (aa 5 (pv 5)))))) aQ))))
  (ay (aP (aL (lX rfl rfl (by rfl) T.sorted_ jX (ae (aa 3 (pv 3)) af))))))))), ?_⟩
 rintro a pn ds es R hl ⟨b, e, hpn, hb, q⟩
 obtain rfl : ds = [] := List.eq_nil_of_length_eq_zero hl
 obtain rfl : es = [] := e
 walk_at "sl"
 walk_at "rd"
 refine ⟨b, rfl, hpn, by lia, fun x0 pn1 hx0 h1 => ?_⟩
 walk_at "rd"
 refine ⟨_, rfl, h1, by lia, fun y0 pn2 hy0 h2 => ?_⟩
 walk_at "rd"
 refine ⟨b + 8, 12, rfl, h2, by lia, by lia, by lia, fun pn3 r3 h3 r3a r3b => ?_⟩
 walk_at "rd"
 refine oR (fun i S => ∃ pn mss v4 v5, S = [.pen (some a) pn, .val (.int x0), .val (.int y0), .own (mss.map eT), v4, v5] /\ Pn (b + 9 + 2 * i) pn /\ mss.length <= i + 1 /\ [x0, y0] ∈ mss /\ ∀ c ∈ mss, ∃ x y : Int, c = [x, y] /\ x0 <= x /\ x <= x0 + 4 /\ y0 <= y /\ y <= y0 + 4) ⟨pn3, [[x0, y0]], _, _, rfl, h3, by simp, by simp, fun c hc => ⟨x0, y0, List.mem_singleton.mp hc, by lia, by lia, by lia, by lia⟩⟩ ?_ ?_
 ·rintro i S hi ⟨pn, mss, v4, v5, rfl, g1, gl, gm, g3⟩
  have hi' : i < 12 := by lia
  walk_at "rd"
  refine ⟨_, 5, rfl, g1, by lia, by lia, by lia, fun pn7 x g7 xa xb => ?_⟩
  walk_at "rd"
  refine ⟨_, 5, rfl, g7, by lia, by lia, by lia, fun pn8 y g8 ya yb => ?_⟩
  walk_at "rd"
  rw [show D.tup [.int (x0 + x), .int (y0 + y)] = eT [x0 + x, y0 + y] from rfl]
  by_cases hin : [x0 + x, y0 + y] ∈ mss
  ·refine CL d7 hin ?_
   walk_at "rc"
   exact ⟨pn8, mss, _, _, rfl, g8.le (by lia), by lia, gm, g3⟩
  ·refine CK d7 hin ?_
   walk_at "rc"
   refine ⟨pn8, mss ++ [[x0 + x, y0 + y]], _, _, by rw [List.map_append]; rfl, g8.le (by lia), by rw [List.length_append, List.length_singleton]; lia, List.mem_append.mpr (.inl gm), fun c hc => ?_⟩
   rcases List.mem_append.mp hc with hc | hc
   ·exact g3 c hc
   ·exact ⟨x0 + x, y0 + y, List.mem_singleton.mp hc, by lia, by lia, by lia, by lia⟩
 ·rintro S ⟨pn, mss, v4, v5, rfl, g1, gl, gm, g3⟩
  walk_at "rd"
  refine mq (mss := mss) rfl (fun c hc => by obtain ⟨x, y, rfl, _⟩ := g3 c hc; simp) (by lia) ?_
  walk_at "rd"
  have p := lS mss
  refine ⟨_, rfl, q _ _ ⟨by rw [p.length_eq]; lia, x0, y0, p.mem_iff.mpr gm, hx0, hy0, fun c hc => g3 c (p.mem_iff.mp hc)⟩ (g1.le (by lia))⟩
theorem Bg (S : Src K mg "_law_due" hZ) (T : Txt mg) (e8_ : Has P w K mg base 1 "_law_whole_in" ["_law_text_here"] (spP K pWi)) (e2_ : Has P w K mg base 1 "_law_text" ["_law_live"] (spP K ub)) : Has P w K mg base 2 "_law_due" ["_law_text_here"] (spP K DP) := by
 refine cZ S bX (by walk_at "1") (fun ds R zq1 => by obtain ⟨_, e, _⟩ := zq1; rw [e]; rfl) fun f cdv A outer s H E hr => ⟨_, _, (ai (bA (aK dq fU (aa 0 (pv 0)) aB (aH _)) (ay (aP (aL (aY af)))) aQ)
  (ai (fA (iz rfl rfl (aa 0 (pv 0)) aB) (ck (n := 3) rfl rfl (aM (az (aw (i := 1) bX.nd rfl (Or.inl rfl) (Or.inl rfl))) (aM (az (aw (i := 2) bX.nd rfl (Or.inl rfl) (Or.inl rfl))) (aM (az (aw (i := 3) bX.nd rfl (Or.inl rfl) (Or.inl rfl))) bP)))))
  (ai (fA (iz rfl rfl (aa 1 (pv 1)) aB) (ck (n := 3) rfl rfl (aM (az (aw (i := 4) bX.nd rfl (Or.inl rfl) (Or.inl rfl))) (aM (az (aw (i := 5) bX.nd rfl (Or.inl rfl) (Or.inl rfl))) (aM (az (aw (i := 6) bX.nd rfl (Or.inl rfl) (Or.inl rfl))) bP)))))
  (ai (aE (i := 7) bX.nd rfl (Or.inr rfl) (aL (aY (ae (bD e8_ hr (ae (aa 4 (pv 4)) af)) (ae (bD e8_ hr (ae (aa 6 (pv 6)) af)) af)))))
  (ai (bA (dt (cH (aK (zz (K := K) rfl hr.units) xE cL (aa 7 (pv 7)) (by with_unfolding_all rfl)) (cH (aK fh aJ (au bq d9 (by rfl) T.len_ bH (ae (aa 0 (pv 0)) af)) ah (aH _)) (cW (aK (tD rfl hr.units) yi (aL (bf (tg := ["_law_sign"]) (cs := []) (ix := []) (aI (aj hZ) ["_law_text_here", "_law_corner", "_law_blank", "_law_rows", "_law_left", "_law_comma", "_law_top", "_law_numbers", "_law_cells", "_law_y", "_law_row", "_law_x", "_law_sign", "_law_far", "_law_apart"] (by decide +kernel)) rfl (aN (by decide)) (by decide) (jh (aa 3 (pv 3))) (fun _ _ _ _ => (az (aw (i := 0) (show (["_law_sign"] : List Str).Nodup by decide +kernel) rfl (Or.inl rfl) (by first | exact Or.inl rfl | exact Or.inr rfl)))) (fun _ _ _ _ => (iw (aK fJ mH (aa 0 (pv 0)) aB (by with_unfolding_all rfl)))) (fun _ _ _ _ => (bB (aa 0 (pv 0)))))) (aL (aY af)) (aH _)))))) (ay (aP cL)) aQ)
  (ai (dY (fun _ h => dR (i := 8) bX.nd rfl (Or.inl rfl) h) (aY af))
  (ai (iT PassesOwn.never rfl (vP rfl (by rfl) T.enumerate_ (ae (aL (dh rfl rfl (aa 3 (pv 3)) aB)) af)) (ck (n := 2) rfl rfl (aM (az (aw (i := 9) bX.nd rfl (Or.inl rfl) (Or.inl rfl))) (aM (az (aw (i := 10) bX.nd rfl (Or.inl rfl) (Or.inl rfl))) bP))) (ay (iT PassesOwn.never rfl (tL (by rfl) T.enumerate_ (ae (aa 10 (pv 10)) af)) (ck (n := 2) rfl rfl (aM (az (aw (i := 11) bX.nd rfl (Or.inl rfl) (Or.inl rfl))) (aM (az (aw (i := 12) bX.nd rfl (Or.inl rfl) (Or.inl rfl))) bP))) (ay (bA (aK dq fU (aa 12 (pv 12)) aB (aH _)) (ay (oG (rA 8 rfl (pv 8) (cg (ae (ak bj aJ (aO rfl (aa 7 (pv 7)) ah (fun _ _ => rfl)) (aa 11 (pv 11))) (ae (ak bj aJ (aO rfl (aa 7 (pv 7)) ah (fun _ _ => rfl)) (aa 9 (pv 9))) af)))))) aQ)))))
  (ai (aE (i := 13) bX.nd rfl (Or.inl rfl) (aL (o9 (eZ 8 (bf (tg := ["_law_one"]) (cs := []) (ix := []) (aI (aj hZ) ["_law_text_here", "_law_corner", "_law_blank", "_law_rows", "_law_left", "_law_comma", "_law_top", "_law_numbers", "_law_cells", "_law_y", "_law_row", "_law_x", "_law_sign", "_law_far", "_law_apart"] (by decide +kernel)) rfl (aN (by decide)) (by decide) (bI rfl (aa 8 (pv 8))) (fun _ _ _ _ => (az (aw (i := 0) (show (["_law_one"] : List Str).Nodup by decide +kernel) rfl (Or.inl rfl) (by first | exact Or.inl rfl | exact Or.inr rfl)))) (fun _ _ _ _ => ba) (fun _ _ _ _ => (au fH oF (by rfl) T.abs_ ku (ae (aO rfl (aa 0 (pv 0)) ah (fun _ _ => rfl)) af))))) (eZ 8 (bf (tg := ["_law_one"]) (cs := []) (ix := []) (aI (aj hZ) ["_law_text_here", "_law_corner", "_law_blank", "_law_rows", "_law_left", "_law_comma", "_law_top", "_law_numbers", "_law_cells", "_law_y", "_law_row", "_law_x", "_law_sign", "_law_far", "_law_apart"] (by decide +kernel)) rfl (aN (by decide)) (by decide) (bI rfl (aa 8 (pv 8))) (fun _ _ _ _ => (az (aw (i := 0) (show (["_law_one"] : List Str).Nodup by decide +kernel) rfl (Or.inl rfl) (by first | exact Or.inl rfl | exact Or.inr rfl)))) (fun _ _ _ _ => ba) (fun _ _ _ _ => (au fH oF (by rfl) T.abs_ ku (ae (aO rfl (aa 0 (pv 0)) ah (fun _ _ => rfl)) af))))))))
  (ai (aE (i := 14) bX.nd rfl (Or.inl rfl) (aL (o9 (eZ 8 (bf (tg := ["_law_one"]) (cs := ["_law_numbers"]) (ix := [7]) (aI (aj hZ) ["_law_text_here", "_law_corner", "_law_blank", "_law_rows", "_law_left", "_law_comma", "_law_top", "_law_numbers", "_law_cells", "_law_y", "_law_row", "_law_x", "_law_sign", "_law_far", "_law_apart"] (by decide +kernel)) rfl (aN (by decide)) (by decide) (bI rfl (aa 8 (pv 8))) (fun _ _ _ _ => (az (aw (i := 0) (show (["_law_one", "_law_numbers"] : List Str).Nodup by decide +kernel) rfl (Or.inl rfl) (by first | exact Or.inl rfl | exact Or.inr rfl)))) (fun _ _ _ _ => ba) (fun _ _ _ _ => (ak bZ aJ (aO rfl (aa 0 (pv 0)) ah (fun _ _ => rfl)) (aO rfl (aa 1 (pv 1)) ah (fun _ _ => rfl)))))) (eZ 8 (bf (tg := ["_law_one"]) (cs := ["_law_numbers"]) (ix := [7]) (aI (aj hZ) ["_law_text_here", "_law_corner", "_law_blank", "_law_rows", "_law_left", "_law_comma", "_law_top", "_law_numbers", "_law_cells", "_law_y", "_law_row", "_law_x", "_law_sign", "_law_far", "_law_apart"] (by decide +kernel)) rfl (aN (by decide)) (by decide) (bI rfl (aa 8 (pv 8))) (fun _ _ _ _ => (az (aw (i := 0) (show (["_law_one", "_law_numbers"] : List Str).Nodup by decide +kernel) rfl (Or.inl rfl) (by first | exact Or.inl rfl | exact Or.inr rfl)))) (fun _ _ _ _ => ba) (fun _ _ _ _ => (ak bZ aJ (aO rfl (aa 0 (pv 0)) ah (fun _ _ => rfl)) (aO rfl (aa 1 (pv 1)) ah (fun _ _ => rfl)))))))))
  (ai (bA (dt (cH (aK (rF (K := K) rfl hr.units) oJ (aa 8 (pv 8)) (aL (aY af)) (aH _)) (cH (aK xo aJ (au (gN (K := K) rfl rfl) dA (by rfl) T.max_ gL (ae (aa 13 (pv 13)) af)) (ak fv b8 ah ah) (aH _)) (cH (aK fh aJ (au (gN (K := K) rfl rfl) dA (by rfl) T.max_ gL (ae (aa 14 (pv 14)) af)) ah (aH _)) (cW (aK gY lU (bD e2_ hr (ae (aa 8 (pv 8)) af)) (aa 0 (pv 0)) (aH _))))))) (ay (aP cL)) aQ)
  (ay (aP (aL (lX rfl rfl (by rfl) T.sorted_ jX (ae (aa 8 (pv 8)) af))))))))))))))), ?_⟩
 rintro ds R ⟨l, rfl, hl, hc35, q⟩
 have hsz : (mk l).length <= sizeLine := by rw [aD]; exact aW (by lia)
 walk_at "sl"
 walk_at "rd"
 by_cases h0 : l = [45]
 ·subst h0
  rw [show decide (mk [45] = Str.ofString "-") = true from decide_eq_true rfl]
  walk_at "rc"
  exact q
 rw [show decide (mk l = Str.ofString "-") = false from decide_eq_false fun z => h0 (mk_inj.mp (z.trans (show Str.ofString "-" = mk [45] from rfl)))]
 obtain ⟨w0, rest, bl, hp, lw, lr, cr, hn, hsp⟩ := ud h0
 walk_at "rc"
 refine gn rfl hsz hp ?_
 walk_at "rc"
 have hs0 : (mk w0).length <= sizeLine := by rw [aD]; exact aW (by lia)
 obtain ⟨A, cmm, B, hp2, la, lb, hAB⟩ : ∃ A : List Nat, ∃ cmm : Str, ∃ B : List Nat, L2.part3 (mk w0) (mk [44]) = [mk A, cmm, mk B] /\ A.length <= w0.length /\ B.length <= w0.length /\ ((isNum A && isNum B) = false -> rdP l = none) /\ ((isNum A && isNum B) = true -> w0 = A ++ 44 :: B) := by
  rcases comma w0 with ⟨h1, h2⟩ | ⟨A, B, h1, h2, h3, h4⟩
  ·exact ⟨w0, mk [], [], h1, Nat.le_refl _, Nat.zero_le _, fun _ => hn h2, fun z => by rw [show isNum [] = false from rfl, Bool.and_false] at z; cases z⟩
  ·exact ⟨A, mk [44], B, h3, by rw [h1, List.length_append]; lia, by rw [h1, List.length_append, List.length_cons]; lia, fun z => hn (h4.trans z), fun _ => h1⟩
 refine gn rfl hs0 hp2 ?_
 walk_at "rc"
 refine ⟨A, rfl, by lia, ?_⟩
 walk_at "rc"
 refine ⟨B, rfl, by lia, ?_⟩
 rw [uf, uf]
 walk_at "rc"
 have qn : rdP l = none -> R .non := fun e => by rw [e] at q; exact q
 change mj false (eOi none) (.lst ([if isNum A = true then some (numOf A) else none, if isNum B = true then some (numOf B) else none].map eOi)) _
 cases hab : isNum A && isNum B with
 | false =>
  refine CI ue (by cases hA : isNum A <;> cases hB : isNum B <;> simp_all) ?_
  walk_at "rc"
  exact qn (hAB.1 hab)
 | true =>
  have ew := hAB.2 hab
  rw [Bool.and_eq_true] at hab
  obtain ⟨hA, hB⟩ := hab
  obtain ⟨hy1, hy2⟩ := hsp A B ew hA hB
  rw [hA, hB, if_pos rfl, if_pos rfl]
  refine CJ ue (by simp) ?_
  walk_at "rc"
  refine eg hsz ?_
  rw [aD]
  walk_at "rc"
  by_cases hlen : l.length <= 2000
  case neg =>
   rw [show decide ((2000 : Int) < (l.length : Int)) = true from decide_eq_true (by lia)]
   walk_at "rc"
   exact qn (hy2 fun c => hlen c.1)
  rw [show decide ((2000 : Int) < (l.length : Int)) = false from decide_eq_false (by lia)]
  walk_at "rc"
  rw [jz]
  refine eO (xs := rest) (f := fun c => D.str ⟨#[c]⟩) (p := fun c => !decide (c = 35 \/ c = 46 \/ c = 47)) (by lia) (fun c hc A B hA hB => ?_) ?_
  ·dsimp only [bp, List.replicate, List.map_cons, List.map_nil, List.cons_append, List.nil_append]
   walk_at "rd"
   refine mM (sl3 c) ?_
   cases hd : decide (c = 35 \/ c = 46 \/ c = 47) with
   | true =>
    walk_at "rc"
    exact hB _ rfl (by rw [hd]; rfl)
   | false =>
    rw [show (!false) = true from rfl]
    walk_at "rc"
    exact hA _ rfl (by rw [hd]; rfl)
  walk_at "rc"
  by_cases hsg : ∀ c ∈ rest, c = 35 \/ c = 46 \/ c = 47
  case neg =>
   have hne : ((rest.filter fun c => !decide (c = 35 \/ c = 46 \/ c = 47)).map fun c => D.str (⟨#[c]⟩ : Str)).isEmpty = false := by
    rw [List.isEmpty_eq_false_iff]
    intro z
    rw [List.map_eq_nil_iff, List.filter_eq_nil_iff] at z
    exact hsg fun c hc => by have := z c hc; simpa only [Bool.not_eq_true, Bool.not_eq_false', decide_eq_true_eq] using this
   rw [hne]
   walk_at "rc"
   exact qn (hy2 fun c => hsg c.2.1)
  have hne : ((rest.filter fun c => !decide (c = 35 \/ c = 46 \/ c = 47)).map fun c => D.str (⟨#[c]⟩ : Str)).isEmpty = true := by
   rw [List.isEmpty_iff, List.map_eq_nil_iff, List.filter_eq_nil_iff]
   intro c hc
   rw [decide_eq_true (hsg c hc)]
   decide
  rw [hne]
  walk_at "rc"
  have hyr := eu 47 (z := mk rest) (n := 10000) (by rw [aD]; lia)
  refine fE (ws := (prt 47 (mk rest)).map mk) (by rw [aD]; exact aW (by lia)) rfl (cJ 47 (mk rest)) (by rw [List.length_map]; exact aW (by lia)) ?_
  rw [lH]
  walk_at "rc"
  unfold okC at hy1 hy2
  have hcnt2 : (rm (prt 47 (mk rest)) (numOf A) (numOf B)).length < 64 := by
   have hj := dQ 47 (mk rest)
   rw [ao] at hj
   rw [n6, <- mV (show 35 ≠ 47 by decide), hj]
   lia
  generalize prt 47 (mk rest) = rows at *
  generalize numOf A = a at *
  generalize numOf B = b at *
  refine rV (fun k S => ∃ v9 v10 v11 v12, S = [.val (.str (mk l)), .val (.str (mk w0)), .val (.str bl), .val (.str (mk rest)), .val (.str (mk A)), .val (.str cmm), .val (.str (mk B)), .val (.lst [.int a, .int b]), .own ((rm (rows.take k) a b).map eT), v9, v10, v11, v12, .no, .no] /\ flatS [v9, v10, v11, v12, .no, .no] = true) ⟨_, _, _, _, rfl, rfl⟩ ?_ ?_
  ·rintro k d S2 e ⟨v9, v10, v11, v12, rfl, hfl⟩
   have hf2 : flatS [v11, v12, .no, .no] = true := de (de hfl)
   obtain ⟨x, hx, rfl⟩ := pP e
   unfold wS at hx
   rw [List.getElem?_map] at hx
   cases hk : rows[k]? with
   | none => rw [hk] at hx; cases hx
   | some r =>
    rw [hk] at hx
    obtain rfl := Option.some.inj hx
    have ht := jC hk
    have hkl := (List.getElem?_eq_some_iff.mp hk).1
    have hkk : (rows.take k).length = k := by rw [List.length_take]; lia
    have hle := wY rows a b (k + 1)
    rw [ht, lA, List.length_append, hkk, jy] at hle
    walk_at "rd"
    rw [show sgD (mk r) = r.map fun c => D.str ⟨#[c]⟩ by unfold sgD; rw [ao]]
    refine rV (fun m S => ∃ v11 v12, S = [.val (.str (mk l)), .val (.str (mk w0)), .val (.str bl), .val (.str (mk rest)), .val (.str (mk A)), .val (.str cmm), .val (.str (mk B)), .val (.lst [.int a, .int b]), .own ((rm (rows.take k) a b ++ gw a b k (r.take m)).map eT), .val (.int k), .val (.str (mk r)), v11, v12, .no, .no] /\ flatS [v11, v12, .no, .no] = true) ⟨_, _, by rw [show gw a b k (r.take 0) = [] from rfl, List.append_nil], hf2⟩ ?_ ?_
    ·rintro m d S3 e' ⟨v11, v12, rfl, hf3⟩
     obtain ⟨x, hx, rfl⟩ := pP e'
     rw [List.getElem?_map] at hx
     cases hm : r[m]? with
     | none => rw [hm] at hx; cases hx
     | some c =>
      rw [hm] at hx
      obtain rfl := Option.some.inj hx
      have htm := jC hm
      have hml := (List.getElem?_eq_some_iff.mp hm).1
      have hmm : (r.take m).length = m := by rw [List.length_take]; lia
      have hcr : (r.take m).count 35 <= r.count 35 := List.Sublist.count_le _ (List.take_sublist _ _)
      walk_at "rd"
      have ec : decide ((⟨#[c]⟩ : Str) = Str.ofString "#") = decide (c = 35) := decide_eq_decide.mpr ⟨fun z => by have := congrArg (fun s : Str => s.cps.toList) (z.trans (show Str.ofString "#" = ⟨#[35]⟩ from rfl)); simpa using this, fun z => by rw [z]; rfl⟩
      rw [ec]
      by_cases h35 : c = 35
      ·rw [decide_eq_true h35]
       walk_at "rc"
       refine rT (ds := (rm (rows.take k) a b ++ gw a b k (r.take m)).map eT) rfl (by rw [List.length_map, List.length_append, jy]; lia) ?_
       walk_at "rc"
       exact ⟨_, _, (by rw [htm, gV, if_pos h35, <- List.append_assoc, List.map_append (l₁ := rm (rows.take k) a b ++ gw a b k (r.take m)), hmm]; rfl), rfl⟩
      ·rw [decide_eq_false h35]
       walk_at "rc"
       exact ⟨_, _, by rw [htm, gV, if_neg h35, List.append_nil], rfl⟩
    ·rintro S3 ⟨v11, v12, rfl, hf3⟩
     rw [f9, List.length_map, List.take_length]
     exact ⟨_, _, _, _, by rw [ht, lA, hkk], hf3⟩
  ·rintro S2 ⟨v9, v10, v11, v12, rfl, hfl⟩
   rw [f9, lF, List.take_length]
   have flO : FlS [.val (.str (mk l)), .val (.str (mk w0)), .val (.str bl), .val (.str (mk rest)), .val (.str (mk A)), .val (.str cmm), .val (.str (mk B)), .val (.lst [.int a, .int b]), .own ((rm rows a b).map eT), v9, v10, v11, v12, .no, .no] := mw (by show (flats _ && flatS [v9, v10, v11, v12, .no, .no]) = true; rw [eK, hfl]; rfl)
   have hpr : ∀ c ∈ rm rows a b, Pr c := DC
   walk_at "rd"
   refine fZ rfl flO ?_
   dsimp only [List.set_cons_zero, List.set_cons_succ]
   walk_at "rd"
   refine comp_map (xs := rm rows a b) (en := eT) (f := fun c => .int (ab (fs c))) (by lia) (fun c hc A B hA => ?_) ?_
   ·obtain ⟨x, y, rfl⟩ := hpr c hc
    dsimp only [bp, List.replicate, List.map_cons, List.map_nil, List.cons_append, List.nil_append]
    walk_at "rd"
    exact hA _ rfl
   refine ⟨ez _ _, rfl, ?_⟩
   walk_at "rd"
   refine fZ rfl flO ?_
   dsimp only [List.set_cons_zero, List.set_cons_succ]
   walk_at "rd"
   refine comp_map (xs := rm rows a b) (en := eT) (f := fun c => .int (ab (sn c))) (by lia) (fun c hc A B hA => ?_) ?_
   ·obtain ⟨x, y, rfl⟩ := hpr c hc
    dsimp only [bp, List.replicate, List.map_cons, List.map_nil, List.cons_append, List.nil_append]
    walk_at "rd"
    exact hA _ rfl
   refine ⟨ez _ _, rfl, ?_⟩
   walk_at "rd"
   refine x5 (by rw [List.length_map, List.length_map]; lia) ?_
   rw [wZ (fun c => ab (fs c)), wZ (fun c => ab (sn c)), <- List.map_append]
   generalize hfar : (rm rows a b).map (fun c => ab (fs c)) ++ (rm rows a b).map (fun c => ab (sn c)) = far
   walk_at "rd"
   have flO2 : FlS [.val (.str (mk l)), .val (.str (mk w0)), .val (.str bl), .val (.str (mk rest)), .val (.str (mk A)), .val (.str cmm), .val (.str (mk B)), .val (.lst [.int a, .int b]), .own ((rm rows a b).map eT), v9, v10, v11, v12, .val (.lst (far.map .int)), .no] := mw (by show (flats _ && flatS [v9, v10, v11, v12, .val _, .no]) = true; rw [eK, n8 hfl]; rfl)
   refine fZ rfl flO2 ?_
   dsimp only [List.set_cons_zero, List.set_cons_succ]
   walk_at "rd"
   refine comp_map (xs := rm rows a b) (en := eT) (f := fun c => .int (fs c - a)) (by lia) (fun c hc A B hA => ?_) ?_
   ·obtain ⟨x, y, rfl⟩ := hpr c hc
    dsimp only [bp, List.replicate, List.map_cons, List.map_nil, List.cons_append, List.nil_append]
    walk_at "rd"
    exact hA _ rfl
   refine ⟨ez _ _, rfl, ?_⟩
   walk_at "rd"
   refine fZ rfl flO2 ?_
   dsimp only [List.set_cons_zero, List.set_cons_succ]
   walk_at "rd"
   refine comp_map (xs := rm rows a b) (en := eT) (f := fun c => .int (sn c - b)) (by lia) (fun c hc A B hA => ?_) ?_
   ·obtain ⟨x, y, rfl⟩ := hpr c hc
    dsimp only [bp, List.replicate, List.map_cons, List.map_nil, List.cons_append, List.nil_append]
    walk_at "rd"
    exact hA _ rfl
   refine ⟨ez _ _, rfl, ?_⟩
   walk_at "rd"
   refine x5 (by rw [List.length_map, List.length_map]; lia) ?_
   rw [wZ (fun c => fs c - a), wZ (fun c => sn c - b), <- List.map_append]
   generalize hapt : (rm rows a b).map (fun c => fs c - a) ++ (rm rows a b).map (fun c => sn c - b) = apt
   walk_at "rd"
   change iX false (eL (rm rows a b)) (eL []) _
   by_cases hem : rm rows a b = []
   ·refine xS nK hem ?_
    walk_at "rc"
    exact qn (hy2 fun c => c.2.2.1 hem)
   refine CM nK hem ?_
   have nf : far ≠ [] := by rw [<- hfar]; simpa using hem
   have na : apt ≠ [] := by rw [<- hapt]; simpa using hem
   walk_at "rc"
   refine dB nf fun M1 m1 m2 => ?_
   walk_at "rd"
   rw [show (10 : Int) ^ Int.toNat 60 = 10 ^ 60 from rfl]
   have hfB : M1 < 10 ^ 60 ↔ ∀ c ∈ rm rows a b, inB c = true := by
    constructor
    ·intro hM c hc
     have u1 := m2 (ab (fs c)) (by rw [<- hfar]; exact List.mem_append.mpr (.inl (List.mem_map.mpr ⟨c, hc, rfl⟩)))
     have u2 := m2 (ab (sn c)) (by rw [<- hfar]; exact List.mem_append.mpr (.inr (List.mem_map.mpr ⟨c, hc, rfl⟩)))
     unfold inB
     rw [Bool.and_eq_true, decide_eq_true_eq, decide_eq_true_eq]
     exact ⟨pQ.mp (Int.lt_of_le_of_lt u1 hM), pQ.mp (Int.lt_of_le_of_lt u2 hM)⟩
    ·intro hall
     rw [<- hfar] at m1
     rcases List.mem_append.mp m1 with z | z
     ·obtain ⟨c, hc, rfl⟩ := List.mem_map.mp z
      have := hall c hc
      unfold inB at this
      rw [Bool.and_eq_true, decide_eq_true_eq, decide_eq_true_eq] at this
      exact pQ.mpr this.1
     ·obtain ⟨c, hc, rfl⟩ := List.mem_map.mp z
      have := hall c hc
      unfold inB at this
      rw [Bool.and_eq_true, decide_eq_true_eq, decide_eq_true_eq] at this
      exact pQ.mpr this.2
   by_cases hM1 : M1 < 10 ^ 60
   case neg =>
    rw [show decide ((10 : Int) ^ 60 <= M1) = true from decide_eq_true (Int.not_lt.mp hM1)]
    walk_at "rc"
    exact qn (hy2 fun c => hM1 (hfB.mpr c.2.2.2.1))
   rw [show decide ((10 : Int) ^ 60 <= M1) = false from decide_eq_false (Int.not_le.mpr hM1)]
   have hin := hfB.mp hM1
   walk_at "rc"
   refine dB na fun M2 m3 m4 => ?_
   walk_at "rd"
   have hap : M2 <= 39 ↔ ∀ c ∈ rm rows a b, fs c - a <= 39 /\ sn c - b <= 39 := by
    constructor
    ·intro hM c hc
     have u1 := m4 (fs c - a) (by rw [<- hapt]; exact List.mem_append.mpr (.inl (List.mem_map.mpr ⟨c, hc, rfl⟩)))
     have u2 := m4 (sn c - b) (by rw [<- hapt]; exact List.mem_append.mpr (.inr (List.mem_map.mpr ⟨c, hc, rfl⟩)))
     exact ⟨by lia, by lia⟩
    ·intro hall
     rw [<- hapt] at m3
     rcases List.mem_append.mp m3 with z | z
     ·obtain ⟨c, hc, rfl⟩ := List.mem_map.mp z
      exact (hall c hc).1
     ·obtain ⟨c, hc, rfl⟩ := List.mem_map.mp z
      exact (hall c hc).2
   by_cases hM2 : M2 <= 39
   case neg =>
    rw [show decide ((39 : Int) < M2) = true from decide_eq_true (by lia)]
    walk_at "rc"
    exact qn (hy2 fun c => hM2 (hap.mpr c.2.2.2.2.1))
   rw [show decide ((39 : Int) < M2) = false from decide_eq_false (by lia)]
   have hap := hap.mp hM2
   walk_at "rc"
   have ge : ∀ c ∈ rm rows a b, a <= fs c /\ b <= sn c := fun c hc => by
    obtain ⟨x, y, _, _, rfl⟩ := lz.mp hc
    show a <= a + (x : Int) /\ b <= b + (y : Int)
    lia
   have n1 : (rm rows a b).map fs ≠ [] := by simpa using hem
   have n2 : (rm rows a b).map sn ≠ [] := by simpa using hem
   refine ⟨rm rows a b, rfl, ⟨hpr, by lia⟩, hem, hin, ?_, ?_, ?_⟩
   ·obtain ⟨c1, k1, e1⟩ := List.mem_map.mp (e9 n1)
    obtain ⟨c2, k2, e2⟩ := List.mem_map.mp (bC n1)
    have := (hap c1 k1).1
    have := (ge c2 k2).1
    lia
   ·obtain ⟨c1, k1, e1⟩ := List.mem_map.mp (e9 n2)
    obtain ⟨c2, k2, e2⟩ := List.mem_map.mp (bC n2)
    have := (hap c1 k1).2
    have := (ge c2 k2).2
    lia
   walk_at "rd"
   by_cases htx : txt (rm rows a b) = l
   ·rw [show decide (mk (txt (rm rows a b)) = mk l) = true from decide_eq_true (by rw [htx])]
    walk_at "rc"
    refine mq (mss := rm rows a b) rfl (fun c hc => by obtain ⟨x, y, rfl⟩ := hpr c hc; simp) hcnt2 ?_
    walk_at "rc"
    rw [hy1 ⟨hlen, hsg, hem, hin, hap, htx⟩] at q
    exact q
   ·rw [show decide (mk (txt (rm rows a b)) = mk l) = false from decide_eq_false fun z => htx (mk_inj.mp z)]
    walk_at "rc"
    exact qn (hy2 fun c => htx c.2.2.2.2.2)
end
end My
namespace My
open PySem L2 VL
def Sm (n c : Nat) (y : Str) : Prop := y.length <= n /\ y.cps.toList.count 35 <= c
theorem pR {y : Str} {n : Nat} (h : y.length <= n) : Sm n n y := ⟨h, by
 refine Nat.le_trans List.count_le_length ?_
 rw [Array.length_toList]
 exact h⟩
theorem ug {n c : Nat} {z : Str} {l : List Nat} (h : Sm n c z) (hs : l.Sublist z.cps.toList) : Sm n c (mk l) := by
 refine ⟨?_, ?_⟩
 ·rw [aD]
  refine Nat.le_trans hs.length_le ?_
  rw [Array.length_toList]
  exact h.1
 ·rw [ao]
  exact Nat.le_trans (hs.count_le 35) h.2
theorem mX {n c : Nat} {z : Str} {i : Int} {Q : VR -> List Sl -> Prop} (hz : Sm n c z) (hn : n <= 1000) (h0 : 0 <= i) (h1 : i <= (z.length : Int)) (h : ∀ y : Str, Sm n c y -> Q (.d (.str y)) S) : nV z none Q (some i) S := by
 have e := PyProof.Rows.slice_closes_to (x := z) (j := i) ⟨h0, by rw [Array.length_toList]; exact h1⟩
 have e := eq_of_beq e
 refine kR (aW (Nat.le_trans hz.1 (by lia))) e (h _ (ug hz ?_))
 exact (List.take_sublist _ _).trans (List.drop_sublist _ _)
theorem w6 (z : Str) : Txt.slice z (some ((z.length : Int) + 1)) none = Txt.slice z (some (z.length : Int)) none := by
 have e : Builtin.Str.strSliceIndices (some ((z.length : Int) + 1)) none 1 z.length = Builtin.Str.strSliceIndices (some (z.length : Int)) none 1 z.length := by
  unfold Builtin.Str.strSliceIndices
  have a : ¬ ((z.length : Int) + 1 < 0) := by lia
  have b : ¬ ((z.length : Int) < 0) := by lia
  simp only [a, b, if_false]
  congr 1
  show (if (1:Int) > 0 then _ else _) = (if (1:Int) > 0 then _ else _)
  rw [if_pos (by decide), if_pos (by decide)]
  lia
 unfold Txt.slice
 rw [e]
theorem mY {n c : Nat} {z : Str} {i : Int} {Q : VR -> List Sl -> Prop} (hz : Sm n c z) (hn : n <= 1000) (h0 : 0 <= i) (h1 : i <= (z.length : Int) + 1) (h : ∀ y : Str, Sm n c y -> Q (.d (.str y)) S) : nV z (some i) Q none S := by
 have key : ∀ j : Int, 0 <= j -> j <= (z.length : Int) -> Txt.slice z (some i) none = Txt.slice z (some j) none -> nV z (some i) Q none S := fun j j0 j1 ej => by
  have e := PyProof.Rows.slice_closes_from (x := z) (i := j) ⟨j0, by rw [Array.length_toList]; exact j1⟩
  have e := eq_of_beq e
  refine kR (aW (Nat.le_trans hz.1 (by lia))) (ej.trans e) (h _ (ug hz ?_))
  exact (List.take_sublist _ _).trans (List.drop_sublist _ _)
 by_cases hi : i = (z.length : Int) + 1
 ·subst hi
  exact key _ (by lia) (Int.le_refl _) (w6 z)
 ·exact key i h0 (by lia) rfl
theorem aV {x y : Str} {n m c d : Nat} (hx : Sm n c x) (hy : Sm m d y) (hn : n + m <= 1000) (h : ∀ w : Str, Sm (n + m) (c + d) w -> q (.str w)) : sR (.str x) (.str y) q := by
 have h1 := hx.1
 have h2 := hy.1
 have h3 := hx.2
 have h4 := hy.2
 refine ji (aW (by lia)) (h _ ⟨by show (x.cps ++ y.cps).size <= _; rw [Array.size_append]; exact Nat.add_le_add h1 h2, ?_⟩)
 rw [cw, List.count_append]
 lia
theorem gX {z : Str} {k n : Nat} (h2 : z.length = 1) (h3 : k <= n) (hn : n <= 1000) (h : ∀ y : Str, Sm n n y -> q (.str y)) : mQ (.str z) (.int k) q :=
 AY h2 (by lia) fun y hy => h y (pR (by lia))
theorem uh (c : Nat) (G : List Nat) : ∃ (a : List Nat) (b r : Str), L2.part3 (mk G) (mk [c]) = [mk a, b, r] /\ a.length <= G.length := by
 by_cases h : c ∈ G
 ·obtain ⟨s, t, e, hs⟩ := List.eq_append_cons_of_mem h
  exact ⟨s, mk [c], mk t, by rw [e]; exact fc hs, by rw [e, List.length_append]; lia⟩
 ·exact ⟨G, mk [], mk [], gW h, Nat.le_refl _⟩
theorem ui (k : Nat) (x : Str) : (List.replicate k [D.str x]).flatten = (List.replicate k x).map D.str := by
 induction k with
 | zero => rfl
 | succ k ih => rw [List.replicate_succ, List.flatten_cons, ih, List.replicate_succ]; rfl
theorem w9 : ∀ k : Nat, 40 <= k -> k <= 42 -> Sm 90 42 (Txt.join (Str.ofString "/") (List.replicate k (Str.ofString "#"))) := by
 intro k h1 h2
 have : k = 40 \/ k = 41 \/ k = 42 := by lia
 rcases this with rfl | rfl | rfl <;> unfold Sm <;> decide +kernel
theorem xf : ∀ k : Nat, 40 <= k -> k <= 42 -> JoinOk (Str.ofString "/") (List.replicate k (Str.ofString "#")) = true := by
 intro k h1 h2
 have : k = 40 \/ k = 41 \/ k = 42 := by lia
 rcases this with rfl | rfl | rfl <;> exact PyProof.Rows.joinOk_of (by decide +kernel)
theorem xg : ∀ n : Nat, n < 19 -> ∃ c, atI (Str.ofString " -,./#0123456789+a_").cps.toList (n : Int) = some c := fun n h => ⟨(Str.ofString " -,./#0123456789+a_").cps.toList.getD n 0, by revert n; decide⟩
def Tx (l : List Nat) : Prop := ∃ C G : List Nat, l = C ++ 32 :: G /\ 32 ∉ C /\ C.count 35 = 0 /\ C.length <= 150 /\ G.length <= 30
def pSp : List Int -> List D -> (D -> List Int -> Prop) -> Prop := fun pn ds R => ∃ (b : Nat) (l : List Nat), ds = [.str (mk l)] /\ Tx l /\ Pn b pn /\ b <= 1000 /\ ∀ (y : List Nat) pn', y.length <= 1000 -> y.count 35 < 64 -> Pn (b + 10) pn' -> R (.str (mk y)) pn'
section
variable {P : Program} {w : World} {K : PySem.W.Frag} {mg : Str -> Option Value} {base : Heap}
theorem qw (S : Src K mg "_law_spoilt" jt) (T : Txt mg) (e0_ : Has P w K mg base 1 "_law_draw" ["_law_pen_here", "_law_many"] (spI K 0 pJ)) : Has P w K mg base 2 "_law_spoilt" ["_law_pen_here", "_law_text_here"] (spI K 0 pSp) := by
 refine oI 0 S bg (by walk_at "2") (fun ns ds R zq1 => by obtain ⟨_, _, e, _⟩ := zq1; rw [e]; rfl) fun f cdv A outer s H E hr => ⟨_, _, (ai (aE (i := 2) bg.nd rfl (Or.inl rfl) (bN e0_ hr (ae (aa 0 (pv 0)) (ae ah af))))
  (ai (aE (i := 3) bg.nd rfl (Or.inl rfl) (bN e0_ hr (ae (aa 0 (pv 0)) (ae (ak bj aJ (au bq d9 (by rfl) T.len_ bH (ae (aa 1 (pv 1)) af)) ah) af))))
  (ai (aE (i := 4) bg.nd rfl (Or.inl rfl) (kO rfl aB (bN e0_ hr (ae (aa 0 (pv 0)) (ae ah af))) (fun _ _ => rfl)))
  (ai (fA (iz rfl rfl (aa 1 (pv 1)) aB) (ck (n := 3) rfl rfl (aM (az (aw (i := 5) bg.nd rfl (Or.inl rfl) (Or.inl rfl))) (aM (az (aw (i := 6) bg.nd rfl (Or.inl rfl) (Or.inl rfl))) (aM (az (aw (i := 7) bg.nd rfl (Or.inl rfl) (Or.inl rfl))) bP)))))
  (ai (aE (i := 8) bg.nd rfl (Or.inl rfl) (ak e7 gS aB (au bq d9 (by rfl) T.len_ bH (ae (aO rfl (iz rfl rfl (aa 7 (pv 7)) aB) ah (fun _ _ => rfl)) af))))
  (ai (aE (i := 9) bg.nd rfl (Or.inl rfl) (aL (aY (ae (bN e0_ hr (ae (aa 0 (pv 0)) (ae ah af))) (ae (bN e0_ hr (ae (aa 0 (pv 0)) (ae ah af))) (ae (bN e0_ hr (ae (aa 0 (pv 0)) (ae ah af))) af))))))
  (ai (dY (fun _ h => dR (i := 10) bg.nd rfl (Or.inl rfl) h) (aY (ae (ak aA aT (ak aA aT (cM (aa 1 (pv 1)) bQ (bR (aa 3 (pv 3)))) (aa 4 (pv 4))) (cM (aa 1 (pv 1)) (bR (aa 3 (pv 3))) bQ)) (ae (ak aA aT (cM (aa 1 (pv 1)) bQ (bR (aa 3 (pv 3)))) (cM (aa 1 (pv 1)) (bR (ak bj aJ (aa 3 (pv 3)) ah)) bQ)) (ae (ak aA aT (ak aA aT (cM (aa 1 (pv 1)) bQ (bR (aa 3 (pv 3)))) (aa 4 (pv 4))) (cM (aa 1 (pv 1)) (bR (ak bj aJ (aa 3 (pv 3)) ah)) bQ)) af)))))
  (ai (dY (fun _ h => dR (i := 10) bg.nd rfl (Or.inl rfl) h) (kI 10 (pv 10) (aY (ae (ak aA aT (ak aA aT (cM (aa 1 (pv 1)) bQ (bR (aa 3 (pv 3)))) (aa 4 (pv 4))) (cM (aa 1 (pv 1)) (bR (ak bj aJ (aa 3 (pv 3)) ah)) bQ)) (ae (cM (aa 1 (pv 1)) bQ (bR (aa 3 (pv 3)))) (ae (cM (aa 1 (pv 1)) (bR (aa 3 (pv 3))) bQ) (ae (ak aA aT (ak aA aT (aa 1 (pv 1)) aB) (aa 7 (pv 7))) (ae (ak aA aT (ak aA aT (aa 7 (pv 7)) aB) (aa 5 (pv 5))) af))))))))
  (ai (dY (fun _ h => dR (i := 10) bg.nd rfl (Or.inl rfl) h) (kI 10 (pv 10) (aY (ae (ak aA aT (ak aA aT (ak aA aT (ak aA aT (aa 5 (pv 5)) aB) (aa 8 (pv 8))) aB) (aa 7 (pv 7))) (ae (ak aA aT (ak aA aT (aa 1 (pv 1)) aB) (aa 8 (pv 8))) (ae (ak aA aT (aa 1 (pv 1)) (aO rfl (aL (aY (ae aB (ae aB (ae aB af))))) (ak cU b8 (aa 3 (pv 3)) ah) (fun _ _ => rfl))) af))))))
  (ai (dY (fun _ h => dR (i := 10) bg.nd rfl (Or.inl rfl) h) (kI 10 (pv 10) (aY (ae (ak aA aT (aO rfl (aL (aY (ae aB (ae aB af)))) (ak cU b8 (aa 3 (pv 3)) ah) (fun _ _ => rfl)) (aa 1 (pv 1))) (ae (ak aA aT (ak e7 gS aB ah) aB) af)))))
  (ai (dY (fun _ h => dR (i := 10) bg.nd rfl (Or.inl rfl) h) (kI 10 (pv 10) (aY (ae (ak aA aT (ak aA aT (aa 5 (pv 5)) aB) (mI rfl aB (AT (aY (ae aB af)) (ak bj aJ ah (aO rfl (aa 9 (pv 9)) ah (fun _ _ => rfl)))))) af))))
  (ai (bA (dt (nH (aK dq fU (aa 2 (pv 2)) ah (aH _)) (kD (aK fh aJ (aO rfl (aa 9 (pv 9)) ah (fun _ _ => rfl)) ah (aH _))))) (ay (aP (Ar rfl (aY (ae (ak aA aT (ak aA aT aB (ak e7 gS aB ah)) aB) (ae (ak aA aT (ak aA aT (ak e7 gS aB ah) aB) (ak e7 gS aB (ak bj aJ ah (aO rfl (aa 9 (pv 9)) ah (fun _ _ => rfl))))) af))) (aO rfl (aa 9 (pv 9)) ah (fun _ _ => rfl)) (fun _ _ => rfl)))) aQ)
  (ai (bA (dt (nH (aK dq fU (aa 2 (pv 2)) ah (aH _)) (kD (aK dq fU (aO rfl (aa 9 (pv 9)) ah (fun _ _ => rfl)) ah (aH _))))) (ay (aP (ak aA aT (ak aA aT (aa 5 (pv 5)) aB) (ak e7 gS aB (ak bj aJ ah (aO rfl (aa 9 (pv 9)) ah (fun _ _ => rfl))))))) aQ)
  (ay (aP (Aq 10 rfl (pv 10) (aa 2 (pv 2)) (fun _ _ => rfl))))))))))))))))), ?_⟩
 rintro a pn ds es R hl ⟨b, l, e, ⟨C, G, el, nC, cC, lC, lG⟩, hpn, hb, q⟩
 obtain rfl : ds = [] := List.eq_nil_of_length_eq_zero hl
 obtain rfl : es = [.str (mk l)] := e
 have cG : G.count 35 <= 30 := Nat.le_trans List.count_le_length lG
 have sz : Sm 181 30 (mk l) := ⟨by rw [aD, el, List.length_append, List.length_cons]; lia, by rw [ao, el, List.count_append, List.count_cons, cC]; simp; lia⟩
 have sC : Sm 150 0 (mk C) := ⟨by rw [aD]; exact lC, by rw [ao, cC]; exact Nat.le_refl _⟩
 have sG : Sm 30 30 (mk G) := ⟨by rw [aD]; exact lG, by rw [ao]; exact cG⟩
 have hp := fc (c := 32) (b := C) (r := G) nC
 rw [<- el] at hp
 obtain ⟨d0, d1, d2, hp2, ld⟩ := uh 47 G
 generalize mk l = z at sz hp
 have hz' : z.length <= sizeLine := aW (Nat.le_trans sz.1 (by lia))
 walk_at "sl"
 walk_at "rd"
 refine ⟨b, 14, rfl, hpn, by lia, by lia, by lia, fun pn1 r1 h1 r1a r1b => ?_⟩
 walk_at "rd"
 refine eg hz' ?_
 have z181 := sz.1
 walk_at "rd"
 refine ⟨b + 1, _, rfl, h1, by lia, by lia, by lia, fun pn2 r2 h2 r2a r2b => ?_⟩
 walk_at "rd"
 refine ⟨b + 2, 19, rfl, h2, by lia, by lia, by lia, fun pn3 r3 h3 r3a r3b => ?_⟩
 obtain ⟨n3, rfl⟩ := Int.eq_ofNat_of_zero_le r3a
 obtain ⟨c3, ec3⟩ := xg n3 (by lia)
 refine kZ (c := c3) (aW (show (19 : Nat) <= 1000000 by decide)) ec3 ?_
 have l1 : Sm 1 1 (⟨#[c3]⟩ : Str) := pR (Nat.le_refl 1)
 generalize (⟨#[c3]⟩ : Str) = sg at l1
 walk_at "rd"
 refine gn rfl hz' hp ?_
 walk_at "rd"
 refine gn rfl (aW (Nat.le_trans sG.1 (by lia))) hp2 ?_
 walk_at "rd"
 refine eg (by rw [aD]; exact aW (by lia)) ?_
 rw [aD]
 walk_at "rd"
 refine gX (n := 30) rfl (by lia) (by lia) fun dots sd => ?_
 walk_at "rd"
 have s1 : ∀ x : Str, x = " " \/ x = "\n" \/ x = "/" -> Sm 1 0 x := by rintro x (rfl | rfl | rfl) <;> unfold Sm <;> decide +kernel
 refine ⟨b + 3, 3, rfl, h3, by lia, by lia, by lia, fun pn4 f0 h4 f0a f0b => ?_⟩
 obtain ⟨k0, rfl⟩ := Int.eq_ofNat_of_zero_le f0a
 walk_at "rd"
 refine ⟨b + 4, 2, rfl, h4, by lia, by lia, by lia, fun pn5 f1 h5 f1a f1b => ?_⟩
 walk_at "rd"
 refine ⟨b + 5, 2, rfl, h5, by lia, by lia, by lia, fun pn6 f2 h6 f2a f2b => ?_⟩
 obtain ⟨k2, rfl⟩ := Int.eq_ofNat_of_zero_le f2a
 walk_at "rd"
 refine mX sz (by lia) (by lia) (by lia) fun a1 sa1 => ?_
 walk_at "rd"
 refine aV sa1 l1 (by lia) fun a2 sa2 => ?_
 walk_at "rd"
 refine mY sz (by lia) (by lia) (by lia) fun a3 sa3 => ?_
 walk_at "rd"
 refine aV sa2 sa3 (by lia) fun a4 sa4 => ?_
 walk_at "rd"
 refine mX sz (by lia) (by lia) (by lia) fun b1 sb1 => ?_
 walk_at "rd"
 refine mY sz (by lia) (by lia) (by lia) fun b2 sb2 => ?_
 walk_at "rd"
 refine aV sb1 sb2 (by lia) fun b3 sb3 => ?_
 walk_at "rd"
 refine mX sz (by lia) (by lia) (by lia) fun c1 sc1 => ?_
 walk_at "rd"
 refine aV sc1 l1 (by lia) fun c2 sc2 => ?_
 walk_at "rd"
 refine mY sz (by lia) (by lia) (by lia) fun c3 sc3 => ?_
 walk_at "rd"
 refine aV sc2 sc3 (by lia) fun c4 sc4 => ?_
 walk_at "rd"
 refine mX sz (by lia) (by lia) (by lia) fun d1 sd1 => ?_
 walk_at "rd"
 refine aV sd1 l1 (by lia) fun d2 sd2 => ?_
 walk_at "rd"
 refine mY sz (by lia) (by lia) (by lia) fun d3 sd3 => ?_
 walk_at "rd"
 refine aV sd2 sd3 (by lia) fun d4 sd4 => ?_
 walk_at "rd"
 refine mX sz (by lia) (by lia) (by lia) fun e1 se1 => ?_
 walk_at "rd"
 refine mY sz (by lia) (by lia) (by lia) fun e2 se2 => ?_
 walk_at "rd"
 refine aV sz (s1 _ (.inl rfl)) (by lia) fun g1 sg1 => ?_
 walk_at "rd"
 refine aV sg1 sG (by lia) fun g2 sg2 => ?_
 walk_at "rd"
 refine aV sG (s1 _ (.inl rfl)) (by lia) fun g3 sg3 => ?_
 walk_at "rd"
 refine aV sg3 sC (by lia) fun g4 sg4 => ?_
 walk_at "rd"
 refine kJ rfl (Nat.le_of_ble_eq_true rfl) ?_
 walk_at "rd"
 refine aV sC (s1 _ (.inl rfl)) (by lia) fun h1a sh1a => ?_
 walk_at "rd"
 refine aV sh1a sd (by lia) fun h2a sh2a => ?_
 walk_at "rd"
 refine aV sh2a (s1 _ (.inr (.inr rfl))) (by lia) fun h3a sh3a => ?_
 walk_at "rd"
 refine aV sh3a sG (by lia) fun h4a sh4a => ?_
 walk_at "rd"
 refine aV sz (s1 _ (.inr (.inr rfl))) (by lia) fun i1 si1 => ?_
 walk_at "rd"
 refine aV si1 sd (by lia) fun i2 si2 => ?_
 walk_at "rd"
 have hx : ∃ x : Str, Sm 1 0 x /\ atI [D.str (Str.ofString "\n"), D.str (Str.ofString " "), D.str (Str.ofString "/")] (r2 % 3) = some (.str x) := by
  have : r2 % 3 = 0 \/ r2 % 3 = 1 \/ r2 % 3 = 2 := by lia
  rcases this with e | e | e <;> rw [e]
  ·exact ⟨_, s1 _ (.inr (.inl rfl)), rfl⟩
  ·exact ⟨_, s1 _ (.inl rfl), rfl⟩
  ·exact ⟨_, s1 _ (.inr (.inr rfl)), rfl⟩
 obtain ⟨x, sx, ex⟩ := hx
 refine fY rfl rfl ex ?_
 walk_at "rd"
 refine aV sz sx (by lia) fun j1 sj1 => ?_
 walk_at "rd"
 refine kJ rfl (Nat.le_of_ble_eq_true rfl) ?_
 walk_at "rd"
 have hx : ∃ x : Str, Sm 1 0 x /\ atI [D.str (Str.ofString " "), D.str (Str.ofString "\n")] (r2 % 2) = some (.str x) := by
  have : r2 % 2 = 0 \/ r2 % 2 = 1 := by lia
  rcases this with e | e <;> rw [e]
  ·exact ⟨_, s1 _ (.inl rfl), rfl⟩
  ·exact ⟨_, s1 _ (.inr (.inl rfl)), rfl⟩
 obtain ⟨x', sx', ex'⟩ := hx
 refine fY rfl rfl ex' ?_
 walk_at "rd"
 refine aV sx' sz (by lia) fun k1 sk1 => ?_
 walk_at "rd"
 refine gX (k := 61) (n := 61) rfl (by lia) (by lia) fun m1 sm1 => ?_
 walk_at "rd"
 refine aV sm1 (show Sm 4 1 (Str.ofString ",0 #") by unfold Sm; decide +kernel) (by lia) fun m2 sm2 => ?_
 walk_at "rd"
 refine kJ rfl (Nat.le_of_ble_eq_true rfl) ?_
 walk_at "rd"
 refine aV sC (s1 _ (.inl rfl)) (by lia) fun n1 sn1 => ?_
 walk_at "rd"
 have e40 : (40 : Int) + ((k0 : Nat) : Int) = ((40 + k0 : Nat) : Int) := by lia
 have e12 : (1 : Int) + ((k2 : Nat) : Int) = ((1 + k2 : Nat) : Int) := by lia
 show mP _ _ (.d (.int ((40 : Int) + ((k0 : Nat) : Int)))) _
 rw [e40]
 refine wD (by show 1 * _ <= _; lia) (by lia) ?_
 refine sZ (ui _ _) (xf _ (by lia) (by lia)) ?_
 have sj := w9 (40 + k0) (by lia) (by lia)
 generalize Txt.join (Str.ofString "/") (List.replicate (40 + k0) (Str.ofString "#")) = jn at sj
 walk_at "rd"
 refine aV sn1 sj (by lia) fun n2 sn2 => ?_
 walk_at "rd"
 refine kJ rfl (Nat.le_of_ble_eq_true rfl) ?_
 walk_at "rd"
 have fin : ∀ (Sx : List Sl) (y : Str) (n c : Nat), Sm n c y -> n <= 1000 -> c < 64 -> Sx[0]? = some (Sl.pen (some a) pn6) -> ∃ ns', Sx[0]? = some (Sl.pen (some a) ns') /\ R (.str y) ns' := fun Sx y n c hy hn hc e0 => ⟨_, e0, by
  rw [str_mk y]
  exact q _ _ (Nat.le_trans (by rw [Array.length_toList]; exact hy.1) hn) (Nat.lt_of_le_of_lt hy.2 hc) (h6.le (by lia))⟩
 have hr1 : r1 = 0 \/ r1 = 1 \/ r1 = 2 \/ r1 = 3 \/ r1 = 4 \/ r1 = 5 \/ r1 = 6 \/ r1 = 7 \/ r1 = 8 \/ r1 = 9 \/ r1 = 10 \/ r1 = 11 \/ r1 = 12 \/ r1 = 13 := by lia
 rcases hr1 with rfl | rfl | rfl | rfl | rfl | rfl | rfl | rfl | rfl | rfl | rfl | rfl | rfl | rfl
 case inr.inr.inr.inr.inr.inr.inr.inr.inr.inr.inr.inr.inl =>
  walk_at "rc"
  by_cases hk : k0 = 0
  ·subst hk
   walk_at "rc"
   refine nM rfl rfl rfl ?_
   walk_at "rc"
   exact fin _ _ _ _ sm2 (by lia) (by lia) rfl
  rw [show decide ((0 : Int) < ((k0 : Nat) : Int)) = true from decide_eq_true (by lia)]
  walk_at "rc"
  refine gX (k := 60) (n := 60) rfl (by lia) (by lia) fun p1 sp1 => ?_
  walk_at "rc"
  refine aV (show Sm 2 0 (Str.ofString "0,") by unfold Sm; decide +kernel) sp1 (by lia) fun p2 sp2 => ?_
  walk_at "rc"
  refine aV sp2 (show Sm 4 2 (Str.ofString " #/#") by unfold Sm; decide +kernel) (by lia) fun p3 sp3 => ?_
  walk_at "rc"
  refine gX (k := 60) (n := 60) rfl (by lia) (by lia) fun u1 su1 => ?_
  walk_at "rc"
  refine aV su1 (show Sm 3 0 (Str.ofString ",0 ") by unfold Sm; decide +kernel) (by lia) fun u2 su2 => ?_
  walk_at "rc"
  show mQ _ (.int ((1 : Int) + ((k2 : Nat) : Int))) _
  rw [e12]
  refine gX (n := 2) rfl (by lia) (by lia) fun u3 su3 => ?_
  walk_at "rc"
  refine aV su2 su3 (by lia) fun u4 su4 => ?_
  walk_at "rc"
  have hf1 : f1 = 0 \/ f1 = 1 := by lia
  rcases hf1 with rfl | rfl
  ·refine oY rfl rfl ?_
   walk_at "rc"
   exact fin _ _ _ _ sp3 (by lia) (by lia) rfl
  ·refine oY rfl rfl ?_
   walk_at "rc"
   exact fin _ _ _ _ su4 (by lia) (by lia) rfl
 case inr.inr.inr.inr.inr.inr.inr.inr.inr.inr.inr.inr.inr =>
  walk_at "rc"
  by_cases hk : f1 = 1
  ·subst hk
   walk_at "rc"
   refine aV sC (s1 _ (.inl rfl)) (by lia) fun u1 su1 => ?_
   walk_at "rc"
   show mQ _ (.int ((40 : Int) + ((k0 : Nat) : Int))) _
   rw [e40]
   refine gX (n := 42) rfl (by lia) (by lia) fun u3 su3 => ?_
   walk_at "rc"
   refine aV su1 su3 (by lia) fun u4 su4 => ?_
   walk_at "rc"
   exact fin _ _ _ _ su4 (by lia) (by lia) rfl
  ·rw [show decide (f1 = 1) = false from decide_eq_false hk]
   walk_at "rc"
   refine nM rfl rfl rfl ?_
   walk_at "rc"
   exact fin _ _ _ _ sn2 (by lia) (by lia) rfl
 all_goals walk_at "rc"
 all_goals refine nM rfl rfl rfl ?_
 all_goals walk_at "rc"
 ·exact fin _ _ _ _ sa4 (by lia) (by lia) rfl
 ·exact fin _ _ _ _ sb3 (by lia) (by lia) rfl
 ·exact fin _ _ _ _ sc4 (by lia) (by lia) rfl
 ·exact fin _ _ _ _ sd4 (by lia) (by lia) rfl
 ·exact fin _ _ _ _ se1 (by lia) (by lia) rfl
 ·exact fin _ _ _ _ se2 (by lia) (by lia) rfl
 ·exact fin _ _ _ _ sg2 (by lia) (by lia) rfl
 ·exact fin _ _ _ _ sg4 (by lia) (by lia) rfl
 ·exact fin _ _ _ _ sh4a (by lia) (by lia) rfl
 ·exact fin _ _ _ _ si2 (by lia) (by lia) rfl
 ·exact fin _ _ _ _ sj1 (by lia) (by lia) rfl
 ·exact fin _ _ _ _ sk1 (by lia) (by lia) rfl
end
end My
namespace My
open PySem L2 VL
theorem uj (h : Lp mss) : Pc mss /\ mss ≠ [] /\ (∀ c ∈ mss, inB c = true) /\ mxI (mss.map fs) - mnI (mss.map fs) <= 4 /\ mxI (mss.map sn) - mnI (mss.map sn) <= 4 /\ (mnI (mss.map fs)).natAbs < 10 ^ 60 /\ (mnI (mss.map sn)).natAbs < 10 ^ 60 := by
 obtain ⟨hl, a, b, hm, ha, hb, hc⟩ := h
 have hne : mss ≠ [] := fun e => by rw [e] at hm; cases hm
 have key : ∀ c ∈ mss, a <= fs c /\ fs c <= a + 4 /\ b <= sn c /\ sn c <= b + 4 := fun c hcm => by
  obtain ⟨x, y, rfl, h1⟩ := hc c hcm
  exact h1
 generalize hN : (10 : Nat) ^ 60 = N at ha hb
 have hf : mss.map fs ≠ [] := by simpa using hne
 have hs : mss.map sn ≠ [] := by simpa using hne
 obtain ⟨c1, m1, e1⟩ := List.mem_map.mp (bC hf)
 obtain ⟨c2, m2, e2⟩ := List.mem_map.mp (e9 hf)
 obtain ⟨c3, m3, e3⟩ := List.mem_map.mp (bC hs)
 obtain ⟨c4, m4, e4⟩ := List.mem_map.mp (e9 hs)
 have k1 := key c1 m1
 have k2 := key c2 m2
 have k3 := key c3 m3
 have k4 := key c4 m4
 rw [e1] at k1; rw [e2] at k2; rw [e3] at k3; rw [e4] at k4
 refine ⟨⟨fun c hcm => ?_, by lia⟩, hne, fun c hcm => ?_, by lia, by lia, by lia, by lia⟩
 ·obtain ⟨x, y, rfl, _⟩ := hc c hcm
  exact ⟨x, y, rfl⟩
 ·have := key c hcm
  unfold inB
  rw [hN, Bool.and_eq_true, decide_eq_true_eq, decide_eq_true_eq]
  lia
theorem DQ (h : Lp mss) : Tx (txt mss) := by
 obtain ⟨_, _, _, hx, hy, na, nb⟩ := uj h
 unfold txt
 generalize mnI (mss.map fs) = a at *
 generalize mnI (mss.map sn) = b at *
 generalize mxI (mss.map fs) = Mx at *
 generalize mxI (mss.map sn) = My at *
 have la : (wr a).cps.toList.length <= 61 := by rw [Array.length_toList]; exact gk (by decide) na
 have lb : (wr b).cps.toList.length <= 61 := by rw [Array.length_toList]; exact gk (by decide) nb
 have c1 : ∀ n : Int, 35 ∉ (wr n).cps.toList := fun n => gx (by decide) (by decide)
 have c2 : ∀ n : Int, 32 ∉ (wr n).cps.toList := fun n => gx (by decide) (by decide)
 refine ⟨(wr a).cps.toList ++ 44 :: (wr b).cps.toList, _, by rw [List.append_assoc, List.cons_append], ?_, ?_, ?_, ?_⟩
 ·intro z
  rcases List.mem_append.mp z with z | z
  ·exact c2 _ z
  ·rcases List.mem_cons.mp z with z | z
   ·cases z
   ·exact c2 _ z
 ·rw [List.count_append, List.count_cons, List.count_eq_zero.mpr (c1 a), List.count_eq_zero.mpr (c1 b)]; rfl
 ·rw [List.length_append, List.length_cons]; lia
 ·refine Nat.le_trans (iD (W := 5) fun w hw => ?_) ?_
  ·unfold grd at hw
   obtain ⟨y, _, rfl⟩ := List.mem_map.mp hw
   rw [List.length_map, List.length_range]
   lia
  ·unfold grd
   rw [List.length_map, List.length_range]
   have : (My - b + 1).toNat <= 5 := by lia
   exact Nat.mul_le_mul_right 6 this
theorem Bh {l : List Nat} (h : Tx l) : l.length <= 181 /\ l.count 35 < 64 := by
 obtain ⟨C, G, rfl, _, hc, h1, h2⟩ := h
 have h3 : G.count 35 <= G.length := List.count_le_length
 rw [List.length_append, List.length_cons, List.count_append, List.count_cons, hc, if_neg (by decide)]
 lia
def pRg : List D -> (D -> Prop) -> Prop := fun ds R => (∃ l : List Nat, ds = [.str (mk l), eOP (rdP l)] /\ l.length <= 10000 /\ R (.bl true)) \/ ∃ d, ds = [d, .non] /\ DH d /\ R (.bl true)
theorem iF {l : List Nat} {z : Str} {R : D -> Prop} (e : z = mk l) (h : rdP l = none) (hl : l.length <= 10000) (q : R (.bl true)) : pRg [.str z, .non] R := .inl ⟨l, by rw [e, h]; rfl, hl, q⟩
section
variable {P : Program} {w : World} {K : PySem.W.Frag} {mg : Str -> Option Value} {base : Heap}
theorem uk {c_NoText c_CellError c_TooWide c_NoRule : Addr} (S : Src K mg "_law_right" lq) (T : Txt mg) (e13_ : Has P w K mg base 5 "read_picture" ["text"] (spP K pRp)) (EX_read_picture : kM P w K mg base 5 "read_picture" ["text"] (bdP c_NoText))
  (g_CellError : mg "CellError" = some (.ref c_CellError)) (g_NoText : mg "NoText" = some (.ref c_NoText)) (g_NoRule : mg "NoRule" = some (.ref c_NoRule)) (g_TooWide : mg "TooWide" = some (.ref c_TooWide)) (g_ValueError : mg "ValueError" = none)
  (s1 : PySem.W.exmOne K (.ref c_NoText) (.ref c_CellError) = some true) (s2 : eB K c_NoText = true) (s3 : PySem.W.kitOne K (.ref c_NoText) (.ref c_NoText) = some true) (s4 : PySem.W.kitOne K (.ref c_NoText) (.type "ValueError") = some true) (s5 : PySem.W.kitAny K (.ref c_NoText) [.ref c_NoRule, .ref c_TooWide] = some false) : Has P w K mg base 6 "_law_right" ["_law_text_here", "_law_due_here"] (spP K pRg) := by
 refine cZ S dO (by walk_at "2") (fun ds R h => by rcases h with ⟨_, e, _⟩ | ⟨_, e, _⟩ <;> (rw [e]; rfl)) fun f cdv A outer s H E hr => ⟨_, _, (ai (aE (i := 2) dO.nd rfl (Or.inl rfl) cL)
  (ai (aE (i := 3) dO.nd rfl (Or.inl rfl) cL)
  (ai (AA (vS (ay (aE (i := 3) dO.nd rfl (Or.inl rfl) (bD e13_ hr (ae (aa 0 (pv 0)) af)))) (fun _ _ h => h)) (wy (i := 4) EX_read_picture rfl hr (ae (aa 0 (pv 0)) af) g_CellError (fun y => (ay (aE (i := 2) dO.nd rfl (Or.inl rfl) (aa 4 (pv 4))))) (fun _ _ h => h) rfl rfl rfl dO.nd rfl rfl))
  (ai (bA (aK uw zg (aa 1 (pv 1)) cL (aH _)) (ay (aP (cX (dy yP Bx (aa 2 (pv 2)) cL (aH _)) (cX (au (i6 (K := K) rfl) iR (by rfl) T.isinstance_ aZ (ae (aa 3 (pv 3)) (ae (cV (dm (v := .ty "list") (by rfl) T.list_ oy rfl) (fun _ _ => .ty _)) af))) (gI (dy (rF (K := K) rfl hr.units) oJ (aa 3 (pv 3)) (aa 1 (pv 1)) (aH _))))))) aQ)
  (ay (aP (cX (o8 (i := 2) (c := .ref c_NoText) rfl rfl (cy (by rfl) g_NoText rfl) rfl (Or.inl rfl) (by rfl) T.isinstance_) (cX (o8 (i := 2) (c := .type "ValueError") rfl rfl (dm (by rfl) g_ValueError PyProof.Rows.Boot.«ValueError» rfl) rfl (Or.inl rfl) (by rfl) T.isinstance_) (gI (rj (vK (i := 2) rfl (oZ g_NoRule (oZ g_TooWide sH)) (by simp) rfl (Or.inl rfl) (by rfl) T.isinstance_))))))))))), ?_⟩
 rintro ds R h
 have hq : R (.bl true) := by rcases h with ⟨_, _, _, q⟩ | ⟨_, _, _, q⟩ <;> exact q
 have hh : (∃ l cs, ds = [.str (mk l), eL cs] /\ l.length <= 10000 /\ rdP l = some cs) \/ ∃ d, ds = [d, .non] /\ bdP c_NoText [d] c_NoText := by
  rcases h with ⟨l, e, hl, _⟩ | ⟨d, e, hd, _⟩
  ·cases hrd : rdP l with
   | none => rw [hrd] at e; exact .inr ⟨_, e, .inl ⟨l, rfl, hl, hrd, rfl⟩⟩
   | some cs => rw [hrd] at e; exact .inl ⟨l, cs, e, hl, hrd⟩
  ·exact .inr ⟨d, e, .inr ⟨d, rfl, hd, rfl⟩⟩
 clear h
 rcases hh with ⟨l, cs, rfl, hl, hrd⟩ | ⟨d, rfl, hb⟩
 ·walk_at "sl"
  walk_at "rd"
  refine .inl ?_
  walk_at "rd"
  refine ⟨l, cs, rfl, hl, hrd, ?_⟩
  walk_at "rc"
  refine xS nK rfl ?_
  walk_at "rc"
  exact hq
 ·walk_at "sl"
  walk_at "rd"
  refine .inr ?_
  unfold C9
  walk_at "rd"
  refine ⟨Nat.le_of_ble_eq_true rfl, _, c_NoText, rfl, hb, s1, ?_⟩
  walk_at "rd"
  refine ⟨Nat.le_of_ble_eq_true rfl, ?_⟩
  dsimp only [List.set_cons_zero, List.set_cons_succ]
  walk_at "rc"
  refine sJ rfl s2 s3 ?_
  walk_at "rc"
  refine sJ rfl s2 s4 ?_
  walk_at "rc"
  refine Au rfl s2 s5 ?_
  walk_at "rc"
  exact hq
theorem Bi (S : Src K mg "law" AZ) (T : Txt mg) (e14_ : Has P w K mg base 1 "_law_pen" ["_law_script", "_law_k"] (spP K DB)) (e15_ : Has P w K mg base 3 "_law_picture" ["_law_pen_here"] (spI K 0 DK)) (e2_ : Has P w K mg base 1 "_law_text" ["_law_live"] (spP K ub)) (e9_ : Has P w K mg base 2 "_law_due" ["_law_text_here"] (spP K DP))
  (e17_ : Has P w K mg base 2 "_law_spoilt" ["_law_pen_here", "_law_text_here"] (spI K 0 pSp)) (e5_ : Has P w K mg base 6 "_law_right" ["_law_text_here", "_law_due_here"] (spP K pRg)) : Has P w K mg base 7 "law" ["_law_script"] (spP K wL) := by
 refine cZ S h9 (by walk_at "1") (fun ds R zq1 => by obtain ⟨_, e, _⟩ := zq1; rw [e]; rfl) fun f cdv A outer s H E hr => ⟨_, _, (ai (iT PassesOwn.never rfl (bY rfl T.range (ae ah af)) (az (aw (i := 1) h9.nd rfl (Or.inl rfl) (Or.inl rfl))) (ai (uQ (fun _ h => dR (i := 2) h9.nd rfl (Or.inl rfl) h) (BG e14_ hr (ae (aa 0 (pv 0)) (ae (aa 1 (pv 1)) af))))
  (ai (aE (i := 3) h9.nd rfl (Or.inl rfl) (bN e15_ hr (ae (aa 2 (pv 2)) af)))
  (ai (aE (i := 4) h9.nd rfl (Or.inl rfl) (bD e2_ hr (ae (aa 3 (pv 3)) af)))
  (ai (aE (i := 5) h9.nd rfl (Or.inl rfl) (bD e9_ hr (ae (aa 4 (pv 4)) af)))
  (ai (aE (i := 6) h9.nd rfl (Or.inl rfl) (bN e17_ hr (ae (aa 2 (pv 2)) (ae (aa 4 (pv 4)) af))))
  (ay (bA (dt (cH (bU (cf (bD e5_ hr (ae (aa 6 (pv 6)) (ae (bD e9_ hr (ae (aa 6 (pv 6)) af)) af))))) (cW (bU (cf (bD e5_ hr (ae (aa 4 (pv 4)) (ae (aa 5 (pv 5)) af)))))))) (ay (aP oD)) aQ))))))))
  (ai (iT PassesOwn.never rfl (bI rfl (aL (aY (ae cL (ae ah (ae oD (ae (aL (aY af)) (ae (aL (aY (ae aB af))) (ae (cg (ae aB af)) (ae (vE An) (ae (aL (aY (ae (cg (ae ah (ae ah af))) af))) (ae aB (ae aB (ae aB (ae aB af))))))))))))))) (az (aw (i := 7) h9.nd rfl (Or.inl rfl) (Or.inl rfl))) (ay (bA (bU (cf (bD e5_ hr (ae (aa 7 (pv 7)) (ae cL af))))) (ay (aP oD)) aQ)))
  (ay (aP (bD e5_ hr (ae aB (ae (aL (aY af)) af))))))), ?_⟩
 rintro ds R ⟨ns, rfl, hn, q⟩
 walk_at "sl"
 walk_at "rd"
 refine oR (fun i S => ∃ v1 v2 v3 v4 v5 v6 v7, S = [.val (.lst (ns.map .int)), v1, v2, v3, v4, v5, v6, v7]) ⟨_, _, _, _, _, _, _, rfl⟩ ?_ ?_
 ·rintro i S hi ⟨v1, v2, v3, v4, v5, v6, v7, rfl⟩
  have hi' : i < 8 := hi
  rw [Int.zero_add]
  walk_at "rd"
  refine ⟨ns, i, rfl, by lia, fun x y => ⟨_, rfl, rfl, ?_⟩⟩
  refine oK (ns := [x, y, 0]) rfl ?_
  walk_at "rd"
  refine ⟨0, rfl, ⟨x, y, 0, rfl, by lia, by lia⟩, by lia, fun mss pn1 hL h1 => ?_⟩
  obtain ⟨p1, p2, p3, p4, p5, _, _⟩ := uj hL
  have hT := DQ hL
  obtain ⟨t1, t2⟩ := Bh hT
  walk_at "rd"
  refine ⟨mss, rfl, p1, p2, p3, by lia, by lia, ?_⟩
  generalize txt mss = l at hT t1 t2
  walk_at "rd"
  refine ⟨l, rfl, by lia, t2, ?_⟩
  walk_at "rd"
  refine ⟨_, l, rfl, hT, h1, by lia, fun l2 pn2 u1 u2 h2 => ?_⟩
  walk_at "rd"
  refine ⟨l2, rfl, by lia, u2, ?_⟩
  walk_at "rd"
  refine .inl ⟨l2, rfl, by lia, ?_⟩
  walk_at "rc"
  refine .inl ⟨l, rfl, by lia, ?_⟩
  walk_at "rc"
  exact ⟨_, _, _, _, _, _, _, rfl⟩
 ·rintro S ⟨v1, v2, v3, v4, v5, v6, v7, rfl⟩
  walk_at "rd"
  refine u9 ?_
  walk_at "rc"
  iterate 8
   refine .inr ⟨_, rfl, trivial, ?_⟩
   walk_at "rc"
  refine iF (l := []) rfl (by decide +kernel) (by decide) ?_
  walk_at "rc"
  refine iF (l := [45, 45]) rfl (by decide +kernel) (by decide) ?_
  walk_at "rc"
  refine iF (l := [32]) rfl (by decide +kernel) (by decide) ?_
  walk_at "rc"
  refine iF (l := [45, 32]) rfl (by decide +kernel) (by decide) ?_
  walk_at "rc"
  refine .inl ⟨[45], rfl, by decide, ?_⟩
  walk_at "rc"
  exact q
end
end My
namespace My
open PySem L2 VL
theorem Bj {l : PySem.W.OpenLaw} {w : World} {h : Heap} {mg : Str -> Option Value} {fa : Addr}  {t_MOST_FIGURES : Tok}  {t_MOST_SIDE : Tok} {t_FIGURES : Tok} {c_NoText : Addr}  {c_CellError : Addr}  {c_NoRule : Addr}  {c_TooWide : Addr} (X : K.In h) (G : h.Ns mainGlobals mg) (hfa : mg "law" = some (.ref fa))
    (S0 : Src K mg "_law_pen" tQ) (S1 : Src K mg "_law_draw" nX) (S2 : Src K mg "read_number" bO) (S3 : Src K mg "read_number" bO) (S4 : Src K mg "read_cell" dN) (S5 : Src K mg "read_cell" dN) (S6 : Src K mg "is_whole" jq) (S7 : Src K mg "is_pair" lg) (S8 : Src K mg "is_cell" lh) (S9 : Src K mg "is_picture" di) (S10 : Src K mg "box_of" jr) (S11 : Src K mg "is_row" li) (S12 : Src K mg "read_picture" br) (S13 : Src K mg "read_picture" br) (S14 : Src K mg "_law_whole_in" e8) (S15 : Src K mg "_law_number" js) (S16 : Src K mg "_law_text" eP) (S17 : Src K mg "_law_picture" gT) (S18 : Src K mg "_law_due" hZ) (S19 : Src K mg "_law_spoilt" jt) (S20 : Src K mg "_law_right" lq) (S21 : Src K mg "law" AZ)
     (i_MOST_FIGURES : PySem.W.nsIn K mainGlobals "MOST_FIGURES" = some (some (.int 60 t_MOST_FIGURES)))  (i_MOST_SIDE : PySem.W.nsIn K mainGlobals "MOST_SIDE" = some (some (.int 40 t_MOST_SIDE))) (s_FIGURES : PySem.W.nsIn K mainGlobals "FIGURES" = some (some (.str "0123456789" t_FIGURES))) (h_NoText : PySem.W.nsIn K mainGlobals "NoText" = some (some (.ref c_NoText)))  (h_CellError : PySem.W.nsIn K mainGlobals "CellError" = some (some (.ref c_CellError)))  (h_NoRule : PySem.W.nsIn K mainGlobals "NoRule" = some (some (.ref c_NoRule)))  (h_TooWide : PySem.W.nsIn K mainGlobals "TooWide" = some (some (.ref c_TooWide))) (y0 : PySem.W.nsIn K mainGlobals "ValueError" = some none) (y1 : PySem.W.excIn K c_NoText [.type "ValueError", .type "Exception", .type "BaseException", .type "object"] "ValueError.__new__" = true) (y2 : PySem.W.exmOne K (.ref c_NoText) (.ref c_CellError) = some true) (y3 : eB K c_NoText = true) (y4 : PySem.W.kitOne K (.ref c_NoText) (.ref c_NoText) = some true) (y5 : PySem.W.kitOne K (.ref c_NoText) (.type "ValueError") = some true) (y6 : PySem.W.kitAny K (.ref c_NoText) [.ref c_NoRule, .ref c_TooWide] = some false)
    (z0 : PySem.W.nsIn K mainGlobals "len" = some none) (z1 : PySem.W.nsIn K mainGlobals "range" = some none) (z2 : PySem.W.nsIn K mainGlobals "abs" = some none) (z3 : PySem.W.nsIn K mainGlobals "isinstance" = some none) (z4 : PySem.W.nsIn K mainGlobals "int" = some none) (z5 : PySem.W.nsIn K mainGlobals "bool" = some none) (z6 : PySem.W.nsIn K mainGlobals "list" = some none) (z7 : PySem.W.nsIn K mainGlobals "tuple" = some none) (z8 : PySem.W.nsIn K mainGlobals "sorted" = some none) (z9 : PySem.W.nsIn K mainGlobals "max" = some none) (z10 : PySem.W.nsIn K mainGlobals "min" = some none) (z11 : PySem.W.nsIn K mainGlobals "all" = some none) (z12 : PySem.W.nsIn K mainGlobals "any" = some none) (z13 : PySem.W.nsIn K mainGlobals "set" = some none) (z14 : PySem.W.nsIn K mainGlobals "sum" = some none) (z15 : PySem.W.nsIn K mainGlobals "str" = some none) (z16 : PySem.W.nsIn K mainGlobals "dict" = some none) (z17 : PySem.W.nsIn K mainGlobals "zip" = some none) (z18 : PySem.W.nsIn K mainGlobals "enumerate" = some none) :
    ∃ fd : FuncData, (∀ (s : Shared) (v : Value), BindsTo s fd ⟨[v], []⟩ [("_law_script", v)]) /\ ∀ base : Heap, K.In base -> base.Ns mainGlobals mg -> ib l.prog w K mg base CX0 7 fa fd ["_law_script"] (spP K wL) := by
  have no := fun {n : Str} (z : PySem.W.nsIn K mainGlobals n = some none) => PySem.W.mg_none_of X G z
  have T : Txt mg := ⟨no z0, no z1, no z2, no z3, no z4, no z5, no z6, no z7, no z8, no z9, no z10, no z11, no z12, no z13, no z14, no z15, no z16, no z17, no z18⟩
  refine uI S21 hfa (fun _ _ _ _ _ _ _ => rfl) fun base => ?_
  have e14_ := A0 (P := l.prog) (w := w) (base := base) S0 T
  have e0_ := wM (P := l.prog) (w := w) (base := base) S1 T
  have e1_ := DD (P := l.prog) (w := w) (base := base) S2 T  (PySem.W.mg_of X G i_MOST_FIGURES) (PySem.W.mg_of X G s_FIGURES)
  have e19_ := A3 (P := l.prog) (w := w) (base := base) S3 T  (PySem.W.mg_of X G i_MOST_FIGURES) (PySem.W.mg_of X G s_FIGURES) (PySem.W.mg_of X G h_NoText) y1
  have e6_ := DE (P := l.prog) (w := w) (base := base) S4 T e1_
  have e18_ := A5 (P := l.prog) (w := w) (base := base) S5 T e1_ e19_ (PySem.W.mg_of X G h_NoText) y1
  have e10_ := DG (P := l.prog) (w := w) (base := base) S6 T
  have e12_ := wR (P := l.prog) (w := w) (base := base) S7 T e10_
  have e16_ := wU (P := l.prog) (w := w) (base := base) S8 T e12_
  have e4_ := t6 (P := l.prog) (w := w) (base := base) S9 T e16_
  have e7_ := A9 (P := l.prog) (w := w) (base := base) S10 T
  have e3_ := Ba (P := l.prog) (w := w) (base := base) S11 T
  have e13_ := DJ (P := l.prog) (w := w) (base := base) S12 T e6_ e3_ e4_ e7_ (PySem.W.mg_of X G i_MOST_SIDE)
  have e20_ := Bc (P := l.prog) (w := w) (base := base) S13 T e6_ e18_ e3_ e4_ e7_ (PySem.W.mg_of X G i_MOST_SIDE) (PySem.W.mg_of X G h_NoText) y1
  have e8_ := DL (P := l.prog) (w := w) (base := base) S14 T
  have e11_ := DM (P := l.prog) (w := w) (base := base) S15 T e0_
  have e2_ := wX (P := l.prog) (w := w) (base := base) S16 T
  have e15_ := Bf (P := l.prog) (w := w) (base := base) S17 T e11_ e0_
  have e9_ := Bg (P := l.prog) (w := w) (base := base) S18 T e8_ e2_
  have e17_ := qw (P := l.prog) (w := w) (base := base) S19 T e0_
  have e5_ := uk (P := l.prog) (w := w) (base := base) S20 T e13_ e20_ (PySem.W.mg_of X G h_CellError) (PySem.W.mg_of X G h_NoText) (PySem.W.mg_of X G h_NoRule) (PySem.W.mg_of X G h_TooWide) (no y0) y2 y3 y4 y5 y6
  exact Bi (P := l.prog) (w := w) (base := base) S21 T e14_ e15_ e2_ e9_ e17_ e5_
theorem walk {l : PySem.W.OpenLaw} {q : Program} {loose : List Str} {XP : (Str -> Option Value) -> Heap -> Prop} {YP : World -> Heap -> Prop} {d : DefRec} {K : Params -> PySem.W.Frag} (hn : l.most = some 63) (hdf : d.params.defaults = [])
  (hY : ∀ (w : World) (h : Heap), YP w h -> (K w.params).In h)
  (F : ∀ (w : World) (mg : Str -> Option Value) (fa : Addr) (h : Heap), (K w.params).In h -> h.Ns mainGlobals mg -> mg d.name = some (.ref fa) ->
   ∃ fd : FuncData, (∀ (s : Shared) (u : Value), BindsTo s fd ⟨[u], []⟩ [("_law_script", u)]) /\ ∀ base : Heap, (K w.params).In base -> base.Ns mainGlobals mg -> ib l.prog w (K w.params) mg base CX0 7 fa fd ["_law_script"] (spP (K w.params) wL)) :
  PySem.W.WalkO q loose XP YP l.row.toRowW d [] (fun f vs => PySem.call f vs) :=
 L2.uG (n := 63) (k := 7) (x := "_law_script") (CX := fun _ => CX0) (sp := fun w => spP (K w.params) wL) hn (by decide) hdf ⟨rfl, by decide, by decide, rfl⟩ hY F
  (fun _ _ a ns hl _ hS => ⟨_, fun d => d = .bl true, .cons (Rep.of_sqL hS trivial (fun _ => trivial) Reps.ints) .nil, ⟨ns, rfl, hl, rfl⟩, fun d v H' e _ r => by subst e; cases r; rfl⟩) fun _ _ _ _ _ z => z
end My
open PySem PySem.W PyProof.Rows
set_option maxRecDepth 100000 in
set_option maxHeartbeats 0 in
theorem PySem.Challenge.cw_cellships_k66_no_picture_texts_holds : PySem.Challenge.rw_cellships_k66_no_picture_texts.Holds := by
 w_on; o_law; k_head; (case hw => w_witness2)
 k_fill
 refine My.walk (l := PySem.Challenge.rw_cellships_k66_no_picture_texts) rfl rfl (fun w h Y => PySem.W.kIn_of Y) ?F
 case F =>
  intro w mg fa h KX G hmg
  refine' My.Bj KX G hmg (L2.bw KX G ?a0 ?l0 ?c0 ?k0) (L2.bw KX G ?a1 ?l1 ?c1 ?k1) (L2.bw KX G ?a2 ?l2 ?c2 ?k2) (L2.bw KX G ?a3 ?l3 ?c3 ?k3) (L2.bw KX G ?a4 ?l4 ?c4 ?k4) (L2.bw KX G ?a5 ?l5 ?c5 ?k5) (L2.bw KX G ?a6 ?l6 ?c6 ?k6) (L2.bw KX G ?a7 ?l7 ?c7 ?k7) (L2.bw KX G ?a8 ?l8 ?c8 ?k8) (L2.bw KX G ?a9 ?l9 ?c9 ?k9) (L2.bw KX G ?a10 ?l10 ?c10 ?k10) (L2.bw KX G ?a11 ?l11 ?c11 ?k11) (L2.bw KX G ?a12 ?l12 ?c12 ?k12) (L2.bw KX G ?a13 ?l13 ?c13 ?k13) (L2.bw KX G ?a14 ?l14 ?c14 ?k14) (L2.bw KX G ?a15 ?l15 ?c15 ?k15) (L2.bw KX G ?a16 ?l16 ?c16 ?k16) (L2.bw KX G ?a17 ?l17 ?c17 ?k17) (L2.bw KX G ?a18 ?l18 ?c18 ?k18) (L2.bw KX G ?a19 ?l19 ?c19 ?k19) (L2.bw KX G ?a20 ?l20 ?c20 ?k20) (L2.bw KX G ?a21 ?l21 ?c21 ?k21) ?i0 ?i1 ?s0 ?h0 ?h1 ?h2 ?h3 ?y0 ?y1 ?y2 ?y3 ?y4 ?y5 ?y6 ?z0 ?z1 ?z2 ?z3 ?z4 ?z5 ?z6 ?z7 ?z8 ?z9 ?z10 ?z11 ?z12 ?z13 ?z14 ?z15 ?z16 ?z17 ?z18
  (case a0 | l0 | c0 | k0 | a1 | l1 | c1 | k1 | a2 | l2 | c2 | k2 | a3 | l3 | c3 | k3 | a4 | l4 | c4 | k4 | a5 | l5 | c5 | k5 | a6 | l6 | c6 | k6 | a7 | l7 | c7 | k7 | a8 | l8 | c8 | k8 | a9 | l9 | c9 | k9 | a10 | l10 | c10 | k10 | a11 | l11 | c11 | k11 | a12 | l12 | c12 | k12 | a13 | l13 | c13 | k13 | a14 | l14 | c14 | k14 | a15 | l15 | c15 | k15 | a16 | l16 | c16 | k16 | a17 | l17 | c17 | k17 | a18 | l18 | c18 | k18 | a19 | l19 | c19 | k19 | a20 | l20 | c20 | k20 | a21 | l21 | c21 | k21 | i0 | i1 | s0 | h0 | h1 | h2 | h3 => k_is)
  (case y0 | y1 | y2 | y3 | y4 | y5 | y6 => first | kernel_rfl | k_is)
  (case z0 | z1 | z2 | z3 | z4 | z5 | z6 | z7 | z8 | z9 | z10 | z11 | z12 | z13 | z14 | z15 | z16 | z17 | z18 => k_is)
#print axioms PySem.Challenge.cw_cellships_k66_no_picture_texts_holds
