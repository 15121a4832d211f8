import PyProof.Rows.All
import Wide.All
import OpenK.AllK
import Wide.FinOn
import Lean
import PyProof.EqAt
import PyProof.EqKinds
import PyProof.TupleCall
import PyProof.NeData
import PyProof.P3In
import PyProof.ListRange
import PyProof.TupleOfStr
import PyProof.Rows.SumAny
import PyProof.Rows.Range3
import PyProof.StrCalls
import PyProof.Rows.SetFrom
import PyProof.WalksMore
import PyProof.TupleOfSeq
import KE.KRevSl
import OpenK.KOwn
import KE.KIsNot
import KE.KTryMore
import PyProof.DictTable
import PyProof.Rows.TupDisplay
import PyProof.ReprLen
import PyProof.ReprRoads
import KE.KDictOf
import PyProof.AttrMissHeap
import PyProof.NeKinds
import PyProof.ZipIter
import PyProof.DictCompW
import PyProof.DictItems
import PyProof.DictWalks
import PyProof.DictDisplay
import PyProof.ExcAttrAll.ValueError
import PyProof.TupleKey
import PyProof.IsRules
import KE.KDictList
import KE.KDictSum
import PyProof.FactsAll.set_1
import PyProof.FactsAll.set_2
import PySem.Challenge.RW_cellships_k67_rule_texts
set_option Elab.async false
set_option linter.all false
set_option maxRecDepth 100000
namespace L2
open PySem PySem.Spec PyProof.Rows

abbrev Key := Sum Int Str
def keyIs : Key → Value → Bool
  | .inl k, v => Value.isInt k v
  | .inr x, v => Value.isStrOf x v
def keyH (w : World) : Key → Int
  | .inl k => hashInt k
  | .inr x => hashStr w x
theorem keyIs_shape : ∀ {k : Key} {v : Value}, keyIs k v = true → (∃ i t, k = Sum.inl i ∧ v = Value.int i t) ∨ (∃ x t, k = Sum.inr x ∧ v = Value.str x t)
  | .inl i, v, h => by
    obtain ⟨t, e⟩ := Value.isInt_shape (k := i) (v := v) h
    exact .inl ⟨i, t, rfl, e⟩
  | .inr x, v, h => by
    obtain ⟨t, e⟩ := Value.isStrOf_shape (x := x) (v := v) h
    exact .inr ⟨x, t, rfl, e⟩
theorem key_ll (a b : Int) : decide ((Sum.inl a : Key) = Sum.inl b) = (a == b) := by
  by_cases e : a = b
  · subst e; simp
  · have h : ¬ (Sum.inl a : Key) = Sum.inl b := fun q => e (Sum.inl.inj q)
    rw [decide_eq_false h]
    exact (beq_eq_false_iff_ne.mpr e).symm
theorem key_rr (a b : Str) : decide ((Sum.inr a : Key) = Sum.inr b) = decide (a = b) := by
  by_cases e : a = b
  · subst e; simp
  · have h : ¬ (Sum.inr a : Key) = Sum.inr b := fun q => e (Sum.inr.inj q)
    rw [decide_eq_false h, decide_eq_false e]
theorem key_lr (a : Int) (b : Str) : decide ((Sum.inl a : Key) = Sum.inr b) = false := decide_eq_false (fun q => nomatch q)
theorem key_rl (a : Str) (b : Int) : decide ((Sum.inr a : Key) = Sum.inl b) = false := decide_eq_false (fun q => nomatch q)

def mixKind (prog : Program) (w : World) : PySem.KeyKind prog w Key where
  is := keyIs
  hash := keyH w
  inj := fun v a b ha hb => by
    rcases keyIs_shape ha with ⟨i, t, rfl, rfl⟩ | ⟨x, t, rfl, rfl⟩
    · rcases keyIs_shape hb with ⟨j, u, rfl, e⟩ | ⟨y, u, rfl, e⟩
      · injection e with e1 _; rw [e1]
      · exact nomatch e
    · rcases keyIs_shape hb with ⟨j, u, rfl, e⟩ | ⟨y, u, rfl, e⟩
      · exact nomatch e
      · injection e with e1 _; rw [e1]
  byValue := fun k v h => by
    rcases keyIs_shape h with ⟨i, t, rfl, rfl⟩ | ⟨x, t, rfl, rfl⟩ <;> rfl
  pyHash := fun hv h => by
    rcases keyIs_shape hv with ⟨i, t, rfl, rfl⟩ | ⟨x, t, rfl, rfl⟩
    · exact wpAny_pyHash_int h
    · exact wpAny_pyHash_str h
  eqBool := fun hu hv h => by
    rcases keyIs_shape hu with ⟨i, t, rfl, rfl⟩ | ⟨x, t, rfl, rfl⟩
    · rcases keyIs_shape hv with ⟨j, u, rfl, rfl⟩ | ⟨y, u, rfl, rfl⟩
      · rw [key_ll] at h; exact wpAny_eqBool_int h
      · rw [key_lr] at h; exact SeqAt.EqAt.int_str i t y u _ _ _ _ h
    · rcases keyIs_shape hv with ⟨j, u, rfl, rfl⟩ | ⟨y, u, rfl, rfl⟩
      · rw [key_rl] at h; exact SeqAt.EqAt.str_int x t j u _ _ _ _ h
      · rw [key_rr] at h; exact wpAny_eqBool_str h
  «strs» := fun k x t v h => by
    rcases keyIs_shape h with ⟨i, u, rfl, e⟩ | ⟨y, u, rfl, e⟩
    · exact nomatch e
    · injection e with e1 _
      subst e1
      cases v <;> rfl

end L2

namespace L2
open PySem PySem.Spec PyProof.Rows

inductive V where
  | non | bl (b : Bool) | int (i : Int) | str (x : Str) | byt (b : Array UInt8) | flt (b : UInt64) | ref (a : Addr) | ty (n : String)
  deriving DecidableEq

def RelV : V → Value → Prop
  | .non, u => u = Value.none
  | .bl b, u => u = Value.bool b
  | .int i, u => ∃ t, u = Value.int i t
  | .str x, u => ∃ t, u = Value.str x t
  | .byt b, u => ∃ t, u = Value.bytes b t
  | .flt b, u => ∃ t, u = Value.float b t
  | .ref a, u => u = Value.ref a
  | .ty n, u => u = Value.type n

abbrev Vals : List V → List Value → Prop := Paired RelV
theorem Vals.length {xs : List V} {us : List Value} (r : Vals xs us) : xs.length = us.length := Paired.length r
theorem Vals.get : ∀ {xs : List V} {us : List Value} {i : Nat} {x : V}, Vals xs us → xs[i]? = some x → ∃ u, us[i]? = some u ∧ RelV x u
  | _, _, _, _, .nil, e => by simp at e
  | _, _, 0, _, .cons r _, e => by simp at e; subst e; exact ⟨_, rfl, r⟩
  | _, _, i + 1, x, .cons _ t, e => by
    obtain ⟨u, h1, h2⟩ := Vals.get (i := i) (x := x) t (by simpa using e)
    exact ⟨u, by simpa using h1, h2⟩
theorem Vals.set {x : V} {u : Value} (r : RelV x u) : ∀ {xs : List V} {us : List Value} (i : Nat), Vals xs us → Vals (xs.set i x) (us.set i u)
  | _, _, _, .nil => .nil
  | _, _, 0, .cons _ t => .cons r t
  | _, _, i + 1, .cons q t => .cons q (Vals.set r i t)
theorem Vals.append : ∀ {xs ys : List V} {us ws : List Value}, Vals xs us → Vals ys ws → Vals (xs ++ ys) (us ++ ws)
  | _, _, _, _, .nil, s => s
  | _, _, _, _, .cons r t, s => .cons r (Vals.append t s)
theorem Vals.take : ∀ {xs : List V} {us : List Value} (n : Nat), Vals xs us → Vals (xs.take n) (us.take n)
  | _, _, 0, _ => .nil
  | _, _, _ + 1, .nil => .nil
  | _, _, n + 1, .cons r t => .cons r (Vals.take n t)
theorem Vals.drop : ∀ {xs : List V} {us : List Value} (n : Nat), Vals xs us → Vals (xs.drop n) (us.drop n)
  | _, _, 0, r => r
  | _, _, _ + 1, .nil => .nil
  | _, _, n + 1, .cons _ t => Vals.drop n t
def RelO : Option V → Option Value → Prop
  | some v, some u => RelV v u
  | none, none => True
  | _, _ => False
def KV {κ : Type} : List (κ × V) → List (κ × Value) → Prop := Paired fun (p : κ × V) (q : κ × Value) => p.1 = q.1 ∧ RelV p.2 q.2

def kV : Key → V
  | .inl i => .int i
  | .inr x => .str x

inductive HO where
  /-- a list -/
  | lst (xs : List V)
  /-- a tuple (never changes) -/
  | tup (xs : List V)
  /-- a dict whose keys are ints and texts; one whose keys are tuples of ints and texts (the empty one is both) -/
  | dK (kvs : List (Key × V)) | dT (kvs : List (List Key × V))
  /-- a set of ints: its members, its size -/
  | set (S : Int → Bool) (n : Nat)
  /-- an instance of the class at C, its dict at dx, its attributes -/
  | ins (C dx : Addr) (fs : List (Str × V))
  /-- the dict of the instance at x -/
  | own (x : Addr)
  /-- the dict of an exception -/
  | xd (fs : List (Str × V))
  /-- a bound method, f of x -/
  | met (f x : Addr)
  /-- a range object lo, lo + 1, .. below hi -/
  | rng (lo hi : Int)
  /-- a thing that is known to the object (the script; a dict while a loop walks it): read, never written while it is so -/
  | frz (o : Obj) (u : HO)
  /-- a code object's table -/
  | tbl (ps : Array Value)
  /-- any other thing, by what is true of its one object (a def of one's own: SetO a S n := HO.ext fun h => ..) -/
  | ext (φ : Heap → Prop)

abbrev Hp := Addr → Option HO
def upd (H : Hp) (a : Addr) (o : HO) : Hp := fun b => if b = a then some o else H b
theorem upd_same {H : Hp} {a : Addr} {o : HO} : upd H a o a = some o := by unfold upd; rw [if_pos rfl]
theorem upd_ne {H : Hp} {a b : Addr} {o : HO} (h : b ≠ a) : upd H a o b = H b := by unfold upd; rw [if_neg h]
theorem ne_of_none {H : Hp} {a b : Addr} {o : HO} (h : H a = some o) (h' : H b = none) : a ≠ b := by
  intro e; subst e; rw [h] at h'; cases h'

section
variable (P : Program) (w : World)
def ObjOk (H : Hp) (h : Heap) (a : Addr) : HO → Prop
  | .lst xs => xs.length ≤ sizeLine ∧ ∃ (its : List Value) (n : Nat), Vals xs its ∧ h.get? a = some { cls := .type "list", data := .seq its.toArray n }
  | .tup xs => xs.length ≤ sizeLine ∧ ∃ its : List Value, Vals xs its ∧ IsTup h a its.toArray
  | .dK kvs => kvs.length ≤ sizeLine ∧ (a == sysModules) = false ∧ ∃ vs, KV kvs vs ∧ h.DictOf (mixKind P w) a vs
  | .dT kvs => kvs.length ≤ sizeLine ∧ (a == sysModules) = false ∧ ∃ xs : List (List Key × Addr × Value),
      Paired (fun (p : List Key × V) (q : List Key × Addr × Value) => p.1 = q.1 ∧ H q.2.1 = some (.tup (p.1.map kV)) ∧ RelV p.2 q.2.2) kvs xs ∧
      ∃ o es ep, h.get? a = some o ∧ o.ExactDict ∧ o.data = .dict es ep ∧ es.toList = xs.map (entryOfKey (tupleKind (mixKind P w))) ∧ (xs.map (·.1)).Nodup
  | .set S n => h.SetOf (intKind P w) a S n
  | .ins C dx fs => H dx = some (.own a) ∧ fs.length ≤ 1000 ∧ dx ≠ a ∧ h.get? a = some (PySem.W.instObj C dx) ∧
      ∃ mA, h.Ns1 dx mA ∧ (∀ f, RelO (fs.lookup f) (mA f)) ∧ PySem.Within mA (fs.map (·.1))
  | .own _ => ∃ o, h.get? a = some o
  | .xd fs => ∃ mA, h.Ns1 a mA ∧ ∀ f, RelO (fs.lookup f) (mA f)
  | .rng lo hi => ∃ t u v, h.get? a = some { cls := .type "range", data := .fields #[.int lo t, .int hi u, .int 1 v] }
  | .frz o u => h.get? a = some o ∧ ObjOk H h a u
  | .tbl ps => h.get? a = some { cls := .none, data := .fields ps }
  | .met f x => h.get? a = some (PySem.W.methodObj (.ref f) (.ref x))
  | .ext φ => φ h ∧ (∃ o, h.get? a = some o) ∧ ∀ h1 h2 : Heap, φ h1 → (∀ o, h1.get? a = some o → h2.get? a = some o) → φ h2
def HOk (H : Hp) (h : Heap) : Prop := ∀ a o, H a = some o → ObjOk P w H h a o
end

section
variable {P : Program} {w : World} {H H' : Hp} {h h' : Heap} {a : Addr} {o : HO}
theorem ObjOk.lt (x : ObjOk P w H h a o) : a < h.objs.size := by
  cases o with
  | lst xs => obtain ⟨_, _, _, _, e⟩ := x; exact Heap.lt_size e
  | tup xs => obtain ⟨_, _, _, p⟩ := x; exact p.lt
  | dK kvs => obtain ⟨_, _, _, _, o, _, _, e, _⟩ := x; exact Heap.lt_size e
  | dT kvs => obtain ⟨_, _, _, _, o, _, _, e, _⟩ := x; exact Heap.lt_size e
  | set S n => obtain ⟨o, _, _, _, e, _⟩ := x; exact Heap.lt_size e
  | ins C dx fs => obtain ⟨_, _, _, e, _⟩ := x; exact Heap.lt_size e
  | own y => obtain ⟨_, e⟩ := x; exact Heap.lt_size e
  | xd fs => obtain ⟨_, ⟨_, _, _, e, _⟩, _⟩ := x; exact Heap.lt_size e
  | rng lo hi => obtain ⟨_, _, _, e⟩ := x; exact Heap.lt_size e
  | frz ob u => obtain ⟨e, _⟩ := x; exact Heap.lt_size e
  | tbl ps => exact Heap.lt_size (show h.get? a = some _ from x)
  | met f y => exact Heap.lt_size (show h.get? a = some _ from x)
  | ext φ => obtain ⟨_, ⟨_, e⟩, _⟩ := x; exact Heap.lt_size e
theorem Paired.mapP {α β : Type} {F G : α → β → Prop} : ∀ {l₁ : List α} {l₂ : List β}, Paired F l₁ l₂ → (∀ a b, F a b → G a b) → Paired G l₁ l₂
  | _, _, .nil, _ => .nil
  | _, _, .cons r t, f => .cons (f _ _ r) (Paired.mapP t f)
theorem ObjOk.stay (x : ObjOk P w H h a o) (k : ∀ b u, (b = a ∨ H b = some (.own a)) → h.get? b = some u → h'.get? b = some u)
    (ho : ∀ b, H b = some (.own a) → H' b = some (.own a)) (ht : ∀ b xs, H b = some (.tup xs) → H' b = some (.tup xs)) : ObjOk P w H' h' a o := by
  induction o with
  | lst xs => obtain ⟨z, its, n, r, e⟩ := x; exact ⟨z, its, n, r, k _ _ (.inl rfl) e⟩
  | tup xs => obtain ⟨z, its, r, ob, e, c⟩ := x; exact ⟨z, its, r, ob, k _ _ (.inl rfl) e, c⟩
  | dK kvs => obtain ⟨z, y, vs, r, ob, es, ep, e, c⟩ := x; exact ⟨z, y, vs, r, ob, es, ep, k _ _ (.inl rfl) e, c⟩
  | dT kvs =>
    obtain ⟨z, y, xs, r, ob, es, ep, e, c⟩ := x
    exact ⟨z, y, xs, Paired.mapP r fun p q z => ⟨z.1, ht _ _ z.2.1, z.2.2⟩, ob, es, ep, k _ _ (.inl rfl) e, c⟩
  | set S n => obtain ⟨ob, es, ep, t, e, c⟩ := x; exact ⟨ob, es, ep, t, k _ _ (.inl rfl) e, c⟩
  | ins C dx fs =>
    obtain ⟨d, z, ne, e, mA, ⟨od, es, ep, e2, c⟩, r⟩ := x
    exact ⟨ho _ d, z, ne, k _ _ (.inl rfl) e, mA, ⟨od, es, ep, k _ _ (.inr d) e2, c⟩, r⟩
  | own y => obtain ⟨ob, e⟩ := x; exact ⟨ob, k _ _ (.inl rfl) e⟩
  | xd fs => obtain ⟨mA, ⟨od, es, ep, e, c⟩, r⟩ := x; exact ⟨mA, ⟨od, es, ep, k _ _ (.inl rfl) e, c⟩, r⟩
  | rng lo hi => obtain ⟨t, u, v, e⟩ := x; exact ⟨t, u, v, k _ _ (.inl rfl) e⟩
  | frz ob u ih => obtain ⟨e, q⟩ := x; exact ⟨k _ _ (.inl rfl) e, ih q⟩
  | tbl ps =>
    have e : h.get? a = some { cls := .none, data := .fields ps } := x
    show h'.get? a = some { cls := .none, data := .fields ps }
    exact k a _ (.inl rfl) e
  | met f y =>
    have e : h.get? a = some (PySem.W.methodObj (.ref f) (.ref y)) := x
    show h'.get? a = some (PySem.W.methodObj (.ref f) (.ref y))
    exact k a _ (.inl rfl) e
  | ext φ => obtain ⟨p, ⟨o, e⟩, st⟩ := x; exact ⟨st _ _ p fun o q => k _ _ (.inl rfl) q, ⟨o, k _ _ (.inl rfl) e⟩, st⟩
theorem HOk.lt (x : HOk P w H h) (e : H a = some o) : a < h.objs.size := (x a o e).lt
theorem HOk.fresh (x : HOk P w H h) (e : h.objs.size ≤ a) : H a = none := by
  cases q : H a with
  | none => rfl
  | some u => exact absurd (Nat.lt_of_lt_of_le (x.lt q) e) (Nat.lt_irrefl _)
theorem HOk.kept (x : HOk P w H h) (k : ∀ b u, h.get? b = some u → h'.get? b = some u) : HOk P w H h' := fun a o e =>
  (x a o e).stay (fun b u _ q => k b u q) (fun _ q => q) fun _ _ q => q
theorem HOk.laid (x : HOk P w H h) (k : ∀ b u, h.get? b = some u → h'.get? b = some u) (hp : h.objs.size ≤ a) (new : ObjOk P w (upd H a o) h' a o) : HOk P w (upd H a o) h' := fun b u e => by
  have hn := x.fresh hp
  by_cases hb : b = a
  · subst hb; rw [upd_same] at e; cases e; exact new
  · rw [upd_ne hb] at e
    exact (x b u e).stay (fun c v _ q => k c v q) (fun c q => by rw [upd_ne (ne_of_none q hn)]; exact q) fun c xs q => by rw [upd_ne (ne_of_none q hn)]; exact q
end

def Rd (H : Hp) (a : Addr) (u : HO) : Prop := H a = some u ∨ ∃ o, H a = some (.frz o u)
theorem Rd.ok {P : Program} {w : World} {H : Hp} {h : Heap} {a : Addr} {u : HO} (r : Rd H a u) (x : HOk P w H h) : ObjOk P w H h a u := by
  rcases r with r | ⟨o, r⟩
  · exact x a u r
  · obtain ⟨_, q⟩ := x a _ r
    exact q
def Mut : Option HO → Prop
  | some (.lst _) => True
  | some (.dK _) => True
  | some (.dT _) => True
  | some (.set _ _) => True
  | some (.ins _ _ _) => True
  | some (.ext _) => True
  | _ => False
section
variable {P : Program} {w : World} {H : Hp} {h h' : Heap} {x e : Addr} {o' : HO}
theorem HOk.write (ok : HOk P w H h) (mu : Mut (H x)) (he : e = x ∨ H e = some (.own x)) (k : ∀ b u, b ≠ e → h.get? b = some u → h'.get? b = some u) (heo : ∃ u, h'.get? e = some u)
    (new : ObjOk P w (upd H x o') h' x o') : HOk P w (upd H x o') h' := fun b u q => by
  have nown : ∀ c y, H c = some (.own y) → c ≠ x := fun c y r z => by subst z; rw [r] at mu; exact mu
  have ntup : ∀ c xs, H c = some (.tup xs) → c ≠ x := fun c xs r z => by subst z; rw [r] at mu; exact mu
  by_cases hb : b = x
  · subst hb; rw [upd_same] at q; cases q; exact new
  · rw [upd_ne hb] at q
    by_cases hbe : b = e
    · have q' : H b = some (.own x) := by
        rcases he with z | z
        · exact absurd (hbe.trans z) hb
        · rw [hbe]; exact z
      rw [q] at q'; cases q'
      obtain ⟨v, hv⟩ := heo
      exact ⟨v, by rw [hbe]; exact hv⟩
    · refine (ok b u q).stay (fun c v hc r => k c v ?_ r) (fun c r => by rw [upd_ne (nown c b r)]; exact r) fun c xs r => by rw [upd_ne (ntup c xs r)]; exact r
      rcases hc with rfl | hc
      · exact hbe
      · rintro rfl
        rcases he with z | z
        · exact nown c b hc z
        · rw [hc] at z; cases z; exact hb rfl
end

structure Un (fs ex : List Addr) (H H' : Hp) (h h' : Heap) : Prop where
  keep : ∀ b o, h.get? b = some o → H b = none → b ∉ fs → b ∉ ex → h'.get? b = some o
  slot : ∀ b o, h.get? b = some o → H b = none → b ∈ fs → b ∉ ex → ∃ sl, h'.get? b = some { o with slots := sl }
  free : ∀ b o, h.get? b = some o → H b = none → b ∉ ex → H' b = none
  there : ∀ b o, h.get? b = some o → b ∉ ex → ∃ o', h'.get? b = some o'
  tups : ∀ b xs, H b = some (.tup xs) → H' b = some (.tup xs)
  frzs : ∀ b o u, H b = some (.frz o u) → H' b = some (.frz o u)
  tbls : ∀ b ps, H b = some (.tbl ps) → ∃ more, H' b = some (.tbl (ps ++ more))
section
variable {fs fs' ex ex' : List Addr} {H H1 H2 : Hp} {h h1 h2 h' : Heap} {a x e : Addr} {o : HO}
theorem Un.any (u : Un fs ex H H1 h h1) {b : Addr} {ob : Obj} (q : h.get? b = some ob) (n : H b = none) (hx : b ∉ ex) : ∃ sl, h1.get? b = some { ob with slots := sl } := by
  by_cases hb : b ∈ fs
  · exact u.slot b ob q n hb hx
  · exact ⟨ob.slots, u.keep b ob q n hb hx⟩
theorem Un.kept (k : ∀ b u, h.get? b = some u → h'.get? b = some u) : Un fs ex H H h h' :=
  ⟨fun b ob q _ _ _ => k b ob q, fun b ob q _ _ _ => ⟨ob.slots, k b ob q⟩, fun _ _ _ n _ => n, fun b ob q _ => ⟨ob, k b ob q⟩, fun _ _ q => q, fun _ _ _ q => q, fun _ ps q => ⟨#[], by rw [q]; simp⟩⟩
theorem Un.refl : Un fs ex H H h h := Un.kept fun _ _ q => q
theorem Un.laid (k : ∀ b u, h.get? b = some u → h'.get? b = some u) (hp : h.objs.size ≤ a) (hn : H a = none) : Un fs ex H (upd H a o) h h' where
  keep := fun b u q _ _ _ => k b u q
  slot := fun b u q _ _ _ => ⟨u.slots, k b u q⟩
  free := fun b u q n _ => by rw [upd_ne (Nat.ne_of_lt (Nat.lt_of_lt_of_le (Heap.lt_size q) hp))]; exact n
  there := fun b u q _ => ⟨u, k b u q⟩
  tups := fun b xs q => by rw [upd_ne (ne_of_none q hn)]; exact q
  frzs := fun b u xs q => by rw [upd_ne (ne_of_none q hn)]; exact q
  tbls := fun b ps q => ⟨#[], by rw [upd_ne (ne_of_none q hn), q]; simp⟩
theorem Un.write (mu : Mut (H x)) (he : e = x ∨ H e = some (.own x)) (k : ∀ b u, b ≠ e → h.get? b = some u → h'.get? b = some u) (heo : ∃ u, h'.get? e = some u) : Un fs ex H (upd H x o) h h' := by
  have hx : ∀ b, H b = none → b ≠ x := fun b n z => by subst z; rw [n] at mu; exact mu
  have hb : ∀ b, H b = none → b ≠ e := fun b n z => by
    subst z
    rcases he with r | r
    · exact hx b n r
    · rw [n] at r; cases r
  have hm : ∀ b u, H b = some u → ¬ Mut (some u) → b ≠ x := fun b u q nm z => by subst z; rw [q] at mu; exact nm mu
  refine ⟨fun b u q n _ _ => k b u (hb b n) q, fun b u q n _ _ => ⟨u.slots, k b u (hb b n) q⟩, fun b u q n _ => by rw [upd_ne (hx b n)]; exact n, fun b u q _ => ?_,
    fun b xs q => by rw [upd_ne (hm b _ q fun z => z)]; exact q, fun b u xs q => by rw [upd_ne (hm b _ q fun z => z)]; exact q, fun b ps q => ⟨#[], by rw [upd_ne (hm b _ q fun z => z), q]; simp⟩⟩
  by_cases hbe : b = e
  · subst hbe; exact heo
  · exact ⟨u, k b u hbe q⟩
end

def trk (h : Heap) (H : Hp) : List Addr := (List.range h.objs.size).filter fun a => (H a).isSome
def hidT (h : Heap) (H : Hp) : Heap := PySem.W.hideAll h (trk h H)
theorem hidT_size (h : Heap) (H : Hp) : (hidT h H).objs.size = h.objs.size := PySem.W.hideAll_size _ _
theorem hidT_get {h : Heap} {H : Hp} {b : Addr} {o : Obj} (e : h.get? b = some o) (n : H b = none) : (hidT h H).get? b = some o :=
  PySem.W.hideAll_get _ e fun hm => by
    have q : (H b).isSome = true := (List.mem_filter.mp hm).2
    rw [n] at q; simp at q
theorem of_hidT {h : Heap} {H : Hp} {b : Addr} {o : Obj} (e : (hidT h H).get? b = some o) : h.get? b = some o ∧ H b = none := by
  have e' : h.get? b = some o := PySem.W.of_hideAll (trk h H) e
  refine ⟨e', ?_⟩
  cases q : H b with
  | none => rfl
  | some x =>
    have hm : b ∈ trk h H := List.mem_filter.mpr ⟨List.mem_range.mpr (Heap.lt_size e'), by simp [q]⟩
    have z : (hidT h H).get? b = none := PySem.W.hideAll_none (trk h H) hm
    rw [z] at e; cases e

def allNews (g h : Heap) (L : Addr) : List (Addr × Obj) := (List.range h.objs.size).filterMap fun a => if a = L ∨ (g.get? a).isSome = true then none else (h.get? a).map fun o => (a, o)
theorem mem_allNews {g h : Heap} {L a : Addr} {o : Obj} (h1 : a ≠ L) (h2 : g.get? a = none) (h3 : h.get? a = some o) : (a, o) ∈ allNews g h L :=
  List.mem_filterMap.mpr ⟨a, List.mem_range.mpr (Heap.lt_size h3), by simp [h1, h2, h3]⟩
theorem of_mem_allNews {g h : Heap} {L : Addr} {p : Addr × Obj} (hp : p ∈ allNews g h L) : p.1 ≠ L ∧ g.get? p.1 = none ∧ h.get? p.1 = some p.2 := by
  obtain ⟨b, _, e⟩ := List.mem_filterMap.mp hp
  split at e
  · cases e
  · rename_i hn
    cases q : h.get? b with
    | none => rw [q] at e; simp at e
    | some u =>
      rw [q] at e
      simp only [Option.map_some, Option.some.injEq] at e
      subst e
      refine ⟨fun z => hn (.inl z), ?_, q⟩
      show g.get? b = none
      cases r : g.get? b with
      | none => rfl
      | some v => exact (hn (.inr (by simp [r]))).elim
theorem news_all {g h : Heap} {L : Addr} : News g L h (allNews g h L) := fun p hp => let ⟨a, b, c⟩ := of_mem_allNews hp; ⟨c, a, b⟩
end L2

namespace L2
open PySem PySem.Spec PyProof.Rows

structure Mod (K : PySem.W.Frag) (mg : Str → Option Value) (base : Heap) : Prop where
  kin : K.In base
  glob : base.Ns mainGlobals mg
  blt : ∃ mb, base.Ns builtinsNs mb ∧ ∀ x : Str, x ≠ "__name__" → mb x = bootBuiltins x
  nolimit : base.NoLimit

structure Cx where
  prog : Program
  w : World
  K : PySem.W.Frag
  mg : Str → Option Value
  base : Heap
  A : Around
  N : List Str
  s₀ : Shared
  H₀ : Hp
  env : Env
  outer : List Env
  stack : List Env
  ex : List Addr
  fn : Str → Bool
  calm : Bool
  pn : List (Addr × Obj)
  xe : Value → Shared → Prop
def frs (l : List Env) : List Addr := l.filterMap (·.frame)
abbrev Cx.fs (X : Cx) : List Addr := frs X.outer

def Vis (sc : Scope) (x : Str) : Prop := sc.names.lookup x = some .local ∨ sc.names.lookup x = some .cell ∨ sc.names.lookup x = some .free
def Loc (sc : Scope) (x : Str) : Prop := sc.names.lookup x = some .local ∨ sc.names.lookup x = some .cell
def Look (env : Env) (h : Heap) (m : Str → Option Value) (x : Str) (u : Value) : Prop :=
  (env.kindOf x = some .local ∧ m x = some u) ∨ ((env.kindOf x = some .cell ∨ env.kindOf x = some .free) ∧ ∃ c, env.cells.lookup x = some c ∧ h.IsCell c (some u))

structure Cx.Ok (X : Cx) : Prop where
  mod : Mod X.K X.mg X.base
  kind : X.env.scope.kind = .function
  glob : X.env.globals = mainGlobals
  blt : X.env.builtins = builtinsNs
  above : X.s₀.heap.objs.size ≤ X.env.locals
  inj : ∀ x y c, X.env.cells.lookup x = some c → X.env.cells.lookup y = some c → x = y
  has : ∀ x, (X.env.kindOf x = some .cell ∨ X.env.kindOf x = some .free) → ∃ c, X.env.cells.lookup x = some c
  cab : ∀ x c, X.fn x = true → X.env.cells.lookup x = some c → X.s₀.heap.objs.size ≤ c
  hd : X.calm = true → X.A.handled = none
  frames : X.A.frames = some X.stack
  stk : X.stack = X.outer ∨ (X.stack = X.env :: X.outer ∧ X.env.frame = some X.env.locals)
  exf : ∀ b ∈ X.ex, b ≠ X.env.locals ∧ ∀ x c, X.env.cells.lookup x = some c → c ≠ b
  bs : ∀ b o, X.base.get? b = some o → X.s₀.heap.get? b = some o ∧ X.H₀ b = none
  bsz : X.base.objs.size ≤ X.s₀.heap.objs.size
  noex : ∀ b o, X.base.get? b = some o → b ∉ X.ex
  exfs : ∀ b ∈ X.ex, b ∉ X.fs
  funs : X.s₀.heap.FunFrames X.base X.outer
  frf : ∀ b ∈ X.fs, X.H₀ b = none

structure Inv (X : Cx) (pins : List (Addr × Obj)) (σ : List (Option V)) (H : Hp) (s : Shared) : Prop where
  ok : X.Ok
  os : s.os = X.s₀.os
  bare : AllBare s.gens
  base : Un X.fs X.ex X.H₀ H X.s₀.heap s.heap
  loc : ∃ m, s.heap.Ns X.env.locals m ∧ ∀ (i : Nat) (x : Str) (v : V), X.N[i]? = some x → σ[i]? = some (some v) → Vis X.env.scope x → ∃ u, RelV v u ∧ Look X.env s.heap m x u
  cell : ∀ x c, X.env.cells.lookup x = some c → ∃ v, s.heap.IsCell c v
  free : H X.env.locals = none
  freeC : ∀ x c, X.env.cells.lookup x = some c → H c = none
  pin : ∀ p ∈ X.pn ++ pins, s.heap.get? p.1 = some p.2 ∧ H p.1 = none ∧ p.1 ≠ X.env.locals ∧ p.1 ∉ X.fs ∧ ∀ v, p.2.data ≠ .cell v
  hok : HOk X.prog X.w H s.heap
  len : σ.length = X.N.length

section
variable {X : Cx} {pins : List (Addr × Obj)} {σ : List (Option V)} {H H' : Hp} {s : Shared} {h' : Heap}

theorem Cx.Ok.nofr (ok : X.Ok) {b : Addr} {o : Obj} (e : X.base.get? b = some o) : b ∉ X.fs := fun hb => by
  have := (ok.funs.mem hb).1
  rw [e] at this; cases this
theorem Inv.bs (I : Inv X pins σ H s) : ∀ b o, X.base.get? b = some o → s.heap.get? b = some o ∧ H b = none := fun b o e =>
  ⟨I.base.keep b o (I.ok.bs b o e).1 (I.ok.bs b o e).2 (I.ok.nofr e) (I.ok.noex b o e), I.base.free b o (I.ok.bs b o e).1 (I.ok.bs b o e).2 (I.ok.noex b o e)⟩
theorem Inv.bk (I : Inv X pins σ H s) : ∀ b o, X.base.get? b = some o → s.heap.get? b = some o := fun b o e => (I.bs b o e).1
theorem Inv.mod (I : Inv X pins σ H s) : Mod X.K X.mg X.base := I.ok.mod
theorem Inv.kIn (I : Inv X pins σ H s) : X.K.In s.heap := I.ok.mod.kin.keeps I.bk
theorem Inv.fr (I : Inv X pins σ H s) : ∃ m, Fr X.base X.env.locals s.heap m :=
  let ⟨m, hn, _⟩ := I.loc
  ⟨m, hn, I.bk, Nat.le_trans I.ok.bsz I.ok.above⟩
theorem Inv.lt (I : Inv X pins σ H s) : X.env.locals < s.heap.objs.size := let ⟨_, hn, _⟩ := I.loc; hn.lt
theorem Inv.sz (I : Inv X pins σ H s) : X.s₀.heap.objs.size ≤ s.heap.objs.size := Nat.le_trans I.ok.above (Nat.le_of_lt I.lt)
theorem Inv.nofs (I : Inv X pins σ H s) {a : Addr} (h : s.heap.objs.size ≤ a) : a ∉ X.fs := fun hb => by
  obtain ⟨_, o, ho, _⟩ := I.ok.funs.mem hb
  exact absurd (Nat.lt_of_lt_of_le (Heap.lt_size ho) (Nat.le_trans I.sz h)) (Nat.lt_irrefl _)
theorem Inv.cne (I : Inv X pins σ H s) : ∀ x c, X.env.cells.lookup x = some c → c ≠ X.env.locals := fun x c e z => by
  obtain ⟨v, o, ho, hd⟩ := I.cell x c e
  obtain ⟨m, ⟨o', es, ep, ho', hd', _⟩, _⟩ := I.loc
  rw [z, ho'] at ho; cases ho; rw [hd'] at hd; cases hd
theorem Inv.funs (I : Inv X pins σ H s) : s.heap.FunFrames X.base X.outer := by
  have all : ∀ (l : List Env), (∀ b ∈ frs l, b ∈ X.fs) → X.s₀.heap.FunFrames X.base l → s.heap.FunFrames X.base l := by
    intro l
    induction l with
    | nil => intro _ _; trivial
    | cons env r ih =>
      intro hs hl
      obtain ⟨hk, ⟨L, o, hf, hn, ho, hd⟩, hr⟩ := hl
      have hL : L ∈ X.fs := hs L (by unfold frs; rw [List.filterMap_cons, hf]; exact List.mem_cons_self)
      obtain ⟨sl, e⟩ := I.base.slot L o ho (I.ok.frf L hL) hL fun z => I.ok.exfs L z hL
      exact ⟨hk, ⟨L, _, hf, hn, e, hd⟩, ih (fun b hb => hs b (by unfold frs; rw [List.filterMap_cons, hf]; exact List.mem_cons_of_mem _ hb)) hr⟩
  exact all X.outer (fun _ hb => hb) I.ok.funs

theorem Inv.stack (I : Inv X pins σ H s) : s.heap.FunFrames X.base X.stack := by
  rcases I.ok.stk with e | ⟨e, hf⟩
  · rw [e]; exact I.funs
  · rw [e]
    obtain ⟨m, hn, _⟩ := I.loc
    refine .cons (by rw [I.ok.kind]; decide) hf hn ?_ I.funs
    exact Heap.get?_none_of_le (Nat.le_trans I.ok.bsz I.ok.above)
theorem Inv.stkSub (I : Inv X pins σ H s) : ∀ b ∈ frs X.stack, b ∈ X.env.locals :: X.fs := fun b hb => by
  rcases I.ok.stk with e | ⟨e, hf⟩
  · rw [e] at hb; exact List.mem_cons_of_mem _ hb
  · rw [e] at hb
    unfold frs at hb
    rw [List.filterMap_cons, hf] at hb
    exact hb
theorem Inv.stkFree (I : Inv X pins σ H s) : ∀ b ∈ frs X.stack, H b = none := fun b hb => by
  rcases List.mem_cons.mp (I.stkSub b hb) with e | hb
  · rw [e]; exact I.free
  · obtain ⟨_, o, ho, _⟩ := I.ok.funs.mem hb
    exact I.base.free b o ho (I.ok.frf b hb) fun z => I.ok.exfs b z hb

theorem Inv.step {g' : Array GenState} {t' : Nat} {d' : Drawn} {ch : List Addr} (I : Inv X pins σ H s)
    (hch : ∀ b ∈ ch, (b ∈ X.ex ∨ X.s₀.heap.objs.size ≤ b) ∧ b ≠ X.env.locals ∧ (∀ x c, X.env.cells.lookup x = some c → c ≠ b) ∧ ∀ p ∈ X.pn ++ pins, p.1 ≠ b)
    (keep : ∀ b o, b ≠ X.env.locals → b ∉ X.fs → b ∉ ch → s.heap.get? b = some o → H b = none → h'.get? b = some o)
    (slot : ∀ b o, b ≠ X.env.locals → b ∈ X.fs → b ∉ ch → s.heap.get? b = some o → H b = none → ∃ sl, h'.get? b = some { o with slots := sl }) (free : ∀ b o, b ∉ ch → s.heap.get? b = some o → H b = none → H' b = none)
    (there : ∀ b o, b ∉ ch → s.heap.get? b = some o → ∃ o', h'.get? b = some o')
    (tups : ∀ b xs, H b = some (.tup xs) → H' b = some (.tup xs)) (frzs : ∀ b o u, H b = some (.frz o u) → H' b = some (.frz o u)) (tbls : ∀ b ps, H b = some (.tbl ps) → ∃ more, H' b = some (.tbl (ps ++ more)))
    (ns : ∀ m, s.heap.Ns X.env.locals m → h'.Ns X.env.locals m) (hok : HOk X.prog X.w H' h') (hg : AllBare g') :
    Inv X pins σ H' { s with heap := h', gens := g', drawn := d', toks := t' } := by
  have neL : ∀ b o, X.s₀.heap.get? b = some o → b ≠ X.env.locals := fun b o e => Nat.ne_of_lt (Nat.lt_of_lt_of_le (Heap.lt_size e) I.ok.above)
  have neC : ∀ b o, X.s₀.heap.get? b = some o → b ∉ X.ex → b ∉ ch := fun b o e hx hb => by
    rcases (hch b hb).1 with z | z
    · exact hx z
    · exact absurd (Nat.lt_of_lt_of_le (Heap.lt_size e) z) (Nat.lt_irrefl _)
  have cellK : ∀ x c, X.env.cells.lookup x = some c → ∀ v, s.heap.IsCell c v → h'.IsCell c v := fun x c e v ⟨o, ho, hd⟩ => by
    have nch : c ∉ ch := fun z => (hch c z).2.2.1 x c e rfl
    by_cases hc : c ∈ X.fs
    · obtain ⟨sl, q⟩ := slot c o (I.cne x c e) hc nch ho (I.freeC x c e)
      exact ⟨_, q, hd⟩
    · exact ⟨o, keep c o (I.cne x c e) hc nch ho (I.freeC x c e), hd⟩
  refine ⟨I.ok, I.os, hg, ⟨fun b o e n hb hx => ?_, fun b o e n hb hx => ?_, fun b o e n hx => ?_, fun b o e hx => ?_, fun b xs e => tups b xs (I.base.tups b xs e), fun b o xs e => frzs b o xs (I.base.frzs b o xs e), fun b ps e => ?_⟩, ?_, fun x c e => ?_, ?_, fun x c e => ?_, fun p hp => ?_, hok, I.len⟩
  · exact keep b o (neL b o e) hb (neC b o e hx) (I.base.keep b o e n hb hx) (I.base.free b o e n hx)
  · obtain ⟨sl, e1⟩ := I.base.slot b o e n hb hx
    obtain ⟨sl', e2⟩ := slot b _ (neL b o e) hb (neC b o e hx) e1 (I.base.free b o e n hx)
    exact ⟨sl', e2⟩
  · obtain ⟨o', e1⟩ := I.base.there b o e hx
    exact free b o' (neC b o e hx) e1 (I.base.free b o e n hx)
  · obtain ⟨o', e1⟩ := I.base.there b o e hx
    exact there b o' (neC b o e hx) e1
  · obtain ⟨m1, e1⟩ := I.base.tbls b ps e
    obtain ⟨m2, e2⟩ := tbls b _ e1
    exact ⟨m1 ++ m2, by rw [e2, Array.append_assoc]⟩
  · obtain ⟨m, hn, hl⟩ := I.loc
    refine ⟨m, ns m hn, fun i x v e1 e2 e3 => ?_⟩
    obtain ⟨u, r, l⟩ := hl i x v e1 e2 e3
    refine ⟨u, r, ?_⟩
    rcases l with l | ⟨k, c, e, z⟩
    · exact .inl l
    · exact .inr ⟨k, c, e, cellK x c e _ z⟩
  · obtain ⟨v, z⟩ := I.cell x c e
    exact ⟨v, cellK x c e v z⟩
  · obtain ⟨m, ⟨o, _, _, ho, _⟩, _⟩ := I.loc
    exact free _ o (fun z => (hch _ z).2.1 rfl) ho I.free
  · obtain ⟨v, o, ho, hd⟩ := I.cell x c e
    exact free c o (fun z => (hch c z).2.2.1 x c e rfl) ho (I.freeC x c e)
  · obtain ⟨e, n, ne, nf, d⟩ := I.pin p hp
    have nch : p.1 ∉ ch := fun z => (hch p.1 z).2.2.2 p hp rfl
    exact ⟨keep p.1 p.2 ne nf nch e n, free p.1 p.2 nch e n, ne, nf, d⟩
theorem Inv.un {t' : Nat} (I : Inv X pins σ H s) (u : Un X.fs [] H H' s.heap h') (hok : HOk X.prog X.w H' h') : Inv X pins σ H' { s with heap := h', toks := t' } := by
  obtain ⟨m, ⟨o, es, ep, ho, r⟩, _⟩ := id I.loc
  obtain ⟨sl, hL⟩ := u.any ho I.free (by simp)
  exact I.step (g' := s.gens) (d' := s.drawn) (ch := []) (fun _ z => nomatch z) (fun b o _ hb _ e n => u.keep b o e n hb (by simp)) (fun b o _ hb _ e n => u.slot b o e n hb (by simp)) (fun b o _ e n => u.free b o e n (by simp)) (fun b o _ e => u.there b o e (by simp)) u.tups u.frzs u.tbls (fun m' hm => by
    obtain ⟨o', es', ep', ho', r'⟩ := hm
    rw [ho] at ho'; cases ho'
    exact ⟨_, es', ep', hL, r'⟩) hok I.bare
theorem Inv.call {g' : Array GenState} {t' : Nat} {d' : Drawn} {ch : List Addr} (I : Inv X pins σ H s) (u : Un (frs X.stack) ch H H' s.heap h') (hok : HOk X.prog X.w H' h') (hg : AllBare g')
    (hch : ∀ b ∈ ch, (b ∈ X.ex ∨ X.s₀.heap.objs.size ≤ b) ∧ b ≠ X.env.locals ∧ (∀ x c, X.env.cells.lookup x = some c → c ≠ b) ∧ ∀ p ∈ X.pn ++ pins, p.1 ≠ b) :
    Inv X pins σ H' { s with heap := h', gens := g', drawn := d', toks := t' } := by
  obtain ⟨m, ⟨o, es, ep, ho, r⟩, _⟩ := id I.loc
  obtain ⟨sl, hL⟩ := u.any ho I.free fun z => (hch _ z).2.1 rfl
  exact I.step (ch := ch) hch (fun b o hL hb hc e n => u.keep b o e n (fun z => (List.mem_cons.mp (I.stkSub b z)).elim hL hb) hc) (fun b o _ _ hc e n => u.any e n hc) (fun b o hc e n => u.free b o e n hc) (fun b o hc e => u.there b o e hc) u.tups u.frzs u.tbls (fun m' hm => by
    obtain ⟨o', es', ep', ho', r'⟩ := hm
    rw [ho] at ho'; cases ho'
    exact ⟨_, es', ep', hL, r'⟩) hok hg
theorem Inv.turned {t' : Nat} {it : Addr} (I : Inv X pins σ H s) (k : ∀ b o, b ≠ it → s.heap.get? b = some o → h'.get? b = some o) (hn : H it = none) (hL : it ≠ X.env.locals)
    (h1 : it ∈ X.ex ∨ X.s₀.heap.objs.size ≤ it) (h2 : ∀ x c, X.env.cells.lookup x = some c → c ≠ it) (h3 : ∀ p ∈ X.pn ++ pins, p.1 ≠ it) : Inv X pins σ H { s with heap := h', toks := t' } := by
  have nit : ∀ b u, H b = some u → b ≠ it := fun b u e z => by rw [z, hn] at e; cases e
  refine I.step (g' := s.gens) (d' := s.drawn) (ch := [it]) (fun b hb => ?_) (fun b o _ _ hc e _ => k b o (fun z => hc (by simp [z])) e) (fun b o _ _ hc e _ => ⟨o.slots, k b o (fun z => hc (by simp [z])) e⟩) (fun _ _ _ _ n => n)
    (fun b o hc e => ⟨o, k b o (fun z => hc (by simp [z])) e⟩) (fun _ _ e => e) (fun _ _ _ e => e) (fun b ps e => ⟨#[], by rw [e]; simp⟩) (fun m hm => ?_) (fun b u e => ?_) I.bare
  · have e : b = it := by simpa using hb
    subst e
    exact ⟨h1, hL, h2, h3⟩
  · obtain ⟨o, es, ep, ho, r⟩ := hm
    exact ⟨o, es, ep, k _ o (Ne.symm hL) ho, r⟩
  · refine (I.hok b u e).stay (fun c v hc q => k c v ?_ q) (fun _ q => q) fun _ _ q => q
    rcases hc with z | z
    · rw [z]; exact nit b u e
    · exact nit c _ z
theorem Inv.tok (I : Inv X pins σ H s) (t : Nat) : Inv X pins σ H { s with toks := t } := I.un (h' := s.heap) (t' := t) Un.refl I.hok
theorem Inv.kept {t' : Nat} (I : Inv X pins σ H s) (k : ∀ b u, s.heap.get? b = some u → h'.get? b = some u) : Inv X pins σ H { s with heap := h', toks := t' } := I.un (Un.kept k) (I.hok.kept k)
theorem Inv.laid {a : Addr} {o : HO} {t' : Nat} (I : Inv X pins σ H s) (k : ∀ b u, s.heap.get? b = some u → h'.get? b = some u) (hp : s.heap.objs.size ≤ a) (new : ObjOk X.prog X.w (upd H a o) h' a o) :
    Inv X pins σ (upd H a o) { s with heap := h', toks := t' } := I.un (Un.laid k hp (I.hok.fresh hp)) (I.hok.laid k hp new)
theorem Inv.write {x e : Addr} {o : HO} {t' : Nat} (I : Inv X pins σ H s) (mu : Mut (H x)) (he : e = x ∨ H e = some (.own x)) (k : ∀ b u, b ≠ e → s.heap.get? b = some u → h'.get? b = some u) (heo : ∃ u, h'.get? e = some u)
    (new : ObjOk X.prog X.w (upd H x o) h' x o) : Inv X pins σ (upd H x o) { s with heap := h', toks := t' } := I.un (Un.write mu he k heo) (I.hok.write mu he k heo new)
theorem Inv.weak {σ' : List (Option V)} (I : Inv X pins σ H s) (hl : σ'.length = σ.length) (w : ∀ (i : Nat) v, σ'[i]? = some (some v) → σ[i]? = some (some v)) : Inv X pins σ' H s :=
  ⟨I.ok, I.os, I.bare, I.base, let ⟨m, hn, hl'⟩ := I.loc; ⟨m, hn, fun i x v e1 e2 e3 => hl' i x v e1 (w i v e2) e3⟩, I.cell, I.free, I.freeC, I.pin, I.hok, hl.trans I.len⟩
theorem Inv.pins_of {pins' : List (Addr × Obj)} (I : Inv X pins σ H s) (h : ∀ p ∈ pins', s.heap.get? p.1 = some p.2 ∧ H p.1 = none ∧ p.1 ≠ X.env.locals ∧ p.1 ∉ X.fs ∧ ∀ v, p.2.data ≠ .cell v) : Inv X pins' σ H s :=
  ⟨I.ok, I.os, I.bare, I.base, I.loc, I.cell, I.free, I.freeC, fun p hp => (List.mem_append.mp hp).elim (fun z => I.pin p (List.mem_append_left _ z)) (h p), I.hok, I.len⟩

theorem nodup_ix {N : List Str} (hN : N.Nodup) {i j : Nat} {x : Str} (a : N[i]? = some x) (b : N[j]? = some x) : i = j := by
  obtain ⟨h1, e1⟩ := List.getElem?_eq_some_iff.mp a
  obtain ⟨h2, e2⟩ := List.getElem?_eq_some_iff.mp b
  exact (List.getElem_inj hN).mp (e1.trans e2.symm)

theorem store_ok2 {M : Model} {A : Around} {E : Value → Shared → Prop} {i : Nat} {x : Str} {v : V} {u : Value} {Q : Unit → Shared → Prop} (I : Inv X pins σ H s) (hN : X.N.Nodup) (hi : X.N[i]? = some x) (hx : Loc X.env.scope x) (r : RelV v u)
    (h : ∀ s', Inv X pins (σ.set i (some v)) H s' → (∃ a, Heap.SameBut a s.heap s'.heap ∧ (a = X.env.locals ∨ X.env.cells.lookup x = some a)) → Q () s') (hf : X.fn x = true ∨ X.env.scope.names.lookup x = some .local := by first | exact .inl rfl | exact .inr rfl | assumption) : wpAny M A (storeName X.env x u) Q E s := by
  obtain ⟨m, hn, hl⟩ := id I.loc
  have hcls : (X.env.scope.kind == .class || (X.env.scope.kind == .module && X.env.locals != X.env.globals)) = false := by rw [I.ok.kind]; rfl
  have hiσ : i < σ.length := by rw [I.len]; exact (List.getElem?_eq_some_iff.mp hi).1
  have cne := I.cne
  have tracked : ∀ {a : Addr} {h' : Heap}, (∃ o, s.heap.get? a = some o ∧ H a = none) → Heap.SameBut a s.heap h' → HOk X.prog X.w H h' := fun {a h'} ha hs b ob e => by
    obtain ⟨_, _, hfree⟩ := ha
    refine (I.hok b ob e).stay (fun c w' hc q => (hs.2 c ?_).trans q) (fun _ q => q) fun _ _ q => q
    rintro rfl
    rcases hc with rfl | hc
    · rw [hfree] at e; cases e
    · rw [hfree] at hc; cases hc
  rcases hx with hk | hk
  · refine wpAny_storeName_local hk hn (fun h' hn' hs => ?_) hcls
    obtain ⟨oL, _, _, hoL, _⟩ := id hn
    refine h _ ⟨I.ok, I.os, I.bare, ⟨fun b o e n hb hx => ?_, fun b o e n hb hx => ?_, I.base.free, fun b o e hx => ?_, I.base.tups, I.base.frzs, I.base.tbls⟩, ⟨_, hn', fun j y v' e1 e2 e3 => ?_⟩, fun y c e => ?_, I.free, I.freeC, fun p hp => ?_, tracked ⟨oL, hoL, I.free⟩ hs, by simpa using I.len⟩ ⟨_, hs, .inl rfl⟩
    · exact (hs.2 b (Nat.ne_of_lt (Nat.lt_of_lt_of_le (Heap.lt_size e) I.ok.above))).trans (I.base.keep b o e n hb hx)
    · obtain ⟨sl, e1⟩ := I.base.slot b o e n hb hx
      exact ⟨sl, (hs.2 b (Nat.ne_of_lt (Nat.lt_of_lt_of_le (Heap.lt_size e) I.ok.above))).trans e1⟩
    · obtain ⟨o', e1⟩ := I.base.there b o e hx
      exact ⟨o', (hs.2 b (Nat.ne_of_lt (Nat.lt_of_lt_of_le (Heap.lt_size e) I.ok.above))).trans e1⟩
    · by_cases hj : j = i
      · subst hj
        rw [hi] at e1; cases e1
        rw [List.getElem?_set_self hiσ] at e2
        cases e2
        exact ⟨u, r, .inl ⟨hk, by simp⟩⟩
      · rw [List.getElem?_set_ne (Ne.symm hj)] at e2
        obtain ⟨u', r', q⟩ := hl j y v' e1 e2 e3
        refine ⟨u', r', ?_⟩
        rcases q with ⟨k, e⟩ | ⟨k, c, e, z⟩
        · refine .inl ⟨k, ?_⟩
          have : y ≠ x := fun e => hj (nodup_ix hN e1 (e ▸ hi))
          simp [this, e]
        · exact .inr ⟨k, c, e, z.sameBut hs (cne y c e)⟩
    · obtain ⟨w', z⟩ := I.cell y c e
      exact ⟨w', z.sameBut hs (cne y c e)⟩
    · obtain ⟨e, n, ne, nf, d⟩ := I.pin p hp
      exact ⟨(hs.2 p.1 ne).trans e, n, ne, nf, d⟩
  · have hfn : X.fn x = true := by
      rcases hf with z | z
      · exact z
      · rw [z] at hk; cases hk
    obtain ⟨c, hc⟩ := I.ok.has x (.inl hk)
    obtain ⟨w', z⟩ := I.cell x c hc
    refine wpAny_storeName_cell I.ok.kind hk hc z (fun h' hc' hs => ?_)
    obtain ⟨oc, hoc, hocd⟩ := id z
    refine h { s with heap := h' } ⟨I.ok, I.os, I.bare, ⟨fun b o e n hb hx => ?_, fun b o e n hb hx => ?_, I.base.free, fun b o e hx => ?_, I.base.tups, I.base.frzs, I.base.tbls⟩, ⟨m, hn.sameBut hs (Ne.symm (cne x c hc)), fun j y v' e1 e2 e3 => ?_⟩, fun y c' e => ?_, I.free, I.freeC, fun p hp => ?_, tracked ⟨oc, hoc, I.freeC x c hc⟩ hs, by simpa using I.len⟩ ⟨c, hs, .inr hc⟩
    · exact (hs.2 b (Nat.ne_of_lt (Nat.lt_of_lt_of_le (Heap.lt_size e) (I.ok.cab x c hfn hc)))).trans (I.base.keep b o e n hb hx)
    · obtain ⟨sl, e1⟩ := I.base.slot b o e n hb hx
      exact ⟨sl, (hs.2 b (Nat.ne_of_lt (Nat.lt_of_lt_of_le (Heap.lt_size e) (I.ok.cab x c hfn hc)))).trans e1⟩
    · obtain ⟨o', e1⟩ := I.base.there b o e hx
      exact ⟨o', (hs.2 b (Nat.ne_of_lt (Nat.lt_of_lt_of_le (Heap.lt_size e) (I.ok.cab x c hfn hc)))).trans e1⟩
    · by_cases hj : j = i
      · subst hj
        rw [hi] at e1; cases e1
        rw [List.getElem?_set_self hiσ] at e2
        cases e2
        exact ⟨u, r, .inr ⟨.inl hk, c, hc, hc'⟩⟩
      · rw [List.getElem?_set_ne (Ne.symm hj)] at e2
        obtain ⟨u', r', q⟩ := hl j y v' e1 e2 e3
        refine ⟨u', r', ?_⟩
        rcases q with q | ⟨k, c', e, z'⟩
        · exact .inl q
        · refine .inr ⟨k, c', e, z'.sameBut hs ?_⟩
          rintro rfl
          exact hj (nodup_ix hN e1 (I.ok.inj _ _ _ e hc ▸ hi))
    · by_cases hcc : c' = c
      · subst hcc; exact ⟨_, hc'⟩
      · obtain ⟨w2, z2⟩ := I.cell y c' e
        exact ⟨w2, z2.sameBut hs hcc⟩
    · obtain ⟨e, n, ne, nf, d⟩ := I.pin p hp
      refine ⟨(hs.2 p.1 ?_).trans e, n, ne, nf, d⟩
      intro q
      rw [q, hoc] at e
      have q' : oc = p.2 := Option.some.inj e
      exact d w' (by rw [← q']; exact hocd)
theorem store_ok {M : Model} {A : Around} {E : Value → Shared → Prop} {i : Nat} {x : Str} {v : V} {u : Value} {Q : Unit → Shared → Prop} (I : Inv X pins σ H s) (hN : X.N.Nodup) (hi : X.N[i]? = some x) (hx : Loc X.env.scope x) (r : RelV v u)
    (h : ∀ s', Inv X pins (σ.set i (some v)) H s' → Q () s') (hf : X.fn x = true ∨ X.env.scope.names.lookup x = some .local := by first | exact .inl rfl | exact .inr rfl | assumption) : wpAny M A (storeName X.env x u) Q E s :=
  store_ok2 I hN hi hx r (fun s' I' _ => h s' I') hf
theorem Inv.call' {s' : Shared} {ch : List Addr} (I : Inv X pins σ H s) (ho : s'.os = s.os) (u : Un (frs X.stack) ch H H' s.heap s'.heap) (hok : HOk X.prog X.w H' s'.heap) (hg : AllBare s'.gens)
    (hch : ∀ b ∈ ch, (b ∈ X.ex ∨ X.s₀.heap.objs.size ≤ b) ∧ b ≠ X.env.locals ∧ (∀ x c, X.env.cells.lookup x = some c → c ≠ b) ∧ ∀ p ∈ X.pn ++ pins, p.1 ≠ b) : Inv X pins σ H' s' := by
  obtain ⟨h', g', d', t', o'⟩ := s'
  have e : o' = s.os := ho
  subst e
  exact I.call (g' := g') (t' := t') (d' := d') u hok hg hch
end

abbrev XK := Value → Option Addr → Hp → Prop
abbrev St := List (Option V)
abbrev VK := V → Hp → Prop
abbrev TE := St → Hp → VK → Prop
abbrev TT := St → Hp → (Bool → Hp → Prop) → Prop
abbrev TA := St → Hp → (List V → Hp → Prop) → Prop
structure Ends where
  nx : St → Hp → Prop
  rt : VK
  bk : St → Hp → Prop := fun _ _ => False
  ct : St → Hp → Prop := fun _ _ => False
abbrev TS := Ends → St → Hp → Prop

def EP (X : Cx) (pins : List (Addr × Obj)) (σ : St) (Q : VK) (u : Value) (s' : Shared) : Prop := ∃ v H', Inv X pins σ H' s' ∧ RelV v u ∧ Q v H'
def TP (X : Cx) (pins : List (Addr × Obj)) (σ : St) (Q : Bool → Hp → Prop) (b : Bool) (s' : Shared) : Prop := ∃ H', Inv X pins σ H' s' ∧ Q b H'
def AP (X : Cx) (pins : List (Addr × Obj)) (σ : St) (Q : List V → Hp → Prop) (us : List Value) (s' : Shared) : Prop := ∃ vs H', Inv X pins σ H' s' ∧ Vals vs us ∧ Q vs H'
def SP (X : Cx) (pins : List (Addr × Obj)) (D : Ends) (f : Flow) (s' : Shared) : Prop :=
  match f with
  | .next => ∃ σ' H', Inv X pins σ' H' s' ∧ D.nx σ' H'
  | .brk => ∃ σ' H', Inv X pins σ' H' s' ∧ D.bk σ' H'
  | .cont => ∃ σ' H', Inv X pins σ' H' s' ∧ D.ct σ' H'
  | .ret u => ∃ v σ' H', Inv X pins σ' H' s' ∧ RelV v u ∧ D.rt v H'

def PE (X : Cx) (e : Expr) (t : TE) : Prop :=
  ∀ (pins : List (Addr × Obj)) (s : Shared) (σ : St) (H : Hp) (Q : VK), Inv X pins σ H s → t σ H Q → wpAny (model X.prog X.w) X.A (eval e X.env) (EP X pins σ Q) X.xe s
def PT (X : Cx) (e : Expr) (t : TT) : Prop :=
  ∀ (pins : List (Addr × Obj)) (s : Shared) (σ : St) (H : Hp) (Q : Bool → Hp → Prop), Inv X pins σ H s → t σ H Q → wpAny (model X.prog X.w) X.A (isTrue e X.env (eval e X.env)) (TP X pins σ Q) X.xe s
def PW (X : Cx) (e : Expr) (t : TT) : Prop :=
  ∀ (whole : Sem Value) (pins : List (Addr × Obj)) (s : Shared) (σ : St) (H : Hp) (Q : Bool → Hp → Prop), Inv X pins σ H s → t σ H Q → wpAny (model X.prog X.w) X.A (isTrue e X.env whole) (TP X pins σ Q) X.xe s
theorem PW.pt {X : Cx} {e : Expr} {t : TT} (h : PW X e t) : PT X e t := h _
def PA (X : Cx) (es : List Expr) (t : TA) : Prop :=
  ∀ (pos : Pos) (pins : List (Addr × Obj)) (s : Shared) (σ : St) (H : Hp) (Q : List V → Hp → Prop), Inv X pins σ H s → t σ H Q → wpAny (model X.prog X.w) X.A (spliced (backTo pos (starEach es X.env))) (AP X pins σ Q) X.xe s
def PS (X : Cx) (st : Stmt) (t : TS) : Prop :=
  ∀ (pins : List (Addr × Obj)) (s : Shared) (σ : St) (H : Hp) (D : Ends), Inv X pins σ H s → t D σ H → wpAny (model X.prog X.w) X.A (exec st X.env) (SP X pins D) X.xe s
def PSs (X : Cx) (st : List Stmt) (t : TS) : Prop :=
  ∀ (pins : List (Addr × Obj)) (s : Shared) (σ : St) (H : Hp) (D : Ends), Inv X pins σ H s → t D σ H → wpAny (model X.prog X.w) X.A (execs st X.env) (SP X pins D) X.xe s
theorem thn {α : Type} {t : Sem α} {Q Q' : α → Shared → Prop} {M : Model} {A : Around} {E : Value → Shared → Prop} {s : Shared} (h : wpAny M A t Q E s) (hQ : ∀ a s, Q a s → Q' a s) : wpAny M A t Q' E s := wpAny_mono h hQ fun _ _ x => x
end L2

namespace L2
open PySem PySem.Spec PyProof.Rows
section
variable {X : Cx}

def tVar (i : Nat) : TE := fun σ H Q => ∃ v, σ[i]? = some (some v) ∧ Q v H
def tC (v : V) : TE := fun _ H Q => Q v H
theorem pe_var {i : Nat} {x : Str} {pos : Pos} (hN : X.N[i]? = some x) (hv : Vis X.env.scope x) (hd : (x == ("__debug__" : Str)) = false := by decide) (hcd : (x == ("__classdict__" : Str)) = false := by decide) : PE X (.Name x pos) (tVar i) := by
  intro pins s σ H Q I h
  obtain ⟨v, e, h⟩ := h
  obtain ⟨m, hn, hl⟩ := I.loc
  obtain ⟨u, r, l⟩ := hl i x v hN e hv
  have fin : EP X pins σ Q u s := ⟨v, H, I, r, h⟩
  rcases l with ⟨hk, hm⟩ | ⟨hk, c, hc, hcell⟩
  · exact wpAny_Name (wpAny_loadName_local I.ok.kind hk hn hm fin) hd
  · rcases hk with hk | hk
    · exact wpAny_Name (wpAny_loadName_cell I.ok.kind hk hc hcell fin) hd
    · exact wpAny_Name (wpAny_loadName_free I.ok.kind hk hc hcell fin hcd) hd
theorem pe_int {i j pos} : PE X (.Constant (.int i) j pos) (tC (.int i)) := fun _ _ _ H _ I h => wpAny_Constant_int ⟨.int i, H, I.tok _, ⟨_, rfl⟩, h⟩
theorem pe_bl {b j pos} : PE X (.Constant (.bool b) j pos) (tC (.bl b)) := fun _ _ _ H _ I h => Constant_bool ⟨.bl b, H, I, rfl, h⟩
theorem pe_non {j pos} : PE X (.Constant .none j pos) (tC .non) := fun _ _ _ H _ I h => Constant_none ⟨.non, H, I, rfl, h⟩
theorem pe_str {x j pos} : PE X (.Constant (.str x) j pos) (tC (.str x)) := fun _ _ _ H _ I h => Calls.Constant_str ⟨.str x, H, I.tok _, ⟨_, rfl⟩, h⟩

def Gl (X : Cx) (x : Str) : Prop := X.env.kindOf x = some .globalImplicit
theorem ld_glob {E : Value → Shared → Prop} {pins : List (Addr × Obj)} {s : Shared} {σ : St} {H : Hp} {x : Str} {u : Value} {pos : Pos} {Q : Value → Shared → Prop} (I : Inv X pins σ H s) (hg : Gl X x) (hm : X.mg x = some u) (h : Q u s)
    (hd : (x == ("__debug__" : Str)) = false := by decide) : wpAny (model X.prog X.w) X.A (eval (.Name x pos) X.env) Q E s :=
  Calls.Name_function_global I.ok.kind hg (Calls.loadGlobal_global (by rw [I.ok.glob]; exact I.mod.glob.keeps I.bk) hm h) hd
theorem ld_blt {E : Value → Shared → Prop} {pins : List (Addr × Obj)} {s : Shared} {σ : St} {H : Hp} {x : Str} {u : Value} {pos : Pos} {Q : Value → Shared → Prop} (I : Inv X pins σ H s) (hg : Gl X x) (hm : X.mg x = none) (hv : bootBuiltins x = some u) (h : Q u s)
    (hn : x ≠ "__name__" := by decide) (hd : (x == ("__debug__" : Str)) = false := by decide) : wpAny (model X.prog X.w) X.A (eval (.Name x pos) X.env) Q E s := by
  obtain ⟨mb, h1, h2⟩ := I.mod.blt
  exact Calls.Name_function_global I.ok.kind hg (Calls.loadGlobal_builtin (by rw [I.ok.glob]; exact I.mod.glob.keeps I.bk) hm (by rw [I.ok.blt]; exact h1.keeps I.bk) ((h2 x hn).trans hv) h) hd
theorem pe_glob {x : Str} {v : V} {u : Value} {pos : Pos} (hg : Gl X x) (hm : X.mg x = some u) (r : RelV v u) (hd : (x == ("__debug__" : Str)) = false := by decide) : PE X (.Name x pos) (tC v) :=
  fun _ _ _ H _ I h => ld_glob I hg hm ⟨v, H, I, r, h⟩ hd
theorem pe_bltn {x : Str} {v : V} {u : Value} {pos : Pos} (hg : Gl X x) (hm : X.mg x = none) (hv : bootBuiltins x = some u) (r : RelV v u) (hn : x ≠ "__name__" := by decide) (hd : (x == ("__debug__" : Str)) = false := by decide) : PE X (.Name x pos) (tC v) :=
  fun _ _ _ H _ I h => ld_blt I hg hm hv ⟨v, H, I, r, h⟩ hn hd

variable {a b : Expr} {ta tb : TE} {pos : Pos}
def tB (t : TE) : TT := fun σ H Q => t σ H fun x H1 => ∃ c, x = .bl c ∧ Q c H1
theorem pt_val {e : Expr} {t : TE} (h : PE X e t) (he : ∀ whole, isTrue e X.env whole = (do let v ← whole; standAt e.pos; holding [v] (truthy v)) := by intro _; rfl) : PT X e (tB t) := by
  intro pins s σ H Q I hw
  refine isTrue_plain (thn (h pins s σ H _ I hw) fun v s1 ⟨x, H1, I1, r1, q1⟩ => ?_) (he _)
  obtain ⟨d, rfl, q⟩ := q1
  cases r1
  exact wpAny_truthy_bool ⟨H1, I1, q⟩

variable {tA tB' : TT} {rest : List Expr}
def tAnd (t u : TT) : TT := fun σ H Q => t σ H fun c H1 => if c = true then u σ H1 Q else Q false H1
def tOr (t u : TT) : TT := fun σ H Q => t σ H fun c H1 => if c = true then Q true H1 else u σ H1 Q
def tNot (t : TT) : TT := fun σ H Q => t σ H fun c H1 => Q (!c) H1
theorem pw_and1 (ha : PT X a tA) : PW X (.BoolOp .And [a] pos) tA := by
  intro wh pins s σ H Q I h
  refine isTrue_and (thn (ha pins s σ H Q I h) fun c s1 e => ?_)
  cases c with
  | true => exact isTrue_and_nil e
  | false => exact e
theorem pw_or1 (ha : PT X a tA) : PW X (.BoolOp .Or [a] pos) tA := by
  intro wh pins s σ H Q I h
  refine isTrue_or (thn (ha pins s σ H Q I h) fun c s1 e => ?_)
  cases c with
  | false => exact isTrue_or_nil e
  | true => exact e
theorem pw_and (ha : PT X a tA) (hb : PW X (.BoolOp .And (b :: rest) pos) tB') : PW X (.BoolOp .And (a :: b :: rest) pos) (tAnd tA tB') := by
  intro wh pins s σ H Q I h
  refine isTrue_and (thn (ha pins s σ H _ I h) fun c s1 ⟨H1, I1, q1⟩ => ?_)
  cases c with
  | true => exact hb wh pins s1 σ H1 Q I1 q1
  | false => exact ⟨H1, I1, q1⟩
theorem pw_or (ha : PT X a tA) (hb : PW X (.BoolOp .Or (b :: rest) pos) tB') : PW X (.BoolOp .Or (a :: b :: rest) pos) (tOr tA tB') := by
  intro wh pins s σ H Q I h
  refine isTrue_or (thn (ha pins s σ H _ I h) fun c s1 ⟨H1, I1, q1⟩ => ?_)
  cases c with
  | true => exact ⟨H1, I1, q1⟩
  | false => exact hb wh pins s1 σ H1 Q I1 q1
theorem pt_not (ha : PT X a tA) : PT X (.UnaryOp .Not a pos) (tNot tA) := by
  intro pins s σ H Q I h
  exact isTrue_not (ha pins s σ H (fun c H1 => Q (!c) H1) I h)
def tAndV (ta tb : TE) : TE := fun σ H Q => ta σ H fun x H1 => ∃ c, x = .bl c ∧ if c = true then tb σ H1 Q else Q (.bl false) H1
def tNotV (ta : TE) : TE := fun σ H Q => ta σ H fun x H1 => ∃ c, x = .bl c ∧ Q (.bl (!c)) H1
theorem pe_one {op} {t : TE} (h : PE X a t) : PE X (.BoolOp op [a] pos) t := fun pins s σ H Q I hw => BoolOp_one (h pins s σ H Q I hw)
theorem pe_and (ha : PE X a ta) (hb : PE X (.BoolOp .And (b :: rest) pos) tb) : PE X (.BoolOp .And (a :: b :: rest) pos) (tAndV ta tb) := by
  intro pins s σ H Q I h
  refine BoolOp_and (thn (ha pins s σ H _ I h) fun v s1 ⟨x, H1, I1, r1, q1⟩ => ?_)
  obtain ⟨c, rfl, q1⟩ := q1
  cases r1
  refine wpAny_truthy_bool ?_
  cases c with
  | true => exact hb pins s1 σ H1 Q I1 q1
  | false => exact ⟨.bl false, H1, I1, rfl, q1⟩
theorem pe_not (ha : PE X a ta) : PE X (.UnaryOp .Not a pos) (tNotV ta) := by
  intro pins s σ H Q I h
  refine UnaryOp_ (thn (ha pins s σ H _ I h) fun v s1 ⟨x, H1, I1, r1, q1⟩ => ?_)
  obtain ⟨c, rfl, q1⟩ := q1
  cases r1
  exact not_of (wpAny_truthy_bool ⟨.bl (!c), H1, I1, rfl, q1⟩)
end
end L2

namespace L2
open PySem PySem.Spec PyProof.Rows

def SqL (K : PySem.W.Frag) (H : Hp) (a : Addr) (xs : List V) : Prop :=
  Rd H a (.lst xs) ∨
    ∃ (o : Obj) (its : Array Value) (n : Nat), K.lookup a = some o ∧ o.cls = .type "list" ∧ o.dict = none ∧ o.data = .seq its n ∧ its.size ≤ sizeLine ∧ Vals xs its.toList
def SqT (K : PySem.W.Frag) (H : Hp) (a : Addr) (xs : List V) : Prop :=
  Rd H a (.tup xs) ∨
    ∃ (o : Obj) (its : Array Value) (n : Nat), K.lookup a = some o ∧ o.cls = .type "tuple" ∧ o.data = .seq its n ∧ its.size ≤ sizeLine ∧ Vals xs its.toList
def absV : Value → Option V
  | .none => some .non
  | .bool b => some (.bl b)
  | .int i _ => some (.int i)
  | .str x _ => some (.str x)
  | .bytes b _ => some (.byt b)
  | .float b _ => some (.flt b)
  | .ref a => some (.ref a)
  | .type n => some (.ty n)
  | _ => none
theorem RelV.abs {x : V} {u : Value} (r : RelV x u) : absV u = some x := by
  cases x with
  | non => cases r; rfl
  | bl _ => cases r; rfl
  | int _ => obtain ⟨t, rfl⟩ := r; rfl
  | str _ => obtain ⟨t, rfl⟩ := r; rfl
  | byt _ => obtain ⟨t, rfl⟩ := r; rfl
  | flt _ => obtain ⟨t, rfl⟩ := r; rfl
  | ref _ => cases r; rfl
  | ty _ => cases r; rfl
theorem RelV.inj {x y : V} {u : Value} (r : RelV x u) (q : RelV y u) : x = y := Option.some.inj (r.abs.symm.trans q.abs)
theorem Vals.inj : ∀ {xs ys : List V} {us : List Value}, Vals xs us → Vals ys us → xs = ys
  | _, _, _, .nil, .nil => rfl
  | _, _, _, .cons r t, .cons r' t' => by rw [r.inj r', Vals.inj t t']
section
variable {X : Cx} {pins : List (Addr × Obj)} {σ : St} {H : Hp} {s : Shared} {a : Addr} {xs ys : List V}
theorem Inv.list (I : Inv X pins σ H s) (h : SqL X.K H a xs) : ∃ its : List Value, Vals xs its ∧ PlainL s.heap a its.toArray ∧ xs.length ≤ sizeLine := by
  rcases h with h | ⟨o, its, n, hk, hc, hd, hs, hz, r⟩
  · obtain ⟨z, its, n, r, e⟩ := h.ok I.hok
    exact ⟨its, r, ⟨_, n, e, rfl, rfl, rfl⟩, z⟩
  · refine ⟨its.toList, r, ⟨o, n, I.kIn a o hk, hc, hd, by simpa using hs⟩, ?_⟩
    have e := r.length
    simp only [Array.length_toList] at e
    omega
theorem Inv.tuple (I : Inv X pins σ H s) (h : SqT X.K H a xs) : ∃ its : List Value, Vals xs its ∧ IsTup s.heap a its.toArray ∧ xs.length ≤ sizeLine := by
  rcases h with h | ⟨o, its, n, hk, hc, hs, hz, r⟩
  · obtain ⟨z, its, r, p⟩ := h.ok I.hok
    exact ⟨its, r, p, z⟩
  · refine ⟨its.toList, r, ⟨o, I.kIn a o hk, hc, n, by simpa using hs⟩, ?_⟩
    have e := r.length
    simp only [Array.length_toList] at e
    omega
theorem Inv.list_inj (I : Inv X pins σ H s) (h : SqL X.K H a xs) (h' : SqL X.K H a ys) : xs = ys := by
  obtain ⟨its, r, ⟨o, n, e, _, _, d⟩, _⟩ := I.list h
  obtain ⟨its', r', ⟨o', n', e', _, _, d'⟩, _⟩ := I.list h'
  rw [e] at e'; cases e'
  rw [d] at d'
  injection d' with d1 _
  have : its = its' := by simpa using congrArg Array.toList d1
  subst this
  exact r.inj r'
theorem Inv.tuple_inj (I : Inv X pins σ H s) (h : SqT X.K H a xs) (h' : SqT X.K H a ys) : xs = ys := by
  obtain ⟨its, r, ⟨o, e, _, n, d⟩, _⟩ := I.tuple h
  obtain ⟨its', r', ⟨o', e', _, n', d'⟩, _⟩ := I.tuple h'
  rw [e] at e'; cases e'
  rw [d] at d'
  injection d' with d1 _
  have : its = its' := by simpa using congrArg Array.toList d1
  subst this
  exact r.inj r'
end

abbrev Cx.wish (X : Cx) (E : Value → Shared → Prop) : Cx := { X with xe := E }
abbrev Cx.nox (X : Cx) : Cx := X.wish fun _ _ => False
theorem Cx.Ok.wish {X : Cx} (ok : X.Ok) (E : Value → Shared → Prop) : (X.wish E).Ok :=
  ⟨ok.mod, ok.kind, ok.glob, ok.blt, ok.above, ok.inj, ok.has, ok.cab, ok.hd, ok.frames, ok.stk, ok.exf, ok.bs, ok.bsz, ok.noex, ok.exfs, ok.funs, ok.frf⟩
theorem Cx.Ok.unwish {X : Cx} {E : Value → Shared → Prop} (ok : (X.wish E).Ok) : X.Ok :=
  ⟨ok.mod, ok.kind, ok.glob, ok.blt, ok.above, ok.inj, ok.has, ok.cab, ok.hd, ok.frames, ok.stk, ok.exf, ok.bs, ok.bsz, ok.noex, ok.exfs, ok.funs, ok.frf⟩
section
variable {X : Cx} {pins : List (Addr × Obj)} {σ : St} {H : Hp} {s : Shared} {E : Value → Shared → Prop}
theorem Inv.wish (I : Inv X pins σ H s) (E : Value → Shared → Prop) : Inv (X.wish E) pins σ H s := ⟨I.ok.wish E, I.os, I.bare, I.base, I.loc, I.cell, I.free, I.freeC, I.pin, I.hok, I.len⟩
theorem Inv.unwish (I : Inv (X.wish E) pins σ H s) : Inv X pins σ H s := ⟨I.ok.unwish, I.os, I.bare, I.base, I.loc, I.cell, I.free, I.freeC, I.pin, I.hok, I.len⟩
theorem SP.unwish {D : Ends} {f : Flow} {s' : Shared} (h : SP (X.wish E) pins D f s') : SP X pins D f s' := by
  cases f with
  | next => obtain ⟨σ', H', I, q⟩ := h; exact ⟨σ', H', I.unwish, q⟩
  | brk => obtain ⟨σ', H', I, q⟩ := h; exact ⟨σ', H', I.unwish, q⟩
  | cont => obtain ⟨σ', H', I, q⟩ := h; exact ⟨σ', H', I.unwish, q⟩
  | ret u => obtain ⟨v, σ', H', I, r, q⟩ := h; exact ⟨v, σ', H', I.unwish, r, q⟩
theorem PSs.nox {st : List Stmt} {t : TS} (h : PSs X.nox st t) : PSs X st t := fun pins s σ H D I hw =>
  wpAny_mono (h pins s σ H D (I.wish _) hw) (fun _ _ q => q.unwish) fun _ _ z => False.elim z
end

section
variable {X : Cx} {st : Stmt} {rest : List Stmt} {t u : TS} {e : Expr} {te : TE} {pos : Pos}
def tNext : TS := fun D σ H => D.nx σ H
def tSeq (t u : TS) : TS := fun D σ H => t { D with nx := u D } σ H
theorem pss_nil : PSs X [] tNext := fun _ _ σ H _ I h => wpAny_execs_nil ⟨σ, H, I, h⟩
theorem pss_cons (h1 : PS X st t) (h2 : PSs X rest u) : PSs X (st :: rest) (tSeq t u) := by
  intro pins s σ H D I h
  refine wpAny_execs_cons (thn (h1 pins s σ H { D with nx := u D } I h) fun f s1 q => ?_)
  cases f with
  | next =>
    obtain ⟨σ', H', I', q⟩ := q
    exact h2 pins s1 σ' H' D I' q
  | ret v => exact q
  | brk => exact q
  | cont => exact q
theorem pss_one (h1 : PS X st t) : PSs X [st] t := by
  intro pins s σ H D I h
  refine wpAny_execs_cons (thn (h1 pins s σ H D I h) fun f s1 q => ?_)
  cases f with
  | next => exact wpAny_execs_nil q
  | ret v => exact q
  | brk => exact q
  | cont => exact q
theorem Inv.quiet {pins : List (Addr × Obj)} {σ : St} {H : Hp} {s : Shared} (I : Inv X pins σ H s) : interactive X.env = false := by simp [interactive, I.ok.kind]
def tDrop (te : TE) : TS := fun D σ H => te σ H fun _ H1 => D.nx σ H1
theorem ps_expr (he : PE X e te) (hs : swapsWith e none pos.line X.env = pure false := by rfl) : PS X (.Expr e pos) (tDrop te) := by
  intro pins s σ H D I h
  exact wpAny_Expr_any (thn (he pins s σ H _ I h) fun v s1 ⟨x, H1, I1, r1, q1⟩ => ⟨σ, H1, I1, q1⟩) I.quiet hs
def tRet (te : TE) : TS := fun D σ H => te σ H D.rt
theorem ps_ret (he : PE X e te) : PS X (.Return (some e) pos) (tRet te) := by
  intro pins s σ H D I h
  exact wpAny_Return_some (thn (he pins s σ H _ I h) fun v s1 ⟨x, H1, I1, r1, q1⟩ => ⟨x, σ, H1, I1, r1, q1⟩)
def tIfS (c : TT) (t u : TS) : TS := fun D σ H => c σ H fun b H1 => if b = true then t D σ H1 else u D σ H1
theorem ps_if {c : Expr} {a b : List Stmt} {tc : TT} (hc : PT X c tc) (ha : PSs X a t) (hb : PSs X b u) : PS X (.If c a b pos) (tIfS tc t u) := by
  intro pins s σ H D I h
  refine wpAny_If (thn (hc pins s σ H _ I h) fun d s1 ⟨H1, I1, q1⟩ => ?_)
  cases d with
  | true => exact ha pins s1 σ H1 D I1 q1
  | false => exact hb pins s1 σ H1 D I1 q1
def tNever : TS := fun _ _ _ => False
theorem ps_never : PS X st tNever := fun _ _ _ _ _ _ h => h.elim
theorem pss_never {sts : List Stmt} : PSs X sts tNever := fun _ _ _ _ _ _ h => h.elim
end

abbrev TG := V → St → Hp → (St → Hp → Prop) → Prop
abbrev TGs := List V → St → Hp → (St → Hp → Prop) → Prop
def PG (X : Cx) (target : Expr) (t : TG) : Prop :=
  ∀ (pins : List (Addr × Obj)) (s : Shared) (σ : St) (H : Hp) (v : V) (u : Value) (Q : St → Hp → Prop), Inv X pins σ H s → RelV v u → t v σ H Q →
    wpAny (model X.prog X.w) X.A (assign target X.env u) (fun _ s' => ∃ σ' H', Inv X pins σ' H' s' ∧ Q σ' H') X.xe s
def PGs (X : Cx) (ts : List Expr) (t : TGs) : Prop :=
  ∀ (pins : List (Addr × Obj)) (s : Shared) (σ : St) (H : Hp) (vs : List V) (us : List Value) (Q : St → Hp → Prop), Inv X pins σ H s → Vals vs us → t vs σ H Q →
    wpAny (model X.prog X.w) X.A (assignInOrder ((assignEach ts X.env).map (·.2)) us) (fun _ s' => ∃ σ' H', Inv X pins σ' H' s' ∧ Q σ' H') X.xe s
abbrev TSet := V → V → V → Hp → (Hp → Prop) → Prop
def PSet (X : Cx) (t : TSet) : Prop :=
  ∀ (pins : List (Addr × Obj)) (s : Shared) (σ : St) (H : Hp) (o i v : V) (ov iv u : Value) (Q : Hp → Prop), Inv X pins σ H s → RelV o ov → RelV i iv → RelV v u → t o i v H Q →
    wpAny (model X.prog X.w) X.A (setItem ov iv u) (fun _ s' => ∃ H', Inv X pins σ H' s' ∧ Q H') X.xe s
section
variable {X : Cx} {pos : Pos}
def gName (i : Nat) : TG := fun v σ H Q => Q (σ.set i (some v)) H
theorem pg_name {i : Nat} {x : Str} (hN : X.N.Nodup) (hi : X.N[i]? = some x) (hx : Loc X.env.scope x) (hf : X.fn x = true ∨ X.env.scope.names.lookup x = some .local := by first | exact .inl rfl | exact .inr rfl | assumption) : PG X (.Name x pos) (gName i) := by
  intro pins s σ H v u Q I r h
  exact wpAny_assign_Name (store_ok I hN hi hx r (fun s' I' => ⟨_, H, I', h⟩) hf)
def gNil : TGs := fun vs σ H Q => vs = [] ∧ Q σ H
def gCons (t : TG) (u : TGs) : TGs := fun vs σ H Q => ∃ v r, vs = v :: r ∧ t v σ H fun σ' H' => u r σ' H' Q
theorem pgs_nil : PGs X [] gNil := by
  intro pins s σ H vs us Q I r h
  obtain ⟨e, h⟩ := h
  subst e
  cases r
  exact assignInOrder_nil ⟨σ, H, I, h⟩
theorem pgs_cons {e : Expr} {es : List Expr} {t : TG} {u : TGs} (h1 : PG X e t) (h2 : PGs X es u)
    (hs : (assignEach (e :: es) X.env).map (·.2) = assign e X.env :: (assignEach es X.env).map (·.2) := by rfl) : PGs X (e :: es) (gCons t u) := by
  intro pins s σ H vs us Q I r h
  obtain ⟨v, vr, e1, h⟩ := h
  subst e1
  cases r with
  | cons r rr =>
    rw [hs]
    refine assignInOrder_cons (thn (h1 pins s σ H _ _ _ I r h) fun _ s1 ⟨σ1, H1, I1, q1⟩ => ?_)
    exact h2 pins s1 σ1 H1 _ _ Q I1 rr q1
def gTup (K : PySem.W.Frag) (n : Nat) (t : TGs) : TG := fun v σ H Q => ∃ a xs, v = .ref a ∧ SqT K H a xs ∧ xs.length = n ∧ t xs σ H Q
theorem pg_tup {es : List Expr} {k : Nat} {t : TGs} {n : Nat} (hc : X.calm = true) (h : PGs X es t)
    (hn : (assignEach es X.env).length = n := by rfl) (hst : (assignEach es X.env).findIdx? (·.1) = none := by rfl) : PG X (.Tuple es k pos) (gTup X.K n t) := by
  intro pins s σ H v u Q I r hw
  obtain ⟨a, xs, e1, hq, hl, hw⟩ := hw
  subst e1
  cases r
  obtain ⟨its, rv, ht, hz⟩ := I.tuple hq
  refine assign_Tuple_tuple (I.ok.hd hc) ht (by simp [hn, ← hl, rv.length]) hst fun h' hx => ?_
  have I1 : Inv X pins σ H { s with heap := h' } := I.kept (t' := s.toks) fun b o e => hx b o (Nat.ne_of_lt (Heap.lt_size e)) e
  exact h pins _ σ H xs _ Q I1 (by simpa using rv) hw
def gSub (to ti : TE) (t : TSet) : TG := fun v σ H Q => to σ H fun o H1 => ti σ H1 fun i H2 => t o i v H2 fun H3 => Q σ H3
theorem pg_sub {o i : Expr} {to ti : TE} {t : TSet} (ho : PE X o to) (hi : PE X i ti) (hs : PSet X t)
    (ha : ∀ v, assign (.Subscript o i pos) X.env v = (do
      let ov ← holding [v] (eval o X.env)
      let iv ← holding [v, ov] (eval i X.env)
      standAt pos
      holding [v, ov, iv] (setItem ov iv v)
      release [v, ov, iv] []) := by intro _; rfl) : PG X (.Subscript o i pos) (gSub to ti t) := by
  intro pins s σ H v u Q I r h
  rw [ha]
  refine wpAny_bind (wpAny_holding (thn (ho pins s σ H _ I h) fun ov s1 ⟨x, H1, I1, r1, q1⟩ => ?_))
  refine wpAny_bind (wpAny_holding (thn (hi pins s1 σ H1 _ I1 q1) fun iv s2 ⟨y, H2, I2, r2, q2⟩ => ?_))
  refine wpAny_bind (wpAny_standAt (wpAny_bind (wpAny_holding (thn (hs pins s2 σ H2 x y v ov iv u _ I2 r1 r2 r q2) fun _ s3 ⟨H3, I3, q3⟩ => ?_))))
  exact wpAny_release ⟨σ, H3, I3, q3⟩
def tAsg (te : TE) (g : TG) : TS := fun D σ H => te σ H fun x H1 => g x σ H1 D.nx
theorem ps_asg {tg e : Expr} {te : TE} {g : TG} (he : PE X e te) (hg : PG X tg g) (hs : swapsWithSole [tg] e pos.line X.env = pure false := by rfl) (hw : swappedStores [tg] e X.env = pure none := by rfl)
    (h1 : (assignEach [tg] X.env).map (·.2) = [assign tg X.env] := by rfl) : PS X (.Assign [tg] e pos) (tAsg te g) := by
  intro pins s σ H D I h
  refine wpAny_Assign_stores (thn (he pins s σ H _ I h) fun v s1 ⟨x, H1, I1, r1, q1⟩ => ?_) hs hw
  rw [h1]
  exact thn (hg pins s1 σ H1 x v _ I1 r1 q1) fun _ s2 q => q
theorem ps_set {i : Nat} {x : Str} {e : Expr} {te : TE} {pos' : Pos} (hN : X.N.Nodup) (hi : X.N[i]? = some x) (hx : Loc X.env.scope x) (he : PE X e te) (hs : swapsWith e (some (.Name x pos')) pos.line X.env = pure false := by rfl) (hf : X.fn x = true ∨ X.env.scope.names.lookup x = some .local := by first | exact .inl rfl | exact .inr rfl | assumption) :
    PS X (.Assign [.Name x pos'] e pos) (tAsg te (gName i)) := by
  intro pins s σ H D I h
  refine wpAny_Assign_Name (thn (he pins s σ H _ I h) fun v s1 ⟨y, H1, I1, r1, q1⟩ => ?_) hs
  exact store_ok I1 hN hi hx r1 (fun s2 I2 => ⟨_, H1, I2, q1⟩) hf
end

section
variable {X : Cx} {pos : Pos}
end

structure It where
  go : Nat → Hp → Prop
  yld : Nat → Hp → V → Hp → Prop
  stop : Nat → Hp → Prop
def FpOk (X : Cx) (pins : List (Addr × Obj)) (H : Hp) (b : Addr) : Prop :=
  H b = none ∧ b ≠ X.env.locals ∧ b ∉ X.fs ∧ (b ∈ X.ex ∨ X.s₀.heap.objs.size ≤ b) ∧ (∀ x c, X.env.cells.lookup x = some c → c ≠ b) ∧ ∀ p ∈ X.pn ++ pins, p.1 ≠ b
theorem Inv.fpOk {X : Cx} {pins : List (Addr × Obj)} {σ : St} {H H' : Hp} {s : Shared} {b : Addr} (I : Inv X pins σ H s) (hb : s.heap.objs.size ≤ b) (hn : H' b = none) : FpOk X pins H' b := by
  refine ⟨hn, Nat.ne_of_gt (Nat.lt_of_lt_of_le I.lt hb), I.nofs hb, .inr (Nat.le_trans I.sz hb), fun x c e z => ?_, fun p hp z => ?_⟩
  · obtain ⟨v, q⟩ := I.cell x c e
    exact absurd (Nat.lt_of_lt_of_le q.lt (by rw [z]; exact hb)) (Nat.lt_irrefl _)
  · exact absurd (Nat.lt_of_lt_of_le (Heap.lt_size (I.pin p hp).1) (by rw [z]; exact hb)) (Nat.lt_irrefl _)
structure Turn (P : Program) (w : World) (K : PySem.W.Frag) (tg : Expr) (J : It) (fp : List Addr) (it : Addr) (tn : Nat → Heap → Prop) : Prop where
  mem : it ∈ fp
  obj : ∀ i h, tn i h → ∀ b ∈ fp, ∃ o, h.get? b = some o ∧ ∀ v, o.data ≠ .cell v
  keep : ∀ i h h', tn i h → (∀ b ∈ fp, ∀ o, h.get? b = some o → h'.get? b = some o) → tn i h'
  item : ∀ (X : Cx), X.prog = P → X.w = w → X.K = K → X.calm = true → ∀ (i : Nat) (pins : List (Addr × Obj)) (s : Shared) (σ : St) (H : Hp) (E : Value → Shared → Prop), Inv X pins σ H s → (∀ b ∈ fp, FpOk X pins H b) → tn i s.heap → J.go i H →
    wpAny (model P w) X.A (pyNext (.ref it)) (fun r s1 => ∃ u, r = some u ∧
      wpAny (model P w) X.A (letOwnedTupleGo tg (.ref it) u) (fun _ s2 => ∃ x H', Inv X pins σ H' s2 ∧ RelV x u ∧ J.yld i H x H' ∧ tn (i + 1) s2.heap ∧ ∀ b ∈ fp, H' b = none) E s1) E s
  done : ∀ (X : Cx), X.prog = P → X.w = w → X.K = K → X.calm = true → ∀ (i : Nat) (pins : List (Addr × Obj)) (s : Shared) (σ : St) (H : Hp) (E : Value → Shared → Prop), Inv X pins σ H s → (∀ b ∈ fp, FpOk X pins H b) → tn i s.heap → J.stop i H →
    wpAny (model P w) X.A (pyNext (.ref it)) (fun r s1 => r = none ∧ Inv X pins σ H s1) E s
  self : ∀ (A : Around) (i : Nat) (s : Shared) (Q : Value → Shared → Prop) (E : Value → Shared → Prop), tn i s.heap → Q (.ref it) s → wpAny (model P w) A (pyIter (.ref it)) Q E s
abbrev TI := St → Hp → (It → Hp → Prop) → Prop
def PIE (X : Cx) (pins : List (Addr × Obj)) (σ : St) (tg : Expr) (R : It → Hp → Prop) (itv : Value) (s2 : Shared) : Prop :=
  ∃ (it : Addr) (fp : List Addr) (tn : Nat → Heap → Prop) (J : It) (H' : Hp), itv = .ref it ∧ Inv X pins σ H' s2 ∧ Turn X.prog X.w X.K tg J fp it tn ∧ tn 0 s2.heap ∧ (∀ b ∈ fp, FpOk X pins H' b) ∧ R J H'
def PI (X : Cx) (tg iter : Expr) (wi : TI) : Prop :=
  ∀ (pins : List (Addr × Obj)) (s : Shared) (σ : St) (H : Hp) (R : It → Hp → Prop), Inv X pins σ H s → wi σ H R →
    wpAny (model X.prog X.w) X.A (eval iter X.env) (fun v s1 => wpAny (model X.prog X.w) X.A (pyIter v) (PIE X pins σ tg R) X.xe s1) X.xe s

theorem go_of {M : Model} {A : Around} {E : Value → Shared → Prop} {s : Shared} {tg : Expr} {it : Addr} {u : Value} {o : Obj} {n : String} {vs : Array Value} {Q : Unit → Shared → Prop} (ho : s.heap.get? it = some o) (hc : o.cls = .type n) (hd : o.data = .fields vs)
    (hn : ["enumerate", "zip", "dict_itemiterator", "dict_reverseitemiterator", "odict_iterator", "itertools.zip_longest", "itertools.pairwise"].contains n = false) (hQ : Q () s) : wpAny M A (letOwnedTupleGo tg (.ref it) u) Q E s := by
  unfold letOwnedTupleGo
  cases tg <;> first
    | exact wpAny_pure hQ
    | (cases u <;> first
        | exact wpAny_pure hQ
        | (refine wpAny_bind (wpAny_load ho ?_)
           rw [hc, hd]
           show wpAny M A (if (["enumerate", "zip", "dict_itemiterator", "dict_reverseitemiterator", "odict_iterator", "itertools.zip_longest", "itertools.pairwise"].contains n && vs[0]? == some (rawInt _)) = true then _ else _) Q E s
           rw [if_neg (by intro h; rw [hn, Bool.false_and] at h; cases h)]
           exact wpAny_pure hQ))

def Itl (K : PySem.W.Frag) (a : Addr) : It :=
  ⟨fun i H => ∃ xs x, SqL K H a xs ∧ xs[i]? = some x, fun i H x H' => H' = H ∧ ∀ xs, SqL K H a xs → xs[i]? = some x, fun i H => ∃ xs, SqL K H a xs ∧ xs.length ≤ i⟩
def Itt (K : PySem.W.Frag) (a : Addr) : It :=
  ⟨fun i H => ∃ xs x, SqT K H a xs ∧ xs[i]? = some x, fun i H x H' => H' = H ∧ ∀ xs, SqT K H a xs → xs[i]? = some x, fun i H => ∃ xs, SqT K H a xs ∧ xs.length ≤ i⟩
def Itr (lo : Int) (n : Nat) : It := ⟨fun i _ => i < n, fun i H x H' => H' = H ∧ x = .int (lo + i), fun i _ => n ≤ i⟩
theorem turn_list {P : Program} {w : World} {K : PySem.W.Frag} {tg : Expr} (a it : Addr) : Turn P w K tg (Itl K a) [it] it (fun i h => h.IsListIter it a i) where
  mem := by simp
  obj := fun i h st b hb => by
    have e : b = it := by simpa using hb
    subst e
    obtain ⟨o, e, c, d⟩ := st
    exact ⟨o, e, fun v z => by rw [d] at z; cases z⟩
  keep := fun i h h' st k => st.at fun o e => k it (by simp) o e
  item := by
    intro X hP hw hK hc i pins s σ H E I hf st hg
    subst hP hw hK
    obtain ⟨xs, x, hq, hx⟩ := hg
    obtain ⟨its, rv, p, hz⟩ := I.list hq
    obtain ⟨u, hu, ru⟩ := rv.get hx
    obtain ⟨f0, f1, f2, f3, f4, f5⟩ := hf it (by simp)
    refine wpAny_pyNext_list_item st p.isList (x := u) (by simpa using hu) fun h' st' sb => ?_
    have I1 : Inv X pins σ H { s with heap := h' } := I.turned (t' := s.toks) (fun b o hb e => (sb.2 b hb).trans e) f0 f1 f3 f4 f5
    obtain ⟨o, e, c, d⟩ := id st'
    exact ⟨u, rfl, go_of (s := { s with heap := h' }) e c d (by decide) ⟨x, H, I1, ru, ⟨rfl, fun ys hy => by rw [I.list_inj hy hq]; exact hx⟩, st', fun b hb => (hf b hb).1⟩⟩
  done := by
    intro X hP hw hK hc i pins s σ H E I hf st hg
    subst hP hw hK
    obtain ⟨xs, hq, hx⟩ := hg
    obtain ⟨its, rv, p, hz⟩ := I.list hq
    obtain ⟨f0, f1, f2, f3, f4, f5⟩ := hf it (by simp)
    have hl := rv.length
    exact wpAny_pyNext_list_end (I.ok.hd hc) st p.isList (by simp; omega) fun h' eb => ⟨rfl, I.turned (t' := s.toks) (fun b o hb e => eb b o hb e) f0 f1 f3 f4 f5⟩
  self := fun _ _ _ _ _ st h => wpAny_pyIter_listiter st h
theorem turn_tuple {P : Program} {w : World} {K : PySem.W.Frag} {tg : Expr} (a it : Addr) : Turn P w K tg (Itt K a) [it] it (fun i h => h.IsTupleIter it a i) where
  mem := by simp
  obj := fun i h st b hb => by
    have e : b = it := by simpa using hb
    subst e
    obtain ⟨o, e, c, d⟩ := st
    exact ⟨o, e, fun v z => by rw [d] at z; cases z⟩
  keep := fun i h h' st k => st.at fun o e => k it (by simp) o e
  item := by
    intro X hP hw hK hc i pins s σ H E I hf st hg
    subst hP hw hK
    obtain ⟨xs, x, hq, hx⟩ := hg
    obtain ⟨its, rv, p, hz⟩ := I.tuple hq
    obtain ⟨u, hu, ru⟩ := rv.get hx
    obtain ⟨f0, f1, f2, f3, f4, f5⟩ := hf it (by simp)
    refine wpAny_pyNext_tuple_item st (show s.heap.IsTuple a its.toArray from p) (x := u) (by simpa using hu) fun h' st' sb => ?_
    have I1 : Inv X pins σ H { s with heap := h' } := I.turned (t' := s.toks) (fun b o hb e => (sb.2 b hb).trans e) f0 f1 f3 f4 f5
    obtain ⟨o, e, c, d⟩ := id st'
    exact ⟨u, rfl, go_of (s := { s with heap := h' }) e c d (by decide) ⟨x, H, I1, ru, ⟨rfl, fun ys hy => by rw [I.tuple_inj hy hq]; exact hx⟩, st', fun b hb => (hf b hb).1⟩⟩
  done := by
    intro X hP hw hK hc i pins s σ H E I hf st hg
    subst hP hw hK
    obtain ⟨xs, hq, hx⟩ := hg
    obtain ⟨its, rv, p, hz⟩ := I.tuple hq
    obtain ⟨f0, f1, f2, f3, f4, f5⟩ := hf it (by simp)
    have hl := rv.length
    exact wpAny_pyNext_tuple_end (I.ok.hd hc) st (show s.heap.IsTuple a its.toArray from p) (by simp; omega) fun h' eb => ⟨rfl, I.turned (t' := s.toks) (fun b o hb e => eb b o hb e) f0 f1 f3 f4 f5⟩
  self := fun _ _ _ _ _ st h => wpAny_pyIter_tupleiter st h
theorem turn_range {P : Program} {w : World} {K : PySem.W.Frag} {tg : Expr} (it : Addr) (lo : Int) (n : Nat) : Turn P w K tg (Itr lo n) [it] it (fun i h => IsRangeIter h it (lo + (i : Nat) * 1) ((n : Int) - (i : Nat)) 1) where
  mem := by simp
  obj := fun i h st b hb => by
    have e : b = it := by simpa using hb
    subst e
    exact ⟨_, st, fun v z => by
      have z' : Data.fields _ = Data.cell v := z
      cases z'⟩
  keep := fun i h h' st k => k it (by simp) _ st
  item := by
    intro X hP hw hK hc i pins s σ H E I hf st hg
    subst hP hw hK
    obtain ⟨f0, f1, f2, f3, f4, f5⟩ := hf it (by simp)
    have W := Walks.range (prog := X.prog) (w := X.w) (I.ok.hd hc) it lo 1 n
    refine W.item i s _ _ hg st fun v h' tk hv st' kk => ?_
    obtain ⟨t, rfl⟩ := hv
    have I1 : Inv X pins σ H { s with heap := h', toks := tk } := I.turned (fun b o hb e => kk b o (by simpa using hb) e) f0 f1 f3 f4 f5
    refine ⟨_, rfl, go_of (s := { s with heap := h', toks := tk }) (n := "range_iterator") st' rfl rfl (by decide) ⟨.int (lo + i), H, I1, ⟨t, ?_⟩, ⟨rfl, rfl⟩, st', fun b hb => (hf b hb).1⟩⟩
    rw [Int.mul_one]
  done := by
    intro X hP hw hK hc i pins s σ H E I hf st hg
    subst hP hw hK
    obtain ⟨f0, f1, f2, f3, f4, f5⟩ := hf it (by simp)
    exact wpAny_pyNext_range_end (I.ok.hd hc) st (by have : n ≤ i := hg; omega) fun h' eb => ⟨rfl, I.turned (t' := s.toks) (fun b o hb e => eb b o hb e) f0 f1 f3 f4 f5⟩
  self := fun _ _ _ _ _ st h => wpAny_pyIter_rangeiter st h
end L2

namespace L2
open PySem PySem.Spec PyProof.Rows
section
variable {X : Cx} {tg : Expr}
def iList (K : PySem.W.Frag) (tl : TE) : TI := fun σ H R => tl σ H fun x H1 => ∃ a, x = .ref a ∧ (∃ xs, SqL K H1 a xs) ∧ R (Itl K a) H1
def iTup (K : PySem.W.Frag) (tl : TE) : TI := fun σ H R => tl σ H fun x H1 => ∃ a, x = .ref a ∧ (∃ xs, SqT K H1 a xs) ∧ R (Itt K a) H1
theorem pi_list {l : Expr} {tl : TE} (hl : PE X l tl) : PI X tg l (iList X.K tl) := by
  intro pins s σ H R I h
  refine thn (hl pins s σ H _ I h) fun v s1 ⟨x, H1, I1, r1, q1⟩ => ?_
  obtain ⟨a, e, ⟨xs, hq⟩, q⟩ := q1
  subst e
  cases r1
  obtain ⟨its, rv, p, hz⟩ := I1.list hq
  refine wpAny_pyIter_list p.isList ?_
  refine ⟨s1.heap.objs.size, [s1.heap.objs.size], _, _, H1, rfl, I1.kept (t' := s1.toks) fun b o e => Heap.get?_push_of_some _ e, turn_list a _, ⟨_, Heap.get?_push_size _ rfl, rfl, rfl⟩, fun b hb => ?_, q⟩
  have e : b = s1.heap.objs.size := by simpa using hb
  subst e
  exact I1.fpOk (Nat.le_refl _) (I1.hok.fresh (Nat.le_refl _))
theorem pi_tup {l : Expr} {tl : TE} (hl : PE X l tl) : PI X tg l (iTup X.K tl) := by
  intro pins s σ H R I h
  refine thn (hl pins s σ H _ I h) fun v s1 ⟨x, H1, I1, r1, q1⟩ => ?_
  obtain ⟨a, e, ⟨xs, hq⟩, q⟩ := q1
  subst e
  cases r1
  obtain ⟨its, rv, p, hz⟩ := I1.tuple hq
  refine wpAny_pyIter_tuple (show s1.heap.IsTuple a its.toArray from p) ?_
  refine ⟨s1.heap.objs.size, [s1.heap.objs.size], _, _, H1, rfl, I1.kept (t' := s1.toks) fun b o e => Heap.get?_push_of_some _ e, turn_tuple a _, ⟨_, Heap.get?_push_size _ rfl, rfl, rfl⟩, fun b hb => ?_, q⟩
  have e : b = s1.heap.objs.size := by simpa using hb
  subst e
  exact I1.fpOk (Nat.le_refl _) (I1.hok.fresh (Nat.le_refl _))
theorem range_it {pins : List (Addr × Obj)} {σ : St} {H : Hp} {s : Shared} {R : It → Hp → Prop} {E : Value → Shared → Prop} {lo hi : Int} {t u v : Tok} {tk : Nat} (I : Inv X pins σ H s) (h1 : -(2 ^ 62) ≤ lo) (h2 : lo < 2 ^ 62) (h3 : -(2 ^ 62) ≤ hi) (h4 : hi < 2 ^ 62)
    (q : R (Itr lo (hi - lo).toNat) H) : wpAny (model X.prog X.w) X.A (pyIter (.ref s.heap.objs.size)) (PIE X pins σ tg R) E { s with heap := s.heap.push { cls := .type "range", data := .fields #[.int lo t, .int hi u, .int 1 v] }, toks := tk } := by
  refine wpAny_pyIter_range (IsRange.new ..) (small_one h1 h2 h3 h4) ?_
  have I1 : Inv X pins σ H { s with heap := s.heap.push { cls := .type "range", data := .fields #[.int lo t, .int hi u, .int 1 v] }, toks := tk } := I.kept fun b o e => Heap.get?_push_of_some _ e
  refine ⟨(s.heap.push { cls := .type "range", data := .fields #[.int lo t, .int hi u, .int 1 v] }).objs.size, [(s.heap.push { cls := .type "range", data := .fields #[.int lo t, .int hi u, .int 1 v] }).objs.size], _, _, H, rfl,
    I1.kept (t' := tk) fun b o e => Heap.get?_push_of_some _ e, turn_range _ lo (hi - lo).toNat, ?_, fun b hb => ?_, q⟩
  · have e1 : lo + ((0 : Nat) : Int) * 1 = lo := by simp
    have e2 : (((hi - lo).toNat : Nat) : Int) - ((0 : Nat) : Int) = Builtin.Range.rangeSize lo hi 1 := by rw [rangeSize_one]; split <;> omega
    show IsRangeIter _ _ (lo + ((0 : Nat) : Int) * 1) ((((hi - lo).toNat : Nat) : Int) - ((0 : Nat) : Int)) 1
    rw [e1, e2]
    exact Heap.get?_push_size _ rfl
  · have e : b = (s.heap.push { cls := .type "range", data := .fields #[.int lo t, .int hi u, .int 1 v] }).objs.size := by simpa using hb
    subst e
    exact I1.fpOk (Nat.le_refl _) (I1.hok.fresh (Nat.le_refl _))
def iRng1 (ta : TA) : TI := fun σ H R => ta σ H fun vs H1 => ∃ j : Int, vs = [.int j] ∧ -(2 ^ 62) ≤ j ∧ j < 2 ^ 62 ∧ R (Itr 0 j.toNat) H1
theorem pi_range1 {a : Expr} {ta : TA} {p pos : Pos} (hg : Gl X "range") (hm : X.mg "range" = none) (ha : PA X [a] ta) (hs : starEach [a] X.env = [(false, eval a X.env)] := by rfl) : PI X tg (.Call (.Name "range" p) [a] [] pos) (iRng1 ta) := by
  intro pins s σ H R I h
  refine Call_ (ld_blt I hg hm boot_range (PyProof.Rows.callWith_type1 (thn (ha pos pins s σ H _ I h) fun us s1 ⟨vs, H1, I1, r1, q1⟩ => ?_) hs rfl))
  obtain ⟨j, e, q1, q2, q⟩ := q1
  subst e
  cases r1 with
  | cons r rr =>
    cases rr
    obtain ⟨t, rfl⟩ := r
    exact call_range_1 (range_it I1 (by omega) (by omega) q1 q2 (by simpa using q))
def tFor (wi : TI) (g : TG) (tb : TS) : TS := fun D σ H => wi σ H fun J H1 => ∃ W : Nat → Nat → St → Hp → Prop, (∃ m, W 0 m σ H1) ∧ ∀ i m σ H, W i m σ H →
  (J.stop i H ∧ D.nx σ H) ∨ (J.go i H ∧ ∃ N : St → Hp → Prop, (∀ σ' H', N σ' H' → ∃ m', m' < m ∧ W (i + 1) m' σ' H') ∧ ∀ x H', J.yld i H x H' → g x σ H' fun σ2 H2 => tb { D with nx := N, ct := N, bk := D.nx } σ2 H2)
def pinsAt (fp : List Addr) (h : Heap) : List (Addr × Obj) := fp.filterMap fun b => (h.get? b).map fun o => (b, o)
theorem mem_pinsAt {fp : List Addr} {h : Heap} {b : Addr} {o : Obj} (hb : b ∈ fp) (e : h.get? b = some o) : (b, o) ∈ pinsAt fp h := List.mem_filterMap.mpr ⟨b, hb, by rw [e]; rfl⟩
theorem of_pinsAt {fp : List Addr} {h : Heap} {p : Addr × Obj} (hp : p ∈ pinsAt fp h) : p.1 ∈ fp ∧ h.get? p.1 = some p.2 := by
  obtain ⟨b, hb, e⟩ := List.mem_filterMap.mp hp
  cases q : h.get? b with
  | none => rw [q] at e; cases e
  | some o =>
    rw [q] at e
    have e' : (b, o) = p := Option.some.inj e
    subst e'
    exact ⟨hb, q⟩
theorem Inv.pinned {pins : List (Addr × Obj)} {σ : St} {H : Hp} {s : Shared} {fp : List Addr} (I : Inv X pins σ H s) (hf : ∀ b ∈ fp, FpOk X pins H b) (ho : ∀ b ∈ fp, ∃ o, s.heap.get? b = some o ∧ ∀ v, o.data ≠ .cell v) : Inv X (pins ++ pinsAt fp s.heap) σ H s :=
  I.pins_of fun p hp => (List.mem_append.mp hp).elim (fun z => I.pin p (List.mem_append_right _ z)) fun z => by
    obtain ⟨hb, e⟩ := of_pinsAt z
    obtain ⟨f0, f1, f2, _⟩ := hf p.1 hb
    obtain ⟨o, e', d⟩ := ho p.1 hb
    rw [e] at e'; cases e'
    exact ⟨e, f0, f1, f2, d⟩
theorem Inv.unpinned {pins pl : List (Addr × Obj)} {σ : St} {H : Hp} {s : Shared} (I : Inv X (pins ++ pl) σ H s) : Inv X pins σ H s := I.pins_of fun p hp => I.pin p (List.mem_append_right _ (List.mem_append_left _ hp))
theorem ps_for {iter : Expr} {body : List Stmt} {wi : TI} {g : TG} {tb : TS} {pos : Pos} (hp : PassesOwn (model X.prog X.w) X.A X.env X.xe) (hc : X.calm = true) (hi : PI X tg iter wi) (hg : PG X tg g) (hb : PSs X body tb)
    (hs : ∀ x, foldedSetIterable iter X.env x = pure x := by intro _; rfl) : PS X (.For tg iter body [] pos) (tFor wi g tb) := by
  intro pins s σ H D I h
  refine wpAny_For (thn (hi pins s σ H _ I h) fun v s1 h1 => thn h1 fun itv s2 h2 => ?_) hs
  obtain ⟨it, fp, tn, J, H2, e, I2, T, st2, f2, W, ⟨m0, w0⟩, turn⟩ := h2
  subst e
  -- what stays true of the iterator's objects through the loop
  have stat : ∀ {H' : Hp}, (∀ b ∈ fp, H' b = none) → ∀ b ∈ fp, FpOk X pins H' b := fun hn b hb => ⟨hn b hb, (f2 b hb).2⟩
  refine codeAny_forLoop_any (fun n s' => ∃ i σ' H', Inv X pins σ' H' s' ∧ tn i s'.heap ∧ (∀ b ∈ fp, H' b = none) ∧ W i n σ' H') ?_ m0 ⟨0, σ, H2, I2, st2, fun b hb => (f2 b hb).1, w0⟩
  rintro n s3 ⟨i, σ3, H3, I3, st3, fr3, w3⟩
  rcases turn i n σ3 H3 w3 with ⟨stop, qn⟩ | ⟨go, N, hN, step⟩
  · refine wpAny_passesOwn hp (thn (T.done X rfl rfl rfl hc i pins s3 σ3 H3 X.xe I3 (stat fr3) st3 stop) fun r s4 ⟨hr, I4⟩ => ?_)
    subst hr
    exact wpAny_execs_nil ⟨σ3, H3, I4, qn⟩
  · refine wpAny_passesOwn hp (thn (T.item X rfl rfl rfl hc i pins s3 σ3 H3 X.xe I3 (stat fr3) st3 go) fun r s4 ⟨u, hr, h4⟩ => ?_)
    subst hr
    refine wpAny_passesOwn hp (thn h4 fun _ s5 ⟨x, H5, I5, r5, y5, st5, fr5⟩ => ?_)
    have I5' := I5.pinned (stat fr5) (T.obj _ _ st5)
    refine wpAny_passesOwn hp (thn (hg _ s5 σ3 H5 x u _ I5' r5 (step x H5 y5)) fun _ s6 ⟨σ6, H6, I6, q6⟩ => ?_)
    refine wpAny_passesOwn hp (thn (hb _ s6 σ6 H6 _ I6 q6) fun f s7 q7 => ?_)
    have again : ∀ {σ7 : St} {H7 : Hp}, Inv X (pins ++ pinsAt fp s5.heap) σ7 H7 s7 → N σ7 H7 → ∃ m, m < n ∧ ∃ i σ' H', Inv X pins σ' H' s7 ∧ tn i s7.heap ∧ (∀ b ∈ fp, H' b = none) ∧ W i m σ' H' := fun {σ7 H7} I7 n7 => by
      obtain ⟨m', hm, w7⟩ := hN σ7 H7 n7
      refine ⟨m', hm, i + 1, σ7, H7, I7.unpinned, T.keep _ _ _ st5 fun b hb o e => (I7.pin (b, o) (List.mem_append_right _ (List.mem_append_right _ (mem_pinsAt hb e)))).1, fun b hb => ?_, w7⟩
      obtain ⟨o, e, d⟩ := T.obj _ _ st5 b hb
      exact (I7.pin (b, o) (List.mem_append_right _ (List.mem_append_right _ (mem_pinsAt hb e)))).2.1
    cases f with
    | next => obtain ⟨σ7, H7, I7, n7⟩ := q7; exact again I7 n7
    | cont => obtain ⟨σ7, H7, I7, n7⟩ := q7; exact again I7 n7
    | brk => obtain ⟨σ7, H7, I7, q7⟩ := q7; exact ⟨σ7, H7, I7.unpinned, q7⟩
    | ret v => obtain ⟨x7, σ7, H7, I7, r7, q7⟩ := q7; exact ⟨x7, σ7, H7, I7.unpinned, r7, q7⟩
end

end L2

namespace L2
open PySem PySem.Spec PyProof.Rows

abbrev R2 := V → V → Hp → VK → Prop
def OpR (X : Cx) (f : Value → Value → Sem Value) (r : R2) : Prop :=
  ∀ (pins : List (Addr × Obj)) (s : Shared) (σ : St) (H : Hp) (x y : V) (v u : Value) (Q : VK), Inv X pins σ H s → RelV x v → RelV y u → r x y H Q →
    wpAny (model X.prog X.w) X.A (f v u) (EP X pins σ Q) X.xe s
def UnR (X : Cx) (f : Value → Sem Value) (r : V → Hp → VK → Prop) : Prop :=
  ∀ (pins : List (Addr × Obj)) (s : Shared) (σ : St) (H : Hp) (x : V) (v : Value) (Q : VK), Inv X pins σ H s → RelV x v → r x H Q →
    wpAny (model X.prog X.w) X.A (f v) (EP X pins σ Q) X.xe s
def CallR (X : Cx) (f : Value) (r : List V → Hp → VK → Prop) : Prop :=
  ∀ (pins : List (Addr × Obj)) (s : Shared) (σ : St) (H : Hp) (xs : List V) (us : List Value) (Q : VK), Inv X pins σ H s → Vals xs us → r xs H Q →
    wpAny (model X.prog X.w) X.A (call f us) (EP X pins σ Q) X.xe s
def tOp (r : R2) (ta tb : TE) : TE := fun σ H Q => ta σ H fun x H1 => tb σ H1 fun y H2 => r x y H2 Q
def tUn (r : V → Hp → VK → Prop) (ta : TE) : TE := fun σ H Q => ta σ H fun x H1 => r x H1 Q
def rI (C : Int → Int → Prop) (g : Int → Int → V) : R2 := fun x y H Q => ∃ i j, x = .int i ∧ y = .int j ∧ C i j ∧ Q (g i j) H
def rI0 (g : Int → Int → V) : R2 := fun x y H Q => ∃ i j, x = .int i ∧ y = .int j ∧ Q (g i j) H
def rU (g : Int → V) : V → Hp → VK → Prop := fun x H Q => ∃ i, x = .int i ∧ Q (g i) H

section
variable {X : Cx} {a b c : Expr} {ta tb tc : TE} {pos : Pos}

theorem binT (ha : PE X a ta) (hb : PE X b tb) {pins : List (Addr × Obj)} {s : Shared} {σ : St} {H : Hp} {R : V → V → Hp → Prop} (I : Inv X pins σ H s)
    (h : ta σ H fun x H1 => tb σ H1 fun y H2 => R x y H2) {Q : Value → Shared → Prop} {f : Value → Value → Sem Value}
    (hf : ∀ v u s2 x y H2, Inv X pins σ H2 s2 → RelV x v → RelV y u → R x y H2 → wpAny (model X.prog X.w) X.A (f v u) Q X.xe s2) :
    wpAny (model X.prog X.w) X.A (eval a X.env) (fun v s₁ => wpAny (model X.prog X.w) X.A (eval b X.env) (fun u s₂ => wpAny (model X.prog X.w) X.A (f v u) Q X.xe s₂) X.xe s₁) X.xe s := by
  refine thn (ha pins s σ H _ I h) fun v s1 ⟨x, H1, I1, r1, q1⟩ => ?_
  refine thn (hb pins s1 σ H1 _ I1 q1) fun u s2 ⟨y, H2, I2, r2, q2⟩ => ?_
  exact hf v u s2 x y H2 I2 r1 r2 q2

theorem pe_op {op : Operator} {r : R2} (ho : OpR X (binaryOp op) r) (ha : PE X a ta) (hb : PE X b tb) : PE X (.BinOp a op b pos) (tOp r ta tb) := by
  intro pins s σ H Q I h
  exact wpAny_BinOp (binT ha hb I h fun v u s2 x y H2 I2 rx ry q => ho pins s2 σ H2 x y v u Q I2 rx ry q)
theorem pe_un {op : UnaryOp} {r : V → Hp → VK → Prop} (ho : UnR X (unaryOp op) r) (ha : PE X a ta) : PE X (.UnaryOp op a pos) (tUn r ta) := by
  intro pins s σ H Q I h
  exact UnaryOp_ (thn (ha pins s σ H _ I h) fun v s1 ⟨x, H1, I1, r1, q1⟩ => ho pins s1 σ H1 x v Q I1 r1 q1)
theorem opI {f : Value → Value → Sem Value} {C : Int → Int → Prop} {g : Int → Int → Int}
    (rule : ∀ (i j : Int) (t u : Tok) (s : Shared) (Q : Value → Shared → Prop) (E : Value → Shared → Prop), C i j → Q (.int (g i j) s.toks) { s with toks := s.toks + 1 } → wpAny (model X.prog X.w) X.A (f (.int i t) (.int j u)) Q E s) :
    OpR X f (rI C fun i j => .int (g i j)) := by
  intro pins s σ H x y v u Q I rx ry h
  obtain ⟨i, j, rfl, rfl, hc, q⟩ := h
  obtain ⟨t, rfl⟩ := rx
  obtain ⟨t', rfl⟩ := ry
  exact rule i j t t' s _ _ hc ⟨.int (g i j), H, I.tok _, ⟨_, rfl⟩, q⟩
theorem opI0 {f : Value → Value → Sem Value} {g : Int → Int → Int}
    (rule : ∀ (i j : Int) (t u : Tok) (s : Shared) (Q : Value → Shared → Prop) (E : Value → Shared → Prop), Q (.int (g i j) s.toks) { s with toks := s.toks + 1 } → wpAny (model X.prog X.w) X.A (f (.int i t) (.int j u)) Q E s) :
    OpR X f (rI0 fun i j => .int (g i j)) := by
  intro pins s σ H x y v u Q I rx ry h
  obtain ⟨i, j, rfl, rfl, q⟩ := h
  obtain ⟨t, rfl⟩ := rx
  obtain ⟨t', rfl⟩ := ry
  exact rule i j t t' s _ _ ⟨.int (g i j), H, I.tok _, ⟨_, rfl⟩, q⟩
theorem opB0 {f : Value → Value → Sem Value} {g : Int → Int → Bool}
    (rule : ∀ (i j : Int) (t u : Tok) (s : Shared) (Q : Value → Shared → Prop) (E : Value → Shared → Prop), Q (.bool (g i j)) s → wpAny (model X.prog X.w) X.A (f (.int i t) (.int j u)) Q E s) :
    OpR X f (rI0 fun i j => .bl (g i j)) := by
  intro pins s σ H x y v u Q I rx ry h
  obtain ⟨i, j, rfl, rfl, q⟩ := h
  obtain ⟨t, rfl⟩ := rx
  obtain ⟨t', rfl⟩ := ry
  exact rule i j t t' s _ _ ⟨.bl (g i j), H, I, rfl, q⟩

def CDiv (i j : Int) : Prop := 0 < j ∧ j < 1073741824
def CPow (i j : Int) : Prop := 0 ≤ j ∧ j ≤ 1000000 ∧ i.natAbs < 2 ^ 64
def CMul (i j : Int) : Prop := (-(2 ^ 64) < i ∧ i < 2 ^ 64) ∨ (-(2 ^ 64) < j ∧ j < 2 ^ 64)
theorem CMul.ok {i j : Int} (h : CMul i j) : IntMulOk i j := by
  rcases h with ⟨h1, h2⟩ | ⟨h1, h2⟩
  · exact .of_left (intBits_le_64 h1 h2)
  · exact .of_right (intBits_le_64 h1 h2)
theorem op_add : OpR X (binaryOp .Add) (rI0 fun i j => .int (i + j)) := opI0 fun _ _ _ _ _ _ _ q => add_int q
theorem op_sub : OpR X (binaryOp .Sub) (rI0 fun i j => .int (i - j)) := opI0 fun _ _ _ _ _ _ _ q => sub_int q
theorem op_mul : OpR X (binaryOp .Mult) (rI CMul fun i j => .int (i * j)) := opI fun _ _ _ _ _ _ _ hc q => mul_int q hc.ok
theorem op_fdiv : OpR X (binaryOp .FloorDiv) (rI CDiv fun i j => .int (i / j)) := opI fun i j _ _ _ _ _ hc q => by
  have h1 : (0 : Int) < j := hc.1
  have h2 : j < 1073741824 := hc.2
  exact floordiv_int (by omega) (by rw [Int.fdiv_eq_ediv_of_nonneg i (by omega)]; exact q) (.inl (PyProof.noPylong_small (by omega)))
theorem op_mod : OpR X (binaryOp .Mod) (rI (fun _ j => 0 < j) fun i j => .int (i % j)) := opI fun i j _ _ _ _ _ hc q => by
  have h1 : (0 : Int) < j := hc
  exact mod_int' (by omega) (by rw [Int.fmod_eq_emod_of_nonneg i (by omega)]; exact q)
theorem op_pow : OpR X (binaryOp .Pow) (rI CPow fun i j => .int (i ^ j.toNat)) := opI fun _ _ _ _ _ _ _ hc q => pow_int_small hc.1 hc.2.1 hc.2.2 q
theorem unI {f : Value → Sem Value} {g : Int → Int}
    (rule : ∀ (i : Int) (t : Tok) (s : Shared) (Q : Value → Shared → Prop) (E : Value → Shared → Prop), Q (.int (g i) s.toks) { s with toks := s.toks + 1 } → wpAny (model X.prog X.w) X.A (f (.int i t)) Q E s) :
    UnR X f (rU fun i => .int (g i)) := by
  intro pins s σ H x v Q I rx h
  obtain ⟨i, rfl, q⟩ := h
  obtain ⟨t, rfl⟩ := rx
  exact rule i t s _ _ ⟨.int (g i), H, I.tok _, ⟨_, rfl⟩, q⟩
theorem un_neg : UnR X (unaryOp .USub) (rU fun i => .int (-i)) := unI fun _ _ _ _ _ q => neg_int q
end

def scal : V → V → Bool
  | .non, .non => true | .non, .int _ => true | .int _, .non => true | .non, .bl _ => true | .bl _, .non => true | .non, .str _ => true | .str _, .non => true
  | .int _, .int _ => true | .bl _, .bl _ => true | .str _, .str _ => true | .byt _, .byt _ => true
  | .int _, .str _ => true | .str _, .int _ => true | .bl _, .str _ => true | .str _, .bl _ => true
  | _, _ => false
def rEq : R2 := fun x y H Q => scal x y = true ∧ Q (.bl (decide (x = y))) H
def rNe : R2 := fun x y H Q => scal x y = true ∧ Q (.bl (!decide (x = y))) H

theorem dec_int {i j : Int} : decide (V.int i = V.int j) = (i == j) := by
  rw [Bool.eq_iff_iff]
  simp
theorem dec_bl {i j : Bool} : decide (V.bl i = V.bl j) = (i == j) := by
  rw [Bool.eq_iff_iff]
  simp
theorem dec_str {i j : Str} : decide (V.str i = V.str j) = (i == j) := by
  rw [Bool.eq_iff_iff]
  simp
theorem dec_byt {i j : Array UInt8} : decide (V.byt i = V.byt j) = (i.toList == j.toList) := by
  rw [Bool.eq_iff_iff]
  cases i
  cases j
  simp

section
variable {X : Cx} {a b c : Expr} {ta tb tc : TE} {pos : Pos}
theorem fin_bl {pins : List (Addr × Obj)} {σ : St} {H : Hp} {s : Shared} {Q : VK} {k k' : Bool} (I : Inv X pins σ H s) (q : Q (.bl k) H) (e : k = k') : EP X pins σ Q (.bool k') s := by
  subst e
  exact ⟨.bl k, H, I, rfl, q⟩
theorem op_eq : OpR X (compareOp .Eq) rEq := by
  intro pins s σ H x y v u Q I rx ry h
  obtain ⟨hs, q⟩ := h
  cases x with
  | non =>
    cases rx
    cases y with
    | non => cases ry; exact PySem.EqNone.eq_none_none (fin_bl I q (by simp))
    | bl j => cases ry; exact PySem.EqNone.eq_none_bool (fin_bl I q (by simp))
    | int j => obtain ⟨t', rfl⟩ := ry; exact PySem.EqNone.eq_none_int (fin_bl I q (by simp))
    | str j => obtain ⟨t', rfl⟩ := ry; exact PySem.EqNone.eq_none_str (fin_bl I q (by simp))
    | _ => exact absurd (show false = true from hs) Bool.false_ne_true
  | bl i =>
    cases rx
    cases y with
    | non => cases ry; exact PySem.EqNone.eq_bool_none (fin_bl I q (by simp))
    | bl j => cases ry; exact eq_bool (fin_bl I q dec_bl)
    | str j => obtain ⟨t', rfl⟩ := ry; exact PySem.EqMixed.eq_bool_str (fin_bl I q (by simp))
    | _ => exact absurd (show false = true from hs) Bool.false_ne_true
  | int i =>
    obtain ⟨t, rfl⟩ := rx
    cases y with
    | non => cases ry; exact PySem.EqNone.eq_int_none (fin_bl I q (by simp))
    | int j => obtain ⟨t', rfl⟩ := ry; exact eq_int (fin_bl I q dec_int)
    | str j => obtain ⟨t', rfl⟩ := ry; exact PySem.EqMixed.eq_int_str (fin_bl I q (by simp))
    | _ => exact absurd (show false = true from hs) Bool.false_ne_true
  | str i =>
    obtain ⟨t, rfl⟩ := rx
    cases y with
    | non => cases ry; exact PySem.EqNone.eq_str_none (fin_bl I q (by simp))
    | bl j => cases ry; exact PySem.EqMixed.eq_str_bool (fin_bl I q (by simp))
    | int j => obtain ⟨t', rfl⟩ := ry; exact PySem.EqMixed.eq_str_int (fin_bl I q (by simp))
    | str j => obtain ⟨t', rfl⟩ := ry; exact eq_str (fin_bl I q dec_str)
    | _ => exact absurd (show false = true from hs) Bool.false_ne_true
  | byt i =>
    obtain ⟨t, rfl⟩ := rx
    cases y with
    | byt j => obtain ⟨t', rfl⟩ := ry; exact PySem.W.eq_bytes (fin_bl I q dec_byt)
    | _ => exact absurd (show false = true from hs) Bool.false_ne_true
  | _ => cases y <;> exact absurd (show false = true from hs) Bool.false_ne_true
theorem op_ne : OpR X (compareOp .NotEq) rNe := by
  intro pins s σ H x y v u Q I rx ry h
  obtain ⟨hs, q⟩ := h
  cases x with
  | non =>
    cases rx
    cases y with
    | non => cases ry; exact PySem.EqNone.ne_none_none (fin_bl I q (by simp))
    | bl j => cases ry; exact PySem.EqNone.ne_none_bool (fin_bl I q (by simp))
    | int j => obtain ⟨t', rfl⟩ := ry; exact PySem.EqNone.ne_none_int (fin_bl I q (by simp))
    | str j => obtain ⟨t', rfl⟩ := ry; exact PySem.EqNone.ne_none_str (fin_bl I q (by simp))
    | _ => exact absurd (show false = true from hs) Bool.false_ne_true
  | bl i =>
    cases rx
    cases y with
    | non => cases ry; exact PySem.EqNone.ne_bool_none (fin_bl I q (by simp))
    | bl j => cases ry; exact ne_bool (fin_bl I q (congrArg not dec_bl))
    | str j => obtain ⟨t', rfl⟩ := ry; exact PySem.EqMixed.ne_bool_str (fin_bl I q (by simp))
    | _ => exact absurd (show false = true from hs) Bool.false_ne_true
  | int i =>
    obtain ⟨t, rfl⟩ := rx
    cases y with
    | non => cases ry; exact PySem.EqNone.ne_int_none (fin_bl I q (by simp))
    | int j => obtain ⟨t', rfl⟩ := ry; exact ne_int (fin_bl I q (congrArg not dec_int))
    | str j => obtain ⟨t', rfl⟩ := ry; exact PySem.EqMixed.ne_int_str (fin_bl I q (by simp))
    | _ => exact absurd (show false = true from hs) Bool.false_ne_true
  | str i =>
    obtain ⟨t, rfl⟩ := rx
    cases y with
    | non => cases ry; exact PySem.EqNone.ne_str_none (fin_bl I q (by simp))
    | bl j => cases ry; exact PySem.EqMixed.ne_str_bool (fin_bl I q (by simp))
    | int j => obtain ⟨t', rfl⟩ := ry; exact PySem.EqMixed.ne_str_int (fin_bl I q (by simp))
    | str j => obtain ⟨t', rfl⟩ := ry; exact ne_str (fin_bl I q (congrArg not dec_str))
    | _ => exact absurd (show false = true from hs) Bool.false_ne_true
  | byt i =>
    obtain ⟨t, rfl⟩ := rx
    cases y with
    | byt j => obtain ⟨t', rfl⟩ := ry; exact PySem.W.ne_bytes (fin_bl I q (congrArg not dec_byt))
    | _ => exact absurd (show false = true from hs) Bool.false_ne_true
  | _ => cases y <;> exact absurd (show false = true from hs) Bool.false_ne_true

theorem op_lt : OpR X (compareOp .Lt) (rI0 fun i j => .bl (decide (i < j))) := opB0 fun _ _ _ _ _ _ _ q => lt_int q
theorem op_le : OpR X (compareOp .LtE) (rI0 fun i j => .bl (decide (i ≤ j))) := opB0 fun _ _ _ _ _ _ _ q => le_int q
theorem op_gt : OpR X (compareOp .Gt) (rI0 fun i j => .bl (decide (j < i))) := opB0 fun _ _ _ _ _ _ _ q => gt_int q
theorem op_ge : OpR X (compareOp .GtE) (rI0 fun i j => .bl (decide (j ≤ i))) := opB0 fun _ _ _ _ _ _ _ q => ge_int q
theorem op_in_str : OpR X (compareOp .In) (fun x y H Q => ∃ i j, x = .str i ∧ y = .str j ∧ Q (.bl (!(Builtin.Str.occurrences j i 0 j.length 1).isEmpty)) H) := by
  intro pins s σ H x y v u Q I rx ry h
  obtain ⟨i, j, rfl, rfl, q⟩ := h
  obtain ⟨t, rfl⟩ := rx
  obtain ⟨t', rfl⟩ := ry
  exact in_str (fin_bl I q rfl)

theorem op_isN : OpR X (compareOp .Is) (fun x y H Q => y = .non ∧ Q (.bl (decide (x = .non))) H) := by
  intro pins s σ H x y v u Q I rx ry h
  obtain ⟨rfl, q⟩ := h
  cases ry
  refine is_none_gen (fin_bl I q ?_)
  cases x <;> first
    | (cases rx; rfl)
    | (obtain ⟨t, rfl⟩ := rx; rfl)
theorem op_notN : OpR X (compareOp .IsNot) (fun x y H Q => y = .non ∧ Q (.bl (!decide (x = .non))) H) := by
  intro pins s σ H x y v u Q I rx ry h
  obtain ⟨rfl, q⟩ := h
  cases ry
  refine isnot_none_gen (fin_bl I q ?_)
  cases x <;> first
    | (cases rx; rfl)
    | (obtain ⟨t, rfl⟩ := rx; rfl)

theorem nomark (b : Expr) {op : CmpOp} (h : op ≠ .In := by decide) (h2 : op ≠ .NotIn := by decide) : behindInMarks op b = false := by
  have e1 : (op == CmpOp.In) = false := by cases op <;> first | rfl | exact absurd rfl h
  have e2 : (op == CmpOp.NotIn) = false := by cases op <;> first | rfl | exact absurd rfl h2
  cases b <;> simp [behindInMarks, e1, e2]
theorem pe_cmpR {op : CmpOp} {r : R2} (ho : OpR X (compareOp op) r) (ha : PE X a ta) (hb : PE X b tb) (hm : behindInMarks op b = false) : PE X (.Compare a [op] [b] pos) (tOp r ta tb) := by
  intro pins s σ H Q I h
  exact wpAny_Compare1 (binT ha hb I h fun v u s2 x y H2 I2 rx ry q => ho pins s2 σ H2 x y v u Q I2 rx ry q) hm
def tTest (t : TE) : TT := fun σ H Q => t σ H fun x H' => ∃ k, x = .bl k ∧ Q k H'
theorem pt_cmpR {op : CmpOp} {r : R2} (ho : OpR X (compareOp op) r) (ha : PE X a ta) (hb : PE X b tb) (hm : behindInMarks op b = false) : PT X (.Compare a [op] [b] pos) (tTest (tOp r ta tb)) := by
  intro pins s σ H Q I h
  refine wpAny_isTrue_Compare1 (thn (ha pins s σ H _ I h) fun v s1 ⟨x, H1, I1, r1, q1⟩ => thn (hb pins s1 σ H1 _ I1 q1) fun u s2 ⟨y, H2, I2, r2, q2⟩ =>
    thn (ho pins s2 σ H2 x y v u _ I2 r1 r2 q2) fun c s3 ⟨z, H3, I3, r3, k, e, q3⟩ => ?_) hm
  subst e
  cases r3
  exact wpAny_truthy_bool ⟨H3, I3, q3⟩
def tChain (r r' : R2) (ta tb tc : TE) : TE := fun σ H Q => ta σ H fun x H1 => tb σ H1 fun y H2 => r x y H2 fun z H3 => ∃ k, z = .bl k ∧
  (if k = true then tc σ H3 fun w' H4 => r' y w' H4 Q else Q (.bl false) H3)
theorem pe_chain {op op' : CmpOp} {r r' : R2} (ho : OpR X (compareOp op) r) (ho' : OpR X (compareOp op') r') (ha : PE X a ta) (hb : PE X b tb) (hc : PE X c tc)
    (hm : lastMarks [op, op'] [b, c] = false := by with_unfolding_all rfl) : PE X (.Compare a [op, op'] [b, c] pos) (tChain r r' ta tb tc) := by
  intro pins s σ H Q I h
  refine Compare_chain (thn (ha pins s σ H _ I h) fun v s1 ⟨x, H1, I1, r1, q1⟩ => chain_link (thn (hb pins s1 σ H1 _ I1 q1) fun u s2 ⟨y, H2, I2, r2, q2⟩ =>
    thn (ho pins s2 σ H2 x y v u _ I2 r1 r2 q2) fun d s3 ⟨z, H3, I3, r3, k, e, q3⟩ => ?_)) hm
  subst e
  cases r3
  refine wpAny_truthy_bool ?_
  cases k with
  | false => exact ite_ff ⟨.bl false, H3, I3, rfl, q3⟩
  | true => exact ite_tt (chain_last (thn (hc pins s3 σ H3 _ I3 q3) fun w' s4 ⟨z', H4, I4, r4, q4⟩ => ho' pins s4 σ H4 y z' u w' Q I4 r2 r4 q4))
theorem line63 : (sizeLine : Nat) < 2 ^ 63 := by rw [sizeLine_eq]; decide
theorem op_add_str : OpR X (binaryOp .Add) (fun x y H Q => ∃ i j, x = .str i ∧ y = .str j ∧ i.length + j.length ≤ sizeLine ∧ Q (.str (i ++ j)) H) := by
  intro pins s σ H x y v u Q I rx ry h
  obtain ⟨i, j, rfl, rfl, hz, q⟩ := h
  obtain ⟨t, rfl⟩ := rx
  obtain ⟨t', rfl⟩ := ry
  exact add_str (fun t' tk => ⟨.str (i ++ j), H, I.tok _, ⟨_, rfl⟩, q⟩) hz
theorem vals1 {x : V} {us : List Value} (r : Vals [x] us) : ∃ u, us = [u] ∧ RelV x u := by
  cases r with
  | cons r1 r2 => cases r2; exact ⟨_, rfl, r1⟩
theorem vals2 {x y : V} {us : List Value} (r : Vals [x, y] us) : ∃ u w', us = [u, w'] ∧ RelV x u ∧ RelV y w' := by
  cases r with
  | cons r1 r2 =>
    cases r2 with
    | cons r3 r4 => cases r4; exact ⟨_, _, rfl, r1, r3⟩
theorem call_str_int : CallR X (.type "str") (fun xs H Q => ∃ i, xs = [.int i] ∧ i.natAbs.log2 < 1920 ∧ Q (.str (toString i)) H) := by
  intro pins s σ H xs us Q I r h
  obtain ⟨i, rfl, hz, q⟩ := h
  obtain ⟨u, rfl, t, rfl⟩ := vals1 r
  exact PySem.P.str_of_int hz ⟨.str _, H, I.tok _, ⟨_, rfl⟩, q⟩
end
end L2

namespace L2
open PySem PySem.Spec PyProof.Rows

structure ObjM (h : Heap) (x dx C : Addr) (mA : Str → Option Value) : Prop where
  obj : h.get? x = some (PySem.W.instObj C dx)
  ns : h.Ns1 dx mA
  ne : dx ≠ x

theorem lookIn_ns {h : Heap} {dx : Addr} {mA : Str → Option Value} (n : h.Ns1 dx mA) : ∃ od, h.get? dx = some od ∧ ∀ name, PySem.W.lookIn name od = some (mA name) := by
  obtain ⟨o, es, ep, ho, hd, hk, _, hm⟩ := n
  refine ⟨o, ho, fun name => ?_⟩
  have e := hm name
  unfold nsFind findBy at e
  rw [← Array.find?_toList] at e
  unfold PySem.W.lookIn
  rw [hd]
  dsimp only
  split
  · rename_i y q
    rw [q] at e
    exact congrArg some e
  · rename_i q
    rw [q] at e
    have a : es.toList.any (·.refKey) = false := by
      rw [List.any_eq_false]
      intro y hy
      obtain ⟨z, t, hkey⟩ := hk y (Array.mem_toList_iff.mp hy)
      simp [DictEntry.refKey, hkey]
    have a' : ¬ es.toList.any (·.refKey) = true := by rw [a]; exact Bool.false_ne_true
    rw [if_neg a']
    exact congrArg some e

theorem ObjM.look {h : Heap} {x dx C : Addr} {mA : Str → Option Value} (I : ObjM h x dx C mA) : ∃ od, PySem.W.InstAt h x (PySem.W.instObj C dx) C (some od) ∧ ∀ name, PySem.W.lookIn name od = some (mA name) :=
  let ⟨od, ho, hl⟩ := lookIn_ns I.ns
  ⟨od, ⟨I.obj, rfl, rfl, ho⟩, hl⟩

section
variable {prog : Program} {w : World} {A : Around} {E : Value → Shared → Prop} {s : Shared} {K : PySem.W.Frag} {x dx C f : Addr} {mA : Str → Option Value} {name : Str} {v : Value}

end

section
variable {P : Program} {w : World} {H H' : Hp} {h h' : Heap} {a C dx : Addr} {fs fs' : List (Str × V)}
theorem ins_get (hok : HOk P w H h) (e : H a = some (.ins C dx fs)) : ∃ mA, ObjM h a dx C mA ∧ (∀ f, RelO (fs.lookup f) (mA f)) ∧ PySem.Within mA (fs.map (·.1)) ∧ fs.length ≤ 1000 ∧ H dx = some (.own a) := by
  obtain ⟨d, z, ne, ob, mA, n, r, q⟩ := (show ObjOk P w H h a (.ins C dx fs) from hok a _ e)
  exact ⟨mA, ⟨ob, n, ne⟩, r, q, z, d⟩
end

structure Cls (K : PySem.W.Frag) (C : Addr) : Prop where
  pg : PySem.W.plainGet K C Str.empty = true
  hd : PySem.W.hasDictIn K C = true
  po : PySem.W.plainOver K C = true
  sa : PySem.W.findIn K (.ref C) "__setattr__" = some (some (.builtin "object.__setattr__"))
theorem Cls.get {K : PySem.W.Frag} {C : Addr} (c : Cls K C) (f : Str) : PySem.W.plainGet K C f = true := c.pg
section
variable {X : Cx} {pins : List (Addr × Obj)} {σ : St} {H : Hp} {s : Shared} {a C dx : Addr} {fs : List (Str × V)} {f : Str} {v : V} {A : Around} {E : Value → Shared → Prop}

end

section
variable {X : Cx} {o e value : Expr} {f : Str} {pos pos' tpos : Pos} {ta tv : TE}
end

section
variable {X : Cx} {pins : List (Addr × Obj)} {σ : St} {H : Hp} {s : Shared} {A : Around} {E : Value → Shared → Prop} {Q : Value → Shared → Prop} {c : Value} {b : Bool}
inductive TyOf (K : PySem.W.Frag) (H : Hp) : V → Value → Prop where
  | non : TyOf K H .non (.type "NoneType")
  | bl (x : Bool) : TyOf K H (.bl x) (.type "bool")
  | int (i : Int) : TyOf K H (.int i) (.type "int")
  | str (x : Str) : TyOf K H (.str x) (.type "str")
  | flt (x : UInt64) : TyOf K H (.flt x) (.type "float")
  | lst {a : Addr} {xs : List V} (e : H a = some (.lst xs)) : TyOf K H (.ref a) (.type "list")
  | frz {a : Addr} {o : Obj} {xs : List V} (e : H a = some (.frz o (.lst xs))) : TyOf K H (.ref a) (.type "list")
  | tup {a : Addr} {xs : List V} (e : H a = some (.tup xs)) : TyOf K H (.ref a) (.type "tuple")
  | dK {a : Addr} {kvs : List (Key × V)} (e : H a = some (.dK kvs)) : TyOf K H (.ref a) (.type "dict")
  | dT {a : Addr} {kvs : List (List Key × V)} (e : H a = some (.dT kvs)) : TyOf K H (.ref a) (.type "dict")
  | ins {a C dx : Addr} {fs : List (Str × V)} (e : H a = some (.ins C dx fs)) (cl : Cls K C) (ha : PySem.W.findIn K (.ref C) "__class__" = some (some (.builtin "object.__class__")))
      (hn : PySem.W.specialIn K (.builtin "object.__class__") "__get__" = some (some (.builtin "getset_descriptor.__get__"))) (htk : PySem.W.takesIn K (.builtin "object.__class__") = some true)
      (hm : PySem.W.mroIn K C (.type "object") = some true) : TyOf K H (.ref a) (.ref C)
theorem isinst_ok {x : V} {u t : Value} (I : Inv X pins σ H s) (rx : RelV x u) (ty : TyOf X.K H x t) (e : PySem.W.kitOne X.K t c = some b) (h : ∀ tk, Q (.bool b) { s with toks := tk }) :
    wpAny (model X.prog X.w) A (call (.builtin "isinstance") [u, c]) Q E s := by
  cases ty with
  | non => cases (show u = Value.none from rx); exact PySem.W.kia_one PySem.W.kitx_none I.kIn True.intro e (fun z => nomatch z) h
  | bl y => cases (show u = Value.bool y from rx); exact PySem.W.kia_one PySem.W.kitx_bool I.kIn True.intro e (fun z => nomatch z) h
  | int i => obtain ⟨t, q⟩ := (show ∃ t, u = Value.int i t from rx); cases q; exact PySem.W.kia_one PySem.W.kitx_int I.kIn True.intro e (fun z => nomatch z) h
  | str y => obtain ⟨t, q⟩ := (show ∃ t, u = Value.str y t from rx); cases q; exact PySem.W.kia_one PySem.W.kitx_str I.kIn True.intro e (fun z => nomatch z) h
  | flt y => obtain ⟨t, q⟩ := (show ∃ t, u = Value.float y t from rx); cases q; exact PySem.W.kia_one PySem.W.kitx_float I.kIn True.intro e (fun z => nomatch z) h
  | @lst a xs ea =>
    cases (show u = Value.ref a from rx)
    obtain ⟨_, _, n, _, h1⟩ := (show ObjOk X.prog X.w H s.heap a (.lst xs) from I.hok a _ ea)
    exact PySem.W.kia_one PySem.W.kitx_list I.kIn ⟨_, h1, rfl⟩ e (fun z => nomatch z) h
  | @frz a ob xs ea =>
    cases (show u = Value.ref a from rx)
    obtain ⟨_, _, _, n, _, h1⟩ := (show ObjOk X.prog X.w H s.heap a (.frz ob (.lst xs)) from I.hok a _ ea)
    exact PySem.W.kia_one PySem.W.kitx_list I.kIn ⟨_, h1, rfl⟩ e (fun z => nomatch z) h
  | @tup a xs ea =>
    cases (show u = Value.ref a from rx)
    obtain ⟨_, _, _, p⟩ := (show ObjOk X.prog X.w H s.heap a (.tup xs) from I.hok a _ ea)
    obtain ⟨o, h1, h2, _⟩ := p
    exact PySem.W.kia_one PySem.W.kitx_tuple I.kIn ⟨o, h1, h2⟩ e (fun z => nomatch z) h
  | @dK a kvs ea =>
    cases (show u = Value.ref a from rx)
    obtain ⟨_, _, vs, _, p⟩ := (show ObjOk X.prog X.w H s.heap a (.dK kvs) from I.hok a _ ea)
    obtain ⟨o, es, ep, h1, h2, _⟩ := p
    exact PySem.W.kia_one PySem.W.kitx_dict I.kIn ⟨o, h1, h2.1⟩ e (fun z => nomatch z) h
  | @dT a kvs ea =>
    cases (show u = Value.ref a from rx)
    obtain ⟨_, _, xs, _, o, es, ep, h1, h2, _⟩ := (show ObjOk X.prog X.w H s.heap a (.dT kvs) from I.hok a _ ea)
    exact PySem.W.kia_one PySem.W.kitx_dict I.kIn ⟨o, h1, h2.1⟩ e (fun z => nomatch z) h
  | @ins a C dx fs ea cl ha hn htk hm =>
    cases (show u = Value.ref a from rx)
    obtain ⟨mA, O, _⟩ := ins_get I.hok ea
    obtain ⟨od, J, _⟩ := O.look
    exact PySem.W.kia_one (PySem.W.kitx_own (cl.get _) cl.hd ha hn htk hm) I.kIn J e (fun z => nomatch z) h
end
end L2

namespace L2
open PySem PySem.Spec PyProof.Rows

structure Room (k : Nat) (A : Around) : Prop where
  hd : A.handled = none
  dp : A.depth + 3 * k + 5 < recursionLimit
  un : A.units + 16 * k + 200 < cLine
  gd : A.guards = some []
theorem Room.mono {j k : Nat} {A : Around} (r : Room k A) (h : j ≤ k) : Room j A := ⟨r.hd, by have := r.dp; omega, by have := r.un; omega, r.gd⟩
theorem Room.deeper {k : Nat} {A : Around} (r : Room (k + 1) A) (env : Env) : Room k (A.deeper env) :=
  ⟨r.hd, by have := r.dp; show A.depth + 1 + 3 * k + 5 < _; omega, by have := r.un; show A.units + 3 + 16 * k + 200 < _; omega, r.gd⟩
theorem Room.depth {k : Nat} {A : Around} (r : Room k A) : A.depth < recursionLimit := by have := r.dp; omega
theorem Room.units {k : Nat} {A : Around} (r : Room k A) : A.units + 64 < cLine := by have := r.un; omega
def tNil : TA := fun _ H Q => Q [] H
def tCons (ta : TE) (tr : TA) : TA := fun σ H Q => ta σ H fun x H1 => tr σ H1 fun xs H2 => Q (x :: xs) H2
section
variable {X : Cx} {e : Expr} {es : List Expr} {te : TE} {t : TA} {pos : Pos}
theorem pa_nil : PA X [] tNil := fun _ _ _ _ H Q I h => Calls.spliced_nil ⟨[], H, I, .nil, h⟩
theorem pa_cons (ha : PE X e te) (hr : PA X es t) (hs : starEach (e :: es) X.env = (false, eval e X.env) :: starEach es X.env := by rfl) : PA X (e :: es) (tCons te t) := by
  intro pos pins s σ H Q I h
  rw [hs]
  show wpAny _ _ (spliced ((false, eval e X.env) :: backTo pos (starEach es X.env))) _ _ s
  refine Calls.spliced_cons (thn (ha pins s σ H _ I h) fun u s1 ⟨x, H1, I1, r1, q1⟩ => ?_)
  exact thn (hr pos pins s1 σ H1 _ I1 q1) fun us s2 ⟨xs, H2, I2, r2, q2⟩ => ⟨x :: xs, H2, I2, .cons r1 r2, q2⟩

def tTup (t : TA) : TE := fun σ H Q => t σ H fun xs H1 => xs.length ≤ sizeLine ∧ ∀ p, H1 p = none → Q (.ref p) (upd H1 p (.tup xs))
def tLst (t : TA) : TE := fun σ H Q => t σ H fun xs H1 => xs.length ≤ sizeLine ∧ ∀ p, H1 p = none → Q (.ref p) (upd H1 p (.lst xs))
theorem pe_tup {x1} (h : PA X es t) : PE X (.Tuple es x1 pos) (tTup t) := by
  intro pins s σ H Q I hq
  refine wpAny_Tuple_spliced (thn (h pos pins s σ H _ I hq) fun us s1 ⟨xs, H1, I1, r, z, q⟩ => ⟨by rw [← r.length]; exact z, ?_⟩)
  have hf : H1 s1.heap.objs.size = none := I1.hok.fresh (Nat.le_refl _)
  refine ⟨.ref s1.heap.objs.size, upd H1 s1.heap.objs.size (.tup xs), I1.laid (t' := s1.toks) (fun b u e => Heap.get?_push_of_some _ e) (Nat.le_refl _) ?_, rfl, q _ hf⟩
  exact ⟨z, us, r, ⟨_, Heap.get?_push_size _ rfl, rfl, _, rfl⟩⟩
theorem pe_lst (h : PA X es t) : PE X (.List es pos) (tLst t) := by
  intro pins s σ H Q I hq
  refine wpAny_List_spliced (thn (h pos pins s σ H _ I hq) fun us s1 ⟨xs, H1, I1, r, z, q⟩ => ⟨by rw [← r.length]; exact z, ?_⟩)
  have hf : H1 s1.heap.objs.size = none := I1.hok.fresh (Nat.le_refl _)
  refine ⟨.ref s1.heap.objs.size, upd H1 s1.heap.objs.size (.lst xs), I1.laid (t' := s1.toks) (fun b u e => Heap.get?_push_of_some _ e) (Nat.le_refl _) ?_, rfl, q _ hf⟩
  exact ⟨z, us, 0, r, Heap.get?_push_size _ rfl⟩
end

abbrev Sp := List V → Hp → VK → XK → Prop
abbrev CXT := List Env → Hp → Shared → XK → Value → Shared → Prop

structure Env0 (P : Program) (w : World) (K : PySem.W.Frag) (mg : Str → Option Value) (base : Heap) (A : Around) (outer : List Env) (s : Shared) (H : Hp) : Prop where
  frames : A.frames = some outer
  mod : Mod K mg base
  bs : ∀ b o, base.get? b = some o → s.heap.get? b = some o ∧ H b = none
  bsz : base.objs.size ≤ s.heap.objs.size
  funs : s.heap.FunFrames base outer
  frf : ∀ b ∈ frs outer, H b = none
  hok : HOk P w H s.heap
  bare : AllBare s.gens
def CE (outer : List Env) (P : Program) (w : World) (H : Hp) (s : Shared) (Q : VK) (u : Value) (s' : Shared) : Prop :=
  ∃ v H', s'.os = s.os ∧ AllBare s'.gens ∧ Un (frs outer) [] H H' s.heap s'.heap ∧ HOk P w H' s'.heap ∧ RelV v u ∧ Q v H'
def CR (CX : CXT) (outer : List Env) (P : Program) (w : World) (H : Hp) (s : Shared) (Q : VK) (E : XK) (r : Result) (s' : Shared) : Prop :=
  match r with
  | .ok (.ret u) => CE outer P w H s Q u s'
  | .ok _ => False
  | .error e => CX outer H s E e s'
structure FnOk (P : Program) (w : World) (K : PySem.W.Frag) (mg : Str → Option Value) (base : Heap) (CX : CXT) (k : Nat) (f : Addr) (fd : FuncData) (ps : List Str) (sp : Sp) : Prop where
  len : ∀ vs H Q E, sp vs H Q E → vs.length = ps.length
  run : ∀ (A : Around) (outer : List Env) (s : Shared) (H : Hp) (args : Args) (us : List Value) (vs : List V) (Q : VK) (E : XK), Room k A → Env0 P w K mg base A outer s H → BindsTo s fd args (ps.zip us) → Vals vs us → sp vs H Q E →
    codeAny (model P w) A (.call (.ref f) args) (CR CX outer P w H s Q E) s
section
variable {X : Cx} {pins : List (Addr × Obj)} {σ : St} {H : Hp} {s s' : Shared}
theorem Inv.env0 (I : Inv X pins σ H s) : Env0 X.prog X.w X.K X.mg X.base X.A X.stack s H :=
  ⟨I.ok.frames, I.ok.mod, I.bs, Nat.le_trans I.ok.bsz I.sz, I.stack, I.stkFree, I.hok, I.bare⟩
theorem Inv.after {Q : VK} {u : Value} (I : Inv X pins σ H s) (h : CE X.stack X.prog X.w H s Q u s') : EP X pins σ Q u s' := by
  obtain ⟨v, H', os, bare, un, hok, r, q⟩ := h
  obtain ⟨hh, g, d, t, os'⟩ := s'
  obtain rfl : os' = s.os := os
  exact ⟨v, H', I.call (h' := hh) (g' := g) (d' := d) (t' := t) (ch := []) un hok bare (fun b z => absurd z (by simp)), r, q⟩
end

def tCall (sp : Sp) (dvs : List V) (E : XK) (t : TA) : TE := fun σ H Q => t σ H fun vs H1 => sp (vs ++ dvs) H1 Q E
def Binds (K : PySem.W.Frag) (fd : FuncData) (ps : List Str) (ds : List Value) : Prop :=
  ∀ (s : Shared) (us : List Value), K.In s.heap → (us ++ ds).length = ps.length → BindsTo s fd ⟨us, []⟩ (ps.zip (us ++ ds))
theorem Binds.all {K : PySem.W.Frag} {fd : FuncData} {ps : List Str} (h : ∀ us : List Value, us.length = ps.length → bindArgs fd ⟨us, []⟩ = pure (ps.zip us)) : Binds K fd ps [] := fun s us _ hl => by
  rw [List.append_nil] at hl ⊢
  exact .of_eq (h us hl)

def Passes (CX : CXT) (X : Cx) (E : XK) : Prop := ∀ (pins : List (Addr × Obj)) (σ : St) (H : Hp) (s : Shared) (e : Value) (s' : Shared), Inv X pins σ H s → CX X.stack H s E e s' → X.xe e s'

section
variable {X : Cx} {CX : CXT} {k : Nat} {f C : Addr} {fd : FuncData} {ps : List Str} {sp : Sp} {dvs : List V} {ds : List Value} {E : XK} {x m : Str} {p pos apos : Pos} {e o : Expr} {es : List Expr} {ta : TE} {t : TA}

theorem run_fn {pins : List (Addr × Obj)} {σ : St} {H : Hp} {s : Shared} {Q : VK} {us : List Value} {vs : List V} (F : FnOk X.prog X.w X.K X.mg X.base CX k f fd ps sp) (hr : Room k X.A) (hb : Binds X.K fd ps ds) (hd : Vals dvs ds) (hx : Passes CX X E)
    (I : Inv X pins σ H s) (r : Vals vs us) (h : sp (vs ++ dvs) H Q E) : wpAny (model X.prog X.w) X.A (call (.ref f) us) (EP X pins σ Q) X.xe s := by
  have r2 : Vals (vs ++ dvs) (us ++ ds) := r.append hd
  have hl : (us ++ ds).length = ps.length := by rw [← r2.length]; exact F.len _ _ _ _ h
  refine wpAny_call (codeAny_mono (F.run X.A X.stack s H ⟨us, []⟩ (us ++ ds) (vs ++ dvs) Q E hr I.env0 (hb s us I.kIn hl) r2 h) fun r s' hq => ?_)
  cases r with
  | error e => exact hx pins σ H s e s' I hq
  | ok fl =>
    cases fl with
    | ret u => exact I.after hq
    | next => exact False.elim hq
    | brk => exact False.elim hq
    | cont => exact False.elim hq

theorem pe_call (F : FnOk X.prog X.w X.K X.mg X.base CX k f fd ps sp) (hr : Room k X.A) (hg : Gl X x) (hm : X.mg x = some (.ref f)) (hk : PySem.W.keepIn X.K (.ref f) = true) (hb : Binds X.K fd ps ds) (hd : Vals dvs ds) (hx : Passes CX X E)
    (ha : PA X (e :: es) t) (hdb : (x == ("__debug__" : Str)) = false := by decide) (he : starEach (e :: es) X.env = (false, eval e X.env) :: starEach es X.env := by rfl) (hpl : (backTo pos (starEach es X.env)).any (·.1) = false := by rfl) :
    PE X (.Call (.Name x p) (e :: es) [] pos) (tCall sp dvs E t) := by
  intro pins s σ H Q I h
  refine wpAny_Call_Name_kw (ld_glob I hg hm ?_ hdb)
  refine PySem.W.callWith_K (h₀ := X.base) I.ok.mod.kin hk (thn (ha pos pins s σ H _ I h) fun us s1 ⟨vs, H1, I1, r, q⟩ => ⟨I1.kIn, ?_⟩) he hpl
  exact run_fn F hr hb hd hx I1 r q
end

section
variable {X : Cx} {CX : CXT} {k : Nat} {f C : Addr} {fd : FuncData} {ps ks : List Str} {sp : Sp} {E : XK} {x m : Str} {p pos apos kpos : Pos} {e o : Expr} {es : List Expr} {kws : List Keyword} {te ta : TE} {t tk : TA} {nm : Option Str}
variable {g : List Value → List Value → List Value} {gV : List V → List V → List V}
end

structure FnScope (N P : List Str) (sc : Scope) : Prop where
  kind : sc.kind = .function
  co : sc.isCoroutine = false
  gen : sc.isGenerator = false
  nd : N.Nodup
  pre : N.take P.length = P
  par : ∀ x ∈ P, sc.names.lookup x = some .local ∨ sc.names.lookup x = some .cell
  nofree : ∀ y ∈ sc.names, y.2 ≠ .free

theorem bindL_out {kindOf : Str → Option NameKind} {x : Str} : ∀ {binds : List (Str × Value)} {m : Str → Option Value}, (∀ v, (x, v) ∉ binds) → bindL kindOf binds m x = m x
  | [], _, _ => rfl
  | (n, v) :: r, m, h => by
    unfold bindL
    rw [bindL_out fun w hw => h w (List.mem_cons_of_mem _ hw)]
    split
    · have : x ≠ n := by rintro rfl; exact h v List.mem_cons_self
      simp [this]
    · rfl
theorem bindC_out {kindOf : Str → Option NameKind} {x : Str} : ∀ {binds : List (Str × Value)} {m : Str → Option Value}, (∀ v, (x, v) ∉ binds) → bindC kindOf binds m x = m x
  | [], _, _ => rfl
  | (n, v) :: r, m, h => by
    unfold bindC
    rw [bindC_out fun w hw => h w (List.mem_cons_of_mem _ hw)]
    split
    · rfl
    · have : x ≠ n := by rintro rfl; exact h v List.mem_cons_self
      simp [this]
theorem bindL_get {kindOf : Str → Option NameKind} {x : Str} {v : Value} : ∀ {P : List Str} {vs : List Value} {i : Nat} {m : Str → Option Value}, P.Nodup → P[i]? = some x → vs[i]? = some v → kindOf x = some .local →
    bindL kindOf (P.zip vs) m x = some v
  | [], _, _, _, _, h, _, _ => by simp at h
  | _ :: _, [], _, _, _, _, h, _ => by simp at h
  | p :: P, w :: vs, 0, m, nd, h1, h2, hk => by
    simp at h1 h2; subst h1; subst h2
    show bindL kindOf ((p, w) :: P.zip vs) m p = _
    unfold bindL
    rw [bindL_out fun v hv => (List.nodup_cons.mp nd).1 (List.of_mem_zip hv).1, if_pos hk]
    simp
  | p :: P, w :: vs, i + 1, m, nd, h1, h2, hk => by
    show bindL kindOf ((p, w) :: P.zip vs) m x = _
    unfold bindL
    exact bindL_get (i := i) (List.nodup_cons.mp nd).2 (by simpa using h1) (by simpa using h2) hk
theorem bindC_get {kindOf : Str → Option NameKind} {x : Str} {v : Value} : ∀ {P : List Str} {vs : List Value} {i : Nat} {m : Str → Option Value}, P.Nodup → P[i]? = some x → vs[i]? = some v → kindOf x ≠ some .local →
    bindC kindOf (P.zip vs) m x = some v
  | [], _, _, _, _, h, _, _ => by simp at h
  | _ :: _, [], _, _, _, _, h, _ => by simp at h
  | p :: P, w :: vs, 0, m, nd, h1, h2, hk => by
    simp at h1 h2; subst h1; subst h2
    show bindC kindOf ((p, w) :: P.zip vs) m p = _
    unfold bindC
    rw [bindC_out fun v hv => (List.nodup_cons.mp nd).1 (List.of_mem_zip hv).1, if_neg hk]
    simp
  | p :: P, w :: vs, i + 1, m, nd, h1, h2, hk => by
    show bindC kindOf ((p, w) :: P.zip vs) m x = _
    unfold bindC
    exact bindC_get (i := i) (List.nodup_cons.mp nd).2 (by simpa using h1) (by simpa using h2) hk

def start (N : List Str) (vs : List V) : St := vs.map some ++ List.replicate (N.length - vs.length) none

def cxOf (CX : CXT) (P : Program) (w : World) (K : PySem.W.Frag) (mg : Str → Option Value) (base : Heap) (N : List Str) (qual : Str) (scope : Scope) (f : Addr) (cd : Value) (A : Around) (outer : List Env) (s : Shared) (H : Hp) (E : XK) : Cx where
  prog := P
  w := w
  K := K
  mg := mg
  base := base
  A := A.deeper (envOfC qual scope s.heap.objs.size f cd)
  N := N
  s₀ := s
  H₀ := H
  env := envOfC qual scope s.heap.objs.size f cd
  outer := outer
  stack := envOfC qual scope s.heap.objs.size f cd :: outer
  ex := []
  calm := true
  fn := fun _ => true
  pn := []
  xe := fun e s' => wpAny (model P w) (A.deeper (envOfC qual scope s.heap.objs.size f cd)) (leaving (envOfC qual scope s.heap.objs.size f cd) e) (fun _ s'' => CX outer H s E e s'') (fun e' s'' => CX outer H s E e' s'') s'

theorem cell_has {sc : Scope} {n : Nat} {x : Str} (h : sc.names.lookup x = some .cell) : ∃ c, (cellsFrom n sc.names []).lookup x = some c := by
  have q := PySem.W.cellsFrom_some sc.names n [] (.inl h)
  exact Option.isSome_iff_exists.mp q

theorem inv_start {CX : CXT} {P : Program} {w : World} {K : PySem.W.Frag} {mg : Str → Option Value} {base : Heap} {N ps : List Str} {qual : Str} {scope : Scope} {f : Addr} {cd : Value} {A : Around} {outer : List Env} {s s1 : Shared} {H : Hp} {E : XK} {us : List Value} {vs : List V}
    (S : FnScope N ps scope) (hd : A.handled = none) (e0 : Env0 P w K mg base A outer s H) (hl : vs.length = ps.length) (r : Vals vs us)
    (x : InCallC s s.heap.objs.size (bindL (envOfC qual scope s.heap.objs.size f cd).kindOf (ps.zip us) fun _ => none) (cellsFrom (s.heap.objs.size + 1) scope.names []) (bindC (envOfC qual scope s.heap.objs.size f cd).kindOf (ps.zip us) fun _ => none) s1) :
    Inv (cxOf CX P w K mg base N qual scope f cd A outer s H E) [] (start N vs) H s1 := by
  have hpl : ps.length ≤ N.length := by have := congrArg List.length S.pre; rw [List.length_take] at this; omega
  obtain ⟨h1, tk, rfl, hk⟩ := x.done
  have noA : ∀ b : Addr, b ∉ (cxOf CX P w K mg base N qual scope f cd A outer s H E).ex := fun b z => absurd (show b ∈ ([] : List Addr) from z) (by simp)
  refine ⟨⟨e0.mod, S.kind, rfl, rfl, Nat.le_refl _, fun y z c h1 h2 => ?_, fun y hy => ?_, fun y c _ h => ?_, fun _ => hd, Around.frames_deeper e0.frames, .inr ⟨rfl, rfl⟩, fun b z => absurd z (noA b), e0.bs, e0.bsz, fun b _ _ => noA b, fun b z => absurd z (noA b), e0.funs, e0.frf⟩,
    rfl, e0.bare, Un.kept hk, ⟨_, x.toInCall.ns, fun i y v h1 h2 h3 => ?_⟩, fun y c h => ⟨_, x.cell y c h⟩, e0.hok.fresh (Nat.le_refl _), fun y c h => ?_, fun p hp => absurd (show p ∈ ([] : List (Addr × Obj)) from hp) (by simp), e0.hok.kept hk, ?_⟩
  · exact name_of_addr x.apart (PySem.mem_of_lookup h1) (PySem.mem_of_lookup h2)
  · have hy : scope.names.lookup y = some .cell ∨ scope.names.lookup y = some .free := hy
    rcases hy with hy | hy
    · exact cell_has hy
    · exact absurd rfl (S.nofree _ (PySem.mem_of_lookup hy))
  · exact Nat.le_of_lt (x.above y c (PySem.mem_of_lookup h))
  · have hi : i < vs.length := by
      unfold start at h2
      by_cases hi : i < vs.length
      · exact hi
      · rw [List.getElem?_append_right (by simpa using hi)] at h2
        rw [List.getElem?_replicate] at h2
        split at h2 <;> cases h2
    have ha : vs[i]? = some v := by
      unfold start at h2
      rw [List.getElem?_append_left (by simpa using hi), List.getElem?_map] at h2
      cases e : vs[i]? with
      | none => rw [e] at h2; cases h2
      | some a => rw [e] at h2; cases h2; rfl
    obtain ⟨u, hu, rv⟩ := r.get ha
    have hp : ps[i]? = some y := by
      rw [← S.pre, List.getElem?_take_of_lt (by omega)]; exact h1
    have ndP : ps.Nodup := by rw [← S.pre]; exact S.nd.sublist (List.take_sublist _ _)
    refine ⟨u, rv, ?_⟩
    rcases S.par y (List.mem_of_getElem? hp) with k | k
    · exact .inl ⟨k, bindL_get ndP hp hu k⟩
    · obtain ⟨c, e⟩ := cell_has (n := s.heap.objs.size + 1) k
      refine .inr ⟨.inl k, c, e, ?_⟩
      have q := x.cell y c e
      rw [bindC_get ndP hp hu (by show scope.names.lookup y ≠ _; rw [k]; decide)] at q
      exact q
  · exact e0.hok.fresh (Nat.le_of_lt (x.above y c (PySem.mem_of_lookup h)))
  · unfold start
    show _ = N.length
    rw [List.length_append, List.length_map, List.length_replicate]
    omega

theorem fn_of {CX : CXT} {P : Program} {w : World} {K : PySem.W.Frag} {mg : Str → Option Value} {base : Heap} {k : Nat} {f : Addr} {name qual : Str} {params : Arguments} {body : List Stmt} {scope : Scope} {dV kV doc pm cdv ct oc : Value} {an od : Option Addr}
    {osl : Array (Option Value)} {N ps : List Str} {sp : Sp} (lk : K.lookup f = some ⟨oc, od, .func (PySem.W.fnOf name qual params body scope dV kV doc pm an cdv ct), osl⟩) (hcd : PySem.W.codeIn K cdv qual = true) (S : FnScope N ps scope)
    (len : ∀ vs H Q E, sp vs H Q E → vs.length = ps.length)
    (hbody : ∀ (A : Around) (outer : List Env) (s : Shared) (H : Hp) (vs : List V) (Q : VK) (E : XK), Room k (A.deeper (envOfC qual scope s.heap.objs.size f cdv)) → sp vs H Q E →
      ∃ t, PSs (cxOf CX P w K mg base N qual scope f cdv A outer s H E) body t ∧ t { nx := fun _ H' => Q .non H', rt := Q } (start N vs) H) :
    FnOk P w K mg base CX (k + 1) f (PySem.W.fnOf name qual params body scope dV kV doc pm an cdv ct) ps sp := by
  refine ⟨len, fun A outer s H args us vs Q E hr e0 hb r hsp => ?_⟩
  have hl := len _ _ _ _ hsp
  have KX : K.In s.heap := e0.mod.kin.keeps fun b o e => (e0.bs b o e).1
  have lim : s.heap.NoLimit := e0.mod.nolimit.keeps fun b o e => (e0.bs b o e).1
  have hkind : ∀ y ∈ ps.zip us, scope.names.lookup y.1 = some .local ∨ (scope.names.lookup y.1 = some .cell ∧ ((cellsFrom (s.heap.objs.size + 1) scope.names []).lookup y.1).isSome = true) := fun ⟨n, v⟩ hy => by
    rcases S.par n (List.of_mem_zip hy).1 with q | q
    · exact .inl q
    · exact .inr ⟨q, PySem.W.cellsFrom_some _ _ _ (.inl q)⟩
  refine codeAny_call_function hr.depth (KX _ _ lk) rfl S.co S.gen rfl (PySem.W.codeRec_of KX hcd) (hb _ _ _ _ ?_)
  refine wpAny_newFunctionEnv_cells S.kind hkind fun env he s1 x => ?_
  subst he
  refine ⟨lim.keeps x.toInCall.keep, codeAny_func ?_⟩
  obtain ⟨t, ht, hq⟩ := hbody A outer s H vs Q E (hr.deeper _) hsp
  have I : Inv (cxOf CX P w K mg base N qual scope f cdv A outer s H E) [] (start N vs) H s1 := inv_start S hr.hd e0 hl r x
  refine wpAny_mono (ht [] s1 (start N vs) H _ I hq) (fun fl s' hs => ?_) fun e s' hs => hs
  have fin : ∀ {σ' : St} {H' : Hp} {v : V} {u : Value}, Inv (cxOf CX P w K mg base N qual scope f cdv A outer s H E) [] σ' H' s' → RelV v u → Q v H' → CE outer P w H s Q u s' :=
    fun {σ' H' v u} J rv q => ⟨v, H', J.os, J.bare, J.base, J.hok, rv, q⟩
  cases fl with
  | ret u =>
    obtain ⟨v, σ', H', J, rv, q⟩ := hs
    exact fin J rv q
  | next =>
    obtain ⟨σ', H', J, q⟩ := hs
    exact fin (v := V.non) (u := Value.none) J rfl q
  | brk =>
    obtain ⟨_, _, _, q⟩ := hs
    exact False.elim q
  | cont =>
    obtain ⟨_, _, _, q⟩ := hs
    exact False.elim q
end L2

namespace L2
open PySem PySem.Spec PyProof.Rows
section
variable {X : Cx} {x : Str} {p pos : Pos} {e : Expr} {es : List Expr} {t : TA} {id T : String} {r : List V → Hp → VK → Prop}

def tCB (r : List V → Hp → VK → Prop) (t : TA) : TE := fun σ H Q => t σ H fun vs H1 => r vs H1 Q
theorem pe_callB (hc : CallR X (.builtin id) r) (hg : Gl X x) (hm : X.mg x = none) (hv : bootBuiltins x = some (.builtin id)) (ha : PA X (e :: es) t) (hn : x ≠ "__name__" := by decide) (hdb : (x == ("__debug__" : Str)) = false := by decide)
    (he : starEach (e :: es) X.env = (false, eval e X.env) :: starEach es X.env := by rfl) (hpl : (backTo pos (starEach es X.env)).any (·.1) = false := by rfl) : PE X (.Call (.Name x p) (e :: es) [] pos) (tCB r t) := by
  intro pins s σ H Q I h
  refine wpAny_Call_Name_kw (ld_blt I hg hm hv ?_ hn hdb)
  exact PyProof.Rows.callWith_builtin1 (thn (ha pos pins s σ H _ I h) fun us s1 ⟨vs, H1, I1, r1, q1⟩ => hc pins s1 σ H1 vs us Q I1 r1 q1) he hpl
theorem pe_callTy (hc : CallR X (.type T) r) (hg : Gl X x) (hm : X.mg x = none) (hv : bootBuiltins x = some (.type T)) (ha : PA X (e :: es) t) (hn : x ≠ "__name__" := by decide) (hdb : (x == ("__debug__" : Str)) = false := by decide)
    (he : starEach (e :: es) X.env = (false, eval e X.env) :: starEach es X.env := by rfl) (hpl : (backTo pos (starEach es X.env)).any (·.1) = false := by rfl) : PE X (.Call (.Name x p) (e :: es) [] pos) (tCB r t) := by
  intro pins s σ H Q I h
  refine wpAny_Call_Name_kw (ld_blt I hg hm hv ?_ hn hdb)
  exact PyProof.Rows.callWith_type1 (thn (ha pos pins s σ H _ I h) fun us s1 ⟨vs, H1, I1, r1, q1⟩ => hc pins s1 σ H1 vs us Q I1 r1 q1) he hpl
end
end L2

namespace HT
open PySem PyProof.Rows

section
open PySem.SeqAt
open PySem.AutoSeq1 (wpAny_loadPart')
open PySem.MeetsSeq PySem.MeetsSeq2 PySem.MeetsSeq3

end

section
variable {prog : Program} {w : World} {A : Around} {E : Value → Shared → Prop} {s : Shared}

end
end HT

namespace L2
open PySem PySem.Spec PyProof.Rows

abbrev TO := St → Hp → (Option Int → Hp → Prop) → Prop
def PO (X : Cx) (e : Option Expr) (t : TO) : Prop :=
  ∀ (pins : List (Addr × Obj)) (s : Shared) (σ : St) (H : Hp) (Q : Option Int → Hp → Prop), Inv X pins σ H s → t σ H Q →
    wpAny (model X.prog X.w) X.A (evalPart e X.env) (fun u s' => ∃ o H', Inv X pins σ H' s' ∧ IsPart u o ∧ Q o H') X.xe s
def tNoPart : TO := fun _ H Q => Q none H
def tPart (t : TE) : TO := fun σ H Q => t σ H fun x H1 => ∃ i, x = .int i ∧ Q (some i) H1

theorem intsAre_of {ns : List Int} : ∀ {us : List Value}, Vals (ns.map V.int) us → IntsAre us ns := by
  induction ns with
  | nil => intro us r; rw [List.map_nil] at r; cases r; exact .nil
  | cons n ns ih =>
    intro us r
    rw [List.map_cons] at r
    cases r with
    | cons r1 r2 =>
      obtain ⟨t, e⟩ := r1
      subst e
      exact .cons n t (ih r2)

section
variable {X : Cx} {e : Expr} {te : TE} {lo hi : Option Expr} {tl th : TO} {pos p2 : Pos}

theorem po_none : PO X none tNoPart := by
  intro pins s σ H Q I h
  rw [evalPart_none]
  exact wpAny_pure ⟨none, H, I, .none, h⟩
theorem po_some (h : PE X e te) : PO X (some e) (tPart te) := by
  intro pins s σ H Q I hw
  rw [evalPart_some]
  refine thn (h pins s σ H _ I hw) fun u s1 ⟨x, H1, I1, r1, q1⟩ => ?_
  obtain ⟨i, rfl, q⟩ := q1
  obtain ⟨t, rfl⟩ := r1
  exact ⟨some i, H1, I1, .int i t, q⟩

def SlR (X : Cx) (r : V → Option Int → Option Int → Hp → VK → Prop) : Prop :=
  ∀ (pins : List (Addr × Obj)) (s : Shared) (σ : St) (H : Hp) (x : V) (v vl vu : Value) (lo hi : Option Int) (sl : Addr) (Q : VK), Inv X pins σ H s → RelV x v → s.heap.IsSliceOf sl vl vu .none → IsPart vl lo → IsPart vu hi → r x lo hi H Q →
    ∃ T id, typeLookup (.type T) "__getitem__" = pure (some (.builtin id)) ∧ s.TypeIs v T ∧ wpAny (model X.prog X.w) X.A (getItem v (.ref sl)) (EP X pins σ Q) X.xe s
def tSl (r : V → Option Int → Option Int → Hp → VK → Prop) (te : TE) (tl th : TO) : TE := fun σ H Q => te σ H fun x H1 => tl σ H1 fun l H2 => th σ H2 fun u H3 => r x l u H3 Q
theorem pe_slice {r : V → Option Int → Option Int → Hp → VK → Prop} (hr : SlR X r) (he : PE X e te) (hl : PO X lo tl) (hu : PO X hi th) : PE X (.Subscript e (.Slice lo hi none p2) pos) (tSl r te tl th) := by
  intro pins s σ H Q I h
  refine Subscript_ (thn (he pins s σ H _ I h) fun v s1 ⟨x, H1, I1, r1, q1⟩ => ?_)
  refine wpAny_Slice (thn (hl pins s1 σ H1 _ I1 q1) fun vl s2 ⟨l, H2, I2, pl, q2⟩ => thn (hu pins s2 σ H2 _ I2 q2) fun vu s3 ⟨u, H3, I3, pu, q3⟩ => ?_)
  rw [evalPart_none]
  refine wpAny_pure ?_
  have I4 : Inv X pins σ H3 { s3 with heap := s3.heap.push { cls := .type "slice", data := .fields #[vl, vu, .none] } } := I3.kept (t' := s3.toks) fun b ob q => Heap.get?_push_of_some _ q
  obtain ⟨T, id, hT, ht, hg⟩ := hr pins { s3 with heap := s3.heap.push { cls := .type "slice", data := .fields #[vl, vu, .none] } } σ H3 x v vl vu l u s3.heap.objs.size Q I4 r1 (Heap.IsSliceOf.new ..) pl pu q3
  show wpAny (model X.prog X.w) X.A (subscriptTail e (.Slice lo hi none p2) v (.ref s3.heap.objs.size)) (EP X pins σ Q) X.xe { s3 with heap := s3.heap.push { cls := .type "slice", data := .fields #[vl, vu, .none] } }
  exact tail_any (ops := [.ref s3.heap.objs.size, v]) ht hT hg (by with_unfolding_all rfl)

end
end L2

namespace L2
open PySem PySem.Spec PyProof.Rows

def ixN (n : Nat) (i : Int) : Option Nat := if 0 ≤ i then (if i < n then some i.toNat else none) else if -(n : Int) ≤ i then some (i + n).toNat else none
def atI {α : Type} (xs : List α) (i : Int) : Option α := (ixN xs.length i).bind fun j => xs[j]?
theorem ixN_seq {n : Nat} {i : Int} {j : Nat} (h : ixN n i = some j) : seqIndex? i n = some j ∧ j < n ∧ -(n : Int) ≤ i ∧ i < n := by
  unfold ixN at h
  by_cases h0 : 0 ≤ i
  · rw [if_pos h0] at h
    by_cases h1 : i < n
    · rw [if_pos h1] at h
      have e : i.toNat = j := Option.some.inj h
      exact ⟨by rw [seqIndex_of h0 h1, e], by omega, by omega, h1⟩
    · rw [if_neg h1] at h; cases h
  · rw [if_neg h0] at h
    by_cases h1 : -(n : Int) ≤ i
    · rw [if_pos h1] at h
      have e : (i + n).toNat = j := Option.some.inj h
      exact ⟨by rw [seqIndex_neg (by omega) h1, e], by omega, h1, by omega⟩
    · rw [if_neg h1] at h; cases h
theorem atI_get {α : Type} {xs : List α} {i : Int} {v : α} (h : atI xs i = some v) : ∃ j, seqIndex? i xs.length = some j ∧ xs[j]? = some v ∧ j < xs.length ∧ -(xs.length : Int) ≤ i ∧ i < xs.length := by
  unfold atI at h
  cases e : ixN xs.length i with
  | none => rw [e] at h; cases h
  | some j =>
    rw [e] at h
    obtain ⟨h1, h2, h3, h4⟩ := ixN_seq e
    exact ⟨j, h1, h, h2, h3, h4⟩
theorem atI_nat {α : Type} {xs : List α} {j : Nat} {v : α} (h : xs[j]? = some v) : atI xs (j : Int) = some v := by
  have hj : j < xs.length := (List.getElem?_eq_some_iff.mp h).1
  have e : ixN xs.length (j : Int) = some j := by
    unfold ixN
    rw [if_pos (by omega), if_pos (by omega)]; simp
  unfold atI; rw [e]; exact h
def PlainIx (b : Expr) : Prop := ∀ o i, subscripted b false o i = operate [o, i] (getItem o i)
def IxR (X : Cx) (r : R2) : Prop :=
  ∀ (value slice : Expr) (pins : List (Addr × Obj)) (s : Shared) (σ : St) (H : Hp) (x y : V) (v u : Value) (Q : VK), Inv X pins σ H s → RelV x v → RelV y u → r x y H Q →
    subscripted slice false v u = operate [v, u] (getItem v u) → wpAny (model X.prog X.w) X.A (subscriptTail value slice v u) (EP X pins σ Q) X.xe s
def MtR (X : Cx) (id : String) (r : V → List V → Hp → VK → Prop) : Prop :=
  ∀ (pins : List (Addr × Obj)) (s : Shared) (σ : St) (H : Hp) (x : V) (xs : List V) (v : Value) (us : List Value) (Q : VK), Inv X pins σ H s → RelV x v → Vals xs us → r x xs H Q →
    wpAny (model X.prog X.w) X.A (call (.builtin id) (v :: us)) (EP X pins σ Q) X.xe s
section
variable {X : Cx} {a b : Expr} {ta tb : TE} {pos : Pos}
theorem IxR.or {r r' : R2} (h : IxR X r) (h' : IxR X r') : IxR X (fun x y H Q => r x y H Q ∨ r' x y H Q) := by
  intro value slice pins s σ H x y v u Q I rx ry q hs
  rcases q with q | q
  · exact h value slice pins s σ H x y v u Q I rx ry q hs
  · exact h' value slice pins s σ H x y v u Q I rx ry q hs
theorem pe_ix {r : R2} (hr : IxR X r) (ha : PE X a ta) (hb : PE X b tb) (hs : PlainIx b) : PE X (.Subscript a b pos) (tOp r ta tb) := by
  intro pins s σ H Q I h
  exact Subscript_ (binT ha hb I h fun v u s2 x y H2 I2 rx ry q => hr a b pins s2 σ H2 x y v u Q I2 rx ry q (hs _ _))

def rIxL (K : PySem.W.Frag) : R2 := fun x y H Q => ∃ p xs i v, x = .ref p ∧ y = .int i ∧ SqL K H p xs ∧ atI xs i = some v ∧ Q v H
def rIxT (K : PySem.W.Frag) : R2 := fun x y H Q => ∃ p xs i v, x = .ref p ∧ y = .int i ∧ SqT K H p xs ∧ atI xs i = some v ∧ Q v H
def rIxS : R2 := fun x y H Q => ∃ z i c, x = .str z ∧ y = .int i ∧ z.length ≤ sizeLine ∧ atI z.cps.toList i = some c ∧ Q (.str ⟨#[c]⟩) H
theorem ix_list : IxR X (rIxL X.K) := by
  intro value slice pins s σ H x y v u Q I rx ry h hs
  obtain ⟨p, xs, i, z, rfl, rfl, hq, he, q⟩ := h
  cases rx
  obtain ⟨t, rfl⟩ := ry
  obtain ⟨its, r, pl, hz⟩ := I.list hq
  obtain ⟨j, h1, h2, h3, h4, h5⟩ := atI_get he
  obtain ⟨w, ew, rw'⟩ := r.get h2
  have hl := r.length
  have hn := line63
  have fin : EP X pins σ Q w s := ⟨z, H, I, rw', q⟩
  by_cases h0 : 0 ≤ i
  · have hj : i.toNat = j := by
      rw [seqIndex_of h0 h5] at h1
      exact Option.some.inj h1
    exact item_listR pl.isList h0 (by omega) (by rw [hj]; simpa using ew) fin hs
  · have hj : (i + (its.toArray.size : Int)).toNat = j := by
      rw [seqIndex_neg (by omega) h4] at h1
      rw [List.size_toArray, ← hl]
      exact Option.some.inj h1
    exact subscriptTail_builtinR (x := w) pl.isList.typeIs slot_list_getitem.lookup
      (wpAny_getItem_list_neg (Q := fun r s' => r = w ∧ EP X pins σ Q r s') pl.isList (by omega) (by rw [List.size_toArray] <;> omega) (by omega) (by rw [hj]; simpa using ew) ⟨rfl, fin⟩) hs
theorem ix_tup : IxR X (rIxT X.K) := by
  intro value slice pins s σ H x y v u Q I rx ry h hs
  obtain ⟨p, xs, i, z, rfl, rfl, hq, he, q⟩ := h
  cases rx
  obtain ⟨t, rfl⟩ := ry
  obtain ⟨its, r, pl, hz⟩ := I.tuple hq
  obtain ⟨j, h1, h2, h3, h4, h5⟩ := atI_get he
  obtain ⟨w, ew, rw'⟩ := r.get h2
  have hl := r.length
  have hn := line63
  have fin : EP X pins σ Q w s := ⟨z, H, I, rw', q⟩
  exact subscriptTail_builtinR (x := w) pl.typeIs slot_tuple_getitem.lookup
    (getItem_tuple (j := j) (Q := fun r s' => r = w ∧ EP X pins σ Q r s') pl (by omega) (by omega) (by rw [List.size_toArray, ← hl]; exact h1) (by simpa using ew) ⟨rfl, fin⟩) hs
theorem ix_str : IxR X rIxS := by
  intro value slice pins s σ H x y v u Q I rx ry h hs
  obtain ⟨z, i, c, rfl, rfl, hz, he, q⟩ := h
  obtain ⟨t, rfl⟩ := rx
  obtain ⟨t', rfl⟩ := ry
  obtain ⟨j, h1, h2, h3, h4, h5⟩ := atI_get he
  have hl : z.cps.toList.length = z.length := by simp [Str.length]
  rw [hl] at h1 h4 h5
  have hn := line63
  exact tail_any (typeIs_str s z t) slot_str_getitem.lookup (getItem_str (c := c) (by
    have e1 : decide (i < -(2 ^ 63 : Int)) = false := decide_eq_false (by omega)
    have e2 : decide (i ≥ 2 ^ 63) = false := decide_eq_false (by omega)
    rw [e1, e2, Bool.or_false]) (by rw [h1]; simpa using h2) ⟨.str ⟨#[c]⟩, H, I.tok _, ⟨_, rfl⟩, q⟩) hs
def rIx (K : PySem.W.Frag) : R2 := fun x y H Q => rIxL K x y H Q ∨ rIxT K x y H Q ∨ rIxS x y H Q
theorem ix_seq : IxR X (rIx X.K) := ix_list.or (ix_tup.or ix_str)

theorem mapSeq_set (its : List Value) (n j : Nat) (u : Value) : Obj.mapSeq (·.setIfInBounds j u) { cls := .type "list", data := .seq its.toArray n } = { cls := .type "list", data := .seq (its.set j u).toArray n } := by
  simp [Obj.mapSeq]
theorem Inv.lst {pins : List (Addr × Obj)} {σ : St} {H : Hp} {s : Shared} {p : Addr} {xs : List V} (I : Inv X pins σ H s) (h : H p = some (.lst xs)) :
    ∃ (its : List Value) (n : Nat), Vals xs its ∧ s.heap.get? p = some { cls := .type "list", data := .seq its.toArray n } ∧ xs.length ≤ sizeLine := by
  obtain ⟨z, its, n, r, e⟩ := I.hok p _ h
  exact ⟨its, n, r, e, z⟩
theorem Inv.lstUpd {pins : List (Addr × Obj)} {σ : St} {H : Hp} {s : Shared} {p : Addr} {xs ys : List V} {its its' : List Value} {n n' : Nat} {f : Obj → Obj} (I : Inv X pins σ H s) (h : H p = some (.lst xs))
    (ho : s.heap.get? p = some { cls := .type "list", data := .seq its.toArray n }) (hf : f { cls := .type "list", data := .seq its.toArray n } = { cls := .type "list", data := .seq its'.toArray n' }) (r : Vals ys its') (hz : ys.length ≤ sizeLine) (t : Nat) :
    Inv X pins σ (upd H p (.lst ys)) { s with heap := s.heap.update p f, toks := t } := by
  have e : (s.heap.update p f).get? p = some { cls := .type "list", data := .seq its'.toArray n' } := by
    rw [Heap.get?_update_self f ho (by rw [hf] <;> rfl), hf]
  refine I.write (x := p) (e := p) (by rw [h]; trivial) (.inl rfl) (fun b u hb q => (Heap.get?_update_other _ _ (Ne.symm hb)).trans q) ⟨_, e⟩ ?_
  exact ⟨hz, its', n', r, e⟩
def rSetL : V → V → V → Hp → (Hp → Prop) → Prop := fun o i v H Q => ∃ p xs k j, o = .ref p ∧ i = .int k ∧ H p = some (.lst xs) ∧ ixN xs.length k = some j ∧ Q (upd H p (.lst (xs.set j v)))
theorem set_list : PSet X rSetL := by
  intro pins s σ H o i v ov iv u Q I ro ri rv h
  obtain ⟨p, xs, k, j, rfl, rfl, hp, hj, q⟩ := h
  cases ro
  obtain ⟨t, rfl⟩ := ri
  obtain ⟨its, n, r, ho, hz⟩ := I.lst hp
  obtain ⟨h1, h2, h3, h4⟩ := ixN_seq hj
  have hl := r.length
  have hn := line63
  have I' : Inv X pins σ (upd H p (.lst (xs.set j v))) { s with heap := s.heap.update p (Obj.mapSeq (·.setIfInBounds j u)) } :=
    I.lstUpd hp ho (mapSeq_set its n j u) (r.set rv j) (by rw [List.length_set]; exact hz) s.toks
  by_cases h0 : 0 ≤ k
  · have hk : k.toNat = j := by
      rw [seqIndex_of h0 h4] at h1
      exact Option.some.inj h1
    exact PySem.W.ki_setAt ho h0 (by omega) (by rw [List.size_toArray, ← hl]; exact h4) (by rw [hk]; exact ⟨_, I', q⟩)
  · have hk : (k + (its.toArray.size : Int)).toNat = j := by
      rw [seqIndex_neg (by omega) h3] at h1
      rw [List.size_toArray, ← hl]
      exact Option.some.inj h1
    exact PySem.W.ki_setBack ho (by omega) (by rw [List.size_toArray, ← hl]; exact h3) (by omega) (by rw [hk]; exact ⟨_, I', q⟩)

def flatV : V → Bool
  | .non => true
  | .bl _ => true
  | .int _ => true
  | .str _ => true
  | _ => false
def eqV : V → V → Bool
  | .non, .non => true
  | .bl a, .bl b => a == b
  | .bl a, .int b => (if a then 1 else 0) == b
  | .int a, .bl b => a == (if b then 1 else 0)
  | .int a, .int b => a == b
  | .str a, .str b => a == b
  | _, _ => false
theorem eqAt_V {A : Around} {s : Shared} {y x : V} {u v : Value} (ry : RelV y u) (rx : RelV x v) (fy : flatV y = true) (fx : flatV x = true) : SeqAt.EqAt A s u v (eqV y x) := by
  cases y with
  | non =>
    cases ry
    cases x with
    | non => cases rx; exact SeqAt.EqAt.same _
    | bl b => cases rx; exact SeqAt.EqAt.none_bool b
    | int b => obtain ⟨t, rfl⟩ := rx; exact SeqAt.EqAt.none_int b t
    | str b => obtain ⟨t, rfl⟩ := rx; exact SeqAt.EqAt.none_str b t
    | _ => exact absurd (show false = true from fx) Bool.false_ne_true
  | bl a =>
    cases ry
    cases x with
    | non => cases rx; exact SeqAt.EqAt.bool_none a
    | bl b => cases rx; exact SeqAt.EqAt.bool_bool a b
    | int b => obtain ⟨t, rfl⟩ := rx; exact SeqAt.EqAt.bool_int a b t
    | str b => obtain ⟨t, rfl⟩ := rx; exact SeqAt.EqAt.bool_str a b t
    | _ => exact absurd (show false = true from fx) Bool.false_ne_true
  | int a =>
    obtain ⟨t', rfl⟩ := ry
    cases x with
    | non => cases rx; exact SeqAt.EqAt.int_none a t'
    | bl b => cases rx; exact SeqAt.EqAt.int_bool a t' b
    | int b => obtain ⟨t, rfl⟩ := rx; exact SeqAt.EqAt.int_int a t' b t
    | str b => obtain ⟨t, rfl⟩ := rx; exact SeqAt.EqAt.int_str a t' b t
    | _ => exact absurd (show false = true from fx) Bool.false_ne_true
  | str a =>
    obtain ⟨t', rfl⟩ := ry
    cases x with
    | non => cases rx; exact SeqAt.EqAt.str_none a t'
    | bl b => cases rx; exact SeqAt.EqAt.str_bool a t' b
    | int b => obtain ⟨t, rfl⟩ := rx; exact SeqAt.EqAt.str_int a t' b t
    | str b => obtain ⟨t, rfl⟩ := rx; exact SeqAt.EqAt.str_str a t' b t
    | _ => exact absurd (show false = true from fx) Bool.false_ne_true
  | _ => exact absurd (show false = true from fy) Bool.false_ne_true
def eqU (x : V) (u : Value) : Bool := match u with
  | .none => eqV .non x
  | .bool b => eqV (.bl b) x
  | .int i _ => eqV (.int i) x
  | .str z _ => eqV (.str z) x
  | _ => false
theorem eqU_of {x y : V} {u : Value} (r : RelV y u) (f : flatV y = true) : eqU x u = eqV y x := by
  cases y with
  | non => cases r; rfl
  | bl b => cases r; rfl
  | int i => obtain ⟨t, rfl⟩ := r; rfl
  | str z => obtain ⟨t, rfl⟩ := r; rfl
  | _ => exact absurd (show false = true from f) Bool.false_ne_true
theorem any_eqU {x : V} : ∀ {xs : List V} {us : List Value}, Vals xs us → xs.all flatV = true → us.any (eqU x) = xs.any fun y => eqV y x
  | _, _, .nil, _ => rfl
  | y :: xs, u :: us, .cons r t, f => by
    rw [List.all_cons, Bool.and_eq_true] at f
    rw [List.any_cons, List.any_cons, eqU_of r f.1, any_eqU t f.2]
theorem mem_eqAt {A : Around} {s : Shared} {x : V} {v : Value} (rx : RelV x v) (fx : flatV x = true) : ∀ {xs : List V} {us : List Value}, Vals xs us → xs.all flatV = true → ∀ u ∈ us, SeqAt.EqAt A s u v (eqU x u)
  | _, _, .nil, _ => fun u hu => by cases hu
  | y :: xs, u :: us, .cons r t, f => fun u' hu => by
    rw [List.all_cons, Bool.and_eq_true] at f
    rcases List.mem_cons.mp hu with rfl | hu
    · rw [eqU_of r f.1]; exact eqAt_V r rx f.1 fx
    · exact mem_eqAt rx fx t f.2 u' hu
def inV (x : V) (xs : List V) : Bool := xs.any fun y => eqV y x
def rIn (K : PySem.W.Frag) (neg : Bool) : R2 := fun x y H Q => ∃ p xs, y = .ref p ∧ (SqL K H p xs ∨ SqT K H p xs) ∧ flatV x = true ∧ xs.all flatV = true ∧ Q (.bl (if neg then !inV x xs else inV x xs)) H
theorem op_notIn_seq : OpR X (compareOp .NotIn) (rIn X.K true) := by
  intro pins s σ H x y v u Q I rx ry h
  obtain ⟨p, xs, rfl, hq, fx, fs, q⟩ := h
  cases ry
  rcases hq with hq | hq
  · obtain ⟨its, r, pl, hz⟩ := I.list hq
    refine SeqAt.notIn_listAt (eqU x) pl.isList (fun w hw => mem_eqAt rx fx r fs w (by simpa using hw)) ⟨.bl _, H, I, rfl, ?_⟩
    rw [show its.toArray.any (eqU x) = its.any (eqU x) by simp, any_eqU r fs]
    exact q
  · obtain ⟨its, r, pl, hz⟩ := I.tuple hq
    refine SeqAt.notIn_tupleAt (eqU x) pl (fun w hw => mem_eqAt rx fx r fs w (by simpa using hw)) ⟨.bl _, H, I, rfl, ?_⟩
    rw [show its.toArray.any (eqU x) = its.any (eqU x) by simp, any_eqU r fs]
    exact q
theorem op_notIn_str : OpR X (compareOp .NotIn) (fun x y H Q => ∃ i j, x = .str i ∧ y = .str j ∧ Q (.bl (!(!(Builtin.Str.occurrences j i 0 j.length 1).isEmpty))) H) := by
  intro pins s σ H x y v u Q I rx ry h
  obtain ⟨i, j, rfl, rfl, q⟩ := h
  obtain ⟨t, rfl⟩ := rx
  obtain ⟨t', rfl⟩ := ry
  exact notIn_str ⟨.bl _, H, I, rfl, q⟩

theorem call_len_seq : CallR X (.builtin "len") (fun xs H Q => ∃ p ys, xs = [.ref p] ∧ (SqL X.K H p ys ∨ SqT X.K H p ys) ∧ Q (.int ys.length) H) := by
  intro pins s σ H xs us Q I r h
  obtain ⟨p, ys, rfl, hq, q⟩ := h
  obtain ⟨u, rfl, rx⟩ := vals1 r
  cases rx
  have hn := line63
  rcases hq with hq | hq
  · obtain ⟨its, r', pl, hz⟩ := I.list hq
    have hlen := r'.length
    exact Calls.call_len_list pl.isList (by simp only [List.size_toArray] <;> omega) ⟨.int ys.length, H, I.tok _, ⟨s.toks + 1, by rw [List.size_toArray, hlen]⟩, q⟩
  · obtain ⟨its, r', pl, hz⟩ := I.tuple hq
    have hlen := r'.length
    exact len_tuple pl (by simp only [List.size_toArray] <;> omega) ⟨.int ys.length, H, I.tok _, ⟨s.toks + 1, by rw [List.size_toArray, hlen]⟩, q⟩
theorem call_len_str : CallR X (.builtin "len") (fun xs H Q => ∃ z, xs = [.str z] ∧ z.length ≤ sizeLine ∧ Q (.int z.length) H) := by
  intro pins s σ H xs us Q I r h
  obtain ⟨z, rfl, hz, q⟩ := h
  obtain ⟨u, rfl, t, rfl⟩ := vals1 r
  have hn := line63
  exact len_str (by omega) ⟨.int z.length, H, I.tok _, ⟨_, rfl⟩, q⟩
theorem call_tuple_of : CallR X (.type "tuple") (fun xs H Q => ∃ p ys, xs = [.ref p] ∧ ((SqL X.K H p ys ∧ ∀ l, H l = none → Q (.ref l) (upd H l (.tup ys))) ∨ (SqT X.K H p ys ∧ Q (.ref p) H))) := by
  intro pins s σ H xs us Q I r h
  obtain ⟨p, ys, rfl, h⟩ := h
  obtain ⟨u, rfl, rx⟩ := vals1 r
  cases rx
  rcases h with ⟨hq, q⟩ | ⟨hq, q⟩
  · obtain ⟨its, r', pl, hz⟩ := I.list hq
    have hlen := r'.length
    refine call_tuple_list pl.isList (fun h' kp => ?_) (by simp only [List.size_toArray] <;> omega)
    have I1 : Inv X pins σ H { s with heap := h' } := I.kept (t' := s.toks) kp
    have I2 : Inv X pins σ (upd H h'.objs.size (.tup ys)) { s with heap := h'.push { cls := .type "tuple", data := .seq its.toArray } } :=
      I1.laid (t' := s.toks) (fun b o e => Heap.get?_push_of_some _ e) (Nat.le_refl _) (show ObjOk X.prog X.w _ _ _ (.tup ys) from ⟨hz, its, r', IsTup.new _ _⟩)
    exact ⟨.ref h'.objs.size, _, I2, rfl, q _ (I1.hok.fresh (Nat.le_refl _))⟩
  · obtain ⟨its, r', pl, hz⟩ := I.tuple hq
    exact call_tuple_same pl ⟨.ref p, H, I, rfl, q⟩

def tyV (K : PySem.W.Frag) (T : String) (x : V) (H : Hp) : Prop := match x with
  | .str _ => T = "str"
  | .int _ => T = "int"
  | .ref p => (T = "list" ∧ ∃ xs, SqL K H p xs) ∨ (T = "tuple" ∧ ∃ o, K.lookup p = some o ∧ o.cls = .type "tuple" ∧ o.dict = none) ∨
      (T = "dict" ∧ ((∃ kvs, H p = some (.dK kvs)) ∨ ∃ kvs, H p = some (.dT kvs))) ∨ (T = "set" ∧ ∃ S n, H p = some (.set S n))
  | _ => False
theorem tyV_is {pins : List (Addr × Obj)} {σ : St} {H : Hp} {s : Shared} {T : String} {x : V} {v : Value} (I : Inv X pins σ H s) (r : RelV x v) (ty : tyV X.K T x H) :
    s.TypeIs v T ∧ ∀ a, v = .ref a → ∃ ob, s.heap.get? a = some ob ∧ ob.dict = none := by
  cases x with
  | str z =>
    obtain ⟨t, rfl⟩ := r
    cases (show T = "str" from ty)
    exact ⟨typeIs_str s z t, fun _ e => nomatch e⟩
  | int i =>
    obtain ⟨t, rfl⟩ := r
    cases (show T = "int" from ty)
    exact ⟨typeIs_int s i t, fun _ e => nomatch e⟩
  | ref p =>
    cases r
    rcases ty with ⟨rfl, xs, hq⟩ | ⟨rfl, o, hk, hc, hd⟩ | ⟨rfl, hk⟩ | ⟨rfl, S, n, hk⟩
    · obtain ⟨its, _, pl, _⟩ := I.list hq
      refine ⟨pl.isList.typeIs, fun a e => ?_⟩
      cases e
      obtain ⟨o, n, e, c, hd, _⟩ := pl
      exact ⟨o, e, hd⟩
    · refine ⟨⟨o, I.kIn p o hk, hc⟩, fun a e => ?_⟩
      cases e
      exact ⟨o, I.kIn _ o hk, hd⟩
    · have z : ∃ o, s.heap.get? p = some o ∧ o.ExactDict := by
        rcases hk with ⟨kvs, hk⟩ | ⟨kvs, hk⟩
        · obtain ⟨_, _, _, _, o, _, _, e, ex, _⟩ := I.hok p _ hk
          exact ⟨o, e, ex⟩
        · obtain ⟨_, _, _, _, o, _, _, e, ex, _⟩ := I.hok p _ hk
          exact ⟨o, e, ex⟩
      obtain ⟨o, e, ex⟩ := z
      refine ⟨⟨o, e, ex.1⟩, fun a e2 => ?_⟩
      cases e2
      exact ⟨o, e, ex.2.1⟩
    · obtain ⟨o, _, _, _, e, ex, _⟩ := I.hok p _ hk
      refine ⟨⟨o, e, ex.1⟩, fun a e2 => ?_⟩
      cases e2
      exact ⟨o, e, ex.2.1⟩
  | _ => exact False.elim ty
def tBM (K : PySem.W.Frag) (T : String) (r : V → List V → Hp → VK → Prop) (to : TE) (t : TA) : TE := fun σ H Q => to σ H fun x H1 => tyV K T x H1 ∧ t σ H1 fun xs H2 => r x xs H2 Q
variable {o e : Expr} {es : List Expr} {to : TE} {t : TA} {name : Str} {apos cpos : Pos} {T id : String} {r : V → List V → Hp → VK → Prop}
theorem pe_bm (pa : PlainAttrs T) (slot : Slot T name id) (hty : typeOf (.builtin id) = pure (.type "method_descriptor")) (hm : MtR X id r) (ho : PE X o to) (ha : PA X (e :: es) t)
    (hbase : attributeBase o name X.env (eval o X.env) = eval o X.env := by rfl)
    (hfew : ((backTo cpos (starEach (e :: es) X.env)).all (fun x => !x.1) && (backToKw cpos (keywordEach [] X.env)).all (fun x => x.1.isSome)
      && decide ((e :: es).length + ([] : List Keyword).length + (if ([] : List Keyword).isEmpty then 0 else 1) < 30)) = true := by rfl)
    (hline : (apos.endLine == cpos.line) = true := by rfl) (hs : starEach (e :: es) X.env = (false, eval e X.env) :: starEach es X.env := by rfl) (hplain : (backTo cpos (starEach es X.env)).any (·.1) = false := by rfl) :
    PE X (.Call (.Attribute o name apos) (e :: es) [] cpos) (tBM X.K T r to t) := by
  intro pins s σ H Q I h
  refine wpAny_Call_method_late hbase hfew hline rfl (thn (ho pins s σ H _ I h) fun v s1 ⟨x, H1, I1, r1, ty, q1⟩ => ?_)
  obtain ⟨h1, h2⟩ := tyV_is I1 r1 ty
  refine ⟨T, id, pa, slot, hty, h1, h2, ?_⟩
  have hA := ha cpos pins s1 σ H1 _ I1 q1
  rw [hs] at hA ⊢
  refine Calls.callWith_builtin (by show (false || (backTo cpos (starEach es X.env)).any (·.1)) = false; rw [hplain] <;> rfl) (Calls.evalArgs_plain ?_)
  exact thn hA fun us s2 ⟨vs, H2, I2, r2, q2⟩ => hm pins s2 σ H2 x vs v us Q I2 r1 r2 q2
/- xs.append(e), list.index on a module's tuple .. are MtR facts of 06m -/
end
end L2

namespace L2
open PySem PySem.Spec PyProof.Rows

def MtM (X : Cx) (id : String) (r : V → List V → Hp → VK → Prop) : Prop :=
  ∀ (pins : List (Addr × Obj)) (s : Shared) (σ : St) (H : Hp) (x : V) (xs : List V) (v : Value) (us : List Value) (Q : VK), Inv X pins σ H s → RelV x v → Vals xs us → r x xs H Q →
    wpAny (model X.prog X.w) X.A (call (.builtin id) (v :: us)) (EP X pins σ Q) X.xe s

theorem Vals.one : ∀ {x : V} {us : List Value}, Vals [x] us → ∃ u, us = [u] ∧ RelV x u
  | _, _, .cons r .nil => ⟨_, rfl, r⟩
theorem Vals.reverse {xs : List V} {us : List Value} (h : Vals xs us) : Vals xs.reverse us.reverse := by
  induction h with
  | nil => exact .nil
  | cons r t ih => rw [List.reverse_cons, List.reverse_cons]; exact Vals.append ih (.cons r .nil)
section
variable {X : Cx} {pins : List (Addr × Obj)} {σ : St} {H : Hp} {s : Shared} {l b : Addr} {xs ys zs : List V}

theorem Inv.lset {its its' : List Value} {n : Nat} {f : Array Value → Array Value} {t' : Nat} (I : Inv X pins σ H s) (hH : H l = some (.lst xs))
    (e : s.heap.get? l = some { cls := .type "list", data := .seq its.toArray n }) (hf : f its.toArray = its'.toArray) (hv : Vals ys its') (hz : ys.length ≤ sizeLine) :
    Inv X pins σ (upd H l (.lst ys)) { s with heap := s.heap.update l (Obj.mapSeq f), toks := t' } := by
  have q := PySem.IsL.update e f
  rw [hf] at q
  refine I.write (x := l) (e := l) (by rw [hH]; exact trivial) (.inl rfl) (fun b' u hb hu => (Heap.get?_update_other s.heap (Obj.mapSeq f) (Ne.symm hb)).trans hu) ⟨_, q⟩ ?_
  exact ⟨hz, its', _, hv, q⟩
theorem Inv.lnew {its : List Value} {t' : Nat} (I : Inv X pins σ H s) (hv : Vals ys its) (hz : ys.length ≤ sizeLine) :
    Inv X pins σ (upd H s.heap.objs.size (.lst ys)) { s with heap := s.heap.push { cls := .type "list", data := .seq its.toArray }, toks := t' } :=
  I.laid (fun _ _ q => Heap.get?_push_of_some _ q) (Nat.le_refl _) ⟨hz, its, 0, hv, Heap.get?_push_size _ rfl⟩
theorem Inv.fresh (I : Inv X pins σ H s) : H s.heap.objs.size = none := I.hok.fresh (Nat.le_refl _)
theorem Inv.lstM (I : Inv X pins σ H s) (hH : H l = some (.lst xs)) : xs.length ≤ sizeLine ∧ ∃ (its : List Value) (n : Nat), Vals xs its ∧ xs.length = its.length ∧ s.heap.get? l = some { cls := .type "list", data := .seq its.toArray n } := by
  obtain ⟨z, its, n, r, e⟩ := I.hok l _ hH
  exact ⟨z, its, n, r, r.length, e⟩

end

section
variable {X : Cx}

def rAppend : V → List V → Hp → VK → Prop := fun x vs H Q => ∃ l xs y, x = .ref l ∧ vs = [y] ∧ H l = some (.lst xs) ∧ xs.length < sizeLine ∧ Q .non (upd H l (.lst (xs ++ [y])))
theorem mt_append : MtM X "list.append" rAppend := by
  intro pins s σ H x vs v us Q I rx rv h
  obtain ⟨l, xs, y, rfl, rfl, hH, hz, q⟩ := h
  cases rx
  obtain ⟨u, rfl, ru⟩ := rv.one
  obtain ⟨z, its, n, r, hl, e⟩ := I.lstM hH
  refine call_meets F.slot_list_append ⟨_, e, rfl⟩ F.entry_list_append (F.args_list_append_2 _ _) (PySem.list_append l its.toArray n u (by rw [List.size_toArray]; omega)) ⟨e, ?_⟩
  refine ⟨.non, _, I.lset (its' := its ++ [u]) hH e (by simp) (r.append (.cons ru .nil)) ?_, rfl, q⟩
  rw [List.length_append, List.length_singleton]
  omega

def rCat : R2 := fun x y H Q => ∃ l b xs zs, x = .ref l ∧ y = .ref b ∧ H l = some (.lst xs) ∧ H b = some (.lst zs) ∧ xs.length + zs.length ≤ sizeLine ∧ ∀ p, H p = none → Q (.ref p) (upd H p (.lst (xs ++ zs)))
theorem op_cat : OpR X (binaryOp .Add) rCat := by
  intro pins s σ H x y v u Q I rx ry h
  obtain ⟨l, b, xs, zs, rfl, rfl, hH, hB, hz, q⟩ := h
  cases rx
  cases ry
  obtain ⟨z, its, n, r, hl, e⟩ := I.lstM hH
  obtain ⟨z2, its2, n2, r2, hl2, e2⟩ := I.lstM hB
  refine PySem.P.add_list e e2 ?_ (by rw [List.size_toArray, List.size_toArray]; omega)
  have ea : its.toArray ++ its2.toArray = (its ++ its2).toArray := by simp
  rw [ea]
  exact ⟨.ref _, _, I.lnew (t' := s.toks) (r.append r2) (by rw [List.length_append]; omega), rfl, q _ I.fresh⟩
end

section
variable {prog : Program} {w : World} {A : Around} {E : Value → Shared → Prop} {s : Shared}
end

section
variable {X : Cx}
end
end L2

namespace Att
open PySem PySem.W PySem.Calls PyProof.Rows

theorem ints_of_wellAll {P : Params} {h : Heap} : ∀ (ns : List Int) (vs : List Value), WellAll P h vs (ns.map WData.int) → IntsAre vs ns := by
  intro ns
  induction ns with
  | nil =>
    intro vs w
    rw [List.map_nil] at w
    cases w
    exact .nil
  | cons n ns ih =>
    intro vs w
    rw [List.map_cons] at w
    cases w with
    | cons a b =>
      cases a
      exact .cons _ _ (ih _ b)

theorem script_of {l : OpenLaw} {n : Nat} (hn : l.most = some n) {P : Params} {h : Heap} {args : List WData} {vals : List Value}
    (hpre : l.row.toRowW.claim.pre args = true) (hwl : WellAll P h vals args) :
    ∃ a vs ns, vals = [Value.ref a] ∧ args = [WData.list (ns.map WData.int)] ∧ h.get? a = some { cls := .type "list", data := .seq vs.toArray } ∧ IntsAre vs ns ∧ ns.length ≤ n := by
  have hsh : WShape.hasAll [] args [.list .int] = true := (pre_splitW hpre).1
  have hc : l.pre.holds [] { args := args } = true := (pre_splitW hpre).2
  obtain ⟨d, r, rfl, h1, h2⟩ := hasAllW_cons hsh
  obtain rfl := hasAllW_nil h2
  obtain ⟨xs, rfl, h3⟩ := hasW_list h1
  obtain ⟨ns, rfl⟩ := items_int h3
  have hlen : ns.length ≤ n := by
    unfold OpenLaw.pre at hc
    have h4 : (WTm.not (.lt (.lit (.int (n : Int))) (.len (.arg 0)))).holds [] { args := [.list (ns.map .int)] } = true := by
      have h4 := (holds_andW hc).1
      rw [hn] at h4
      exact h4
    have h5 := condW_of h4 (w_not (w_lt w_lit (w_len_list (w_arg rfl))))
    rw [List.length_map] at h5
    refine Nat.le_of_not_lt fun q => ?_
    have q' : (n : Int) < ((ns.length : Nat) : Int) := by omega
    first
      | (rw [decide_eq_true q'] at h5; exact absurd h5 (by decide))
      | (simp at h5; omega)
  cases hwl with
  | cons w1 w2 =>
    cases w2
    cases w1 with
    | list ho hall => exact ⟨_, _, ns, rfl, rfl, ho, ints_of_wellAll ns _ hall, hlen⟩

theorem post_true (l : OpenLaw) (args : List WData) : l.row.toRowW.claim.post args (.bool true) args = true :=
  postW_of (r := l.row.toRowW) (X := (true == true))
    (show WShape.has [] (.bool true) .bool = true by first | rfl | decide | simp [WShape.has, WShape.arms, WShape.armsAll])
    (show (WTm.eq .res (.lit (.bool true))).value [] { args := args, res := some (.bool true), after := args } = some (.bool (true == true)) from w_eq_bool (w_res rfl) w_lit) rfl

theorem attach_call {l : OpenLaw} {n : Nat} {q : Program} {loose : List Str} {XP : (Str → Option Value) → Heap → Prop} {YP : World → Heap → Prop} {d : DefRec}
    (hn : l.most = some n) (hdf : d.params.defaults = [])
    (call : ∀ (w : World) (s₀ s₁ : Shared) (mg mb : Str → Option Value) (fa : Addr) (o : Obj) (pm cd doc : Value) (a : Addr) (vs : List Value) (ns : List Int),
      Ground q loose [] XP w s₀ mg mb s₁.heap → YP w s₁.heap →
      s₁.heap.get? fa = some o → o.data = .func (docDef d.name d.params d.body d.scope pm cd doc) → s₁.heap.CodeRec cd d.name → mg d.name = some (.ref fa) →
      s₁.heap.get? a = some { cls := .type "list", data := .seq vs.toArray } → IntsAre vs ns → ns.length ≤ n → s₁.gens = #[] →
      codeAny (model l.prog w) callerA (.call (.ref fa) ⟨[.ref a], []⟩) (fun r s' => r = .ok (.ret (.bool true)) ∧ OldK s₁.heap s'.heap ∧ s'.os = s₁.os ∧ AllBare s'.gens) s₁) :
    WalkO q loose XP YP l.row.toRowW d [] (fun f vs => PySem.call f vs) := by
  intro w s₀ s₁ mg mb G Y fa o pm cd doc dV kV ho hd hcd hD hmg hg args vals as hpre hlay hrd hwl hlo
  obtain rfl : dV = .none := Dflts.none hD hdf
  obtain rfl : kV = .none := Dflts.noKw hD
  obtain ⟨a, vs, ns, rfl, rfl, hobj, hints, hlen⟩ := script_of hn hpre hwl
  refine enter_call (codeAny_mono (call w s₀ s₁ mg mb fa o pm cd doc a vs ns G Y ho (fd_plain hd) hcd hmg hobj hints hlen hg) fun r s' hq => ?_)
  obtain ⟨rfl, h2, h3, h4⟩ := hq
  exact ⟨.inl ⟨.bool true, .bool true, [], rfl, fun _ => rfl, .bool true, post_true l _, fun _ => ⟨List.Pairwise.nil, fun _ hm => (nomatch hm)⟩⟩, h2, h3, h4⟩

section
variable {prog : Program} {w : World} {A : Around} {E : Value → Shared → Prop} {s : Shared} {K : Frag}

end
end Att

namespace L2
open PySem PySem.Spec PyProof.Rows

theorem vals_ints : ∀ {vs : List Value} {ns : List Int}, IntsAre vs ns → Vals (ns.map V.int) vs
  | _, _, .nil => .nil
  | _, _, .cons n t h => .cons ⟨t, rfl⟩ (vals_ints h)

def Only (H : Hp) : Prop := ∀ b, H b = none ∨ ∃ o xs, H b = some (.frz o (.lst xs))

theorem law_call {P : Program} {w : World} {K : PySem.W.Frag} {mg mb : Str → Option Value} {CX : CXT} {k : Nat} {fa a : Addr} {fd : FuncData} {x : Str} {sp : Sp} {s₁ : Shared} {vs : List Value} {ns : List Int}
    (KX : K.In s₁.heap) (hns : s₁.heap.Ns mainGlobals mg) (hb : s₁.heap.Ns builtinsNs mb) (hbb : ∀ x : Str, x ≠ "__name__" → mb x = bootBuiltins x) (hlim : s₁.heap.NoLimit) (hg : s₁.gens = #[])
    (ha : s₁.heap.get? a = some { cls := .type "list", data := .seq vs.toArray }) (hi : IntsAre vs ns) (hl : ns.length ≤ sizeLine) (hr : Room k callerA)
    (F : ∀ base : Heap, K.In base → base.Ns mainGlobals mg → FnOk P w K mg base CX k fa fd [x] sp) (hbind : ∀ (s : Shared) (u : Value), BindsTo s fd ⟨[u], []⟩ [(x, u)])
    (hsp : ∀ H : Hp, Only H → SqL K H a (ns.map V.int) → sp [.ref a] H (fun v _ => v = .bl true) fun _ _ _ => False)
    (hCX : ∀ H e s', CX [] H s₁ (fun _ _ _ => False) e s' → False) :
    codeAny (model P w) callerA (.call (.ref fa) ⟨[.ref a], []⟩) (fun r s' => r = .ok (.ret (.bool true)) ∧ OldK s₁.heap s'.heap ∧ s'.os = s₁.os ∧ AllBare s'.gens) s₁ := by
  have rv := vals_ints hi
  have lenV := hi.length
  -- from an abstract heap in which nothing but the script may be tracked
  have core : ∀ H : Hp, Only H → SqL K H a (ns.map V.int) → HOk P w H s₁.heap → (∀ b, H b ≠ none → b = a) → (H a ≠ none → K.lookup a = none) →
      codeAny (model P w) callerA (.call (.ref fa) ⟨[.ref a], []⟩) (fun r s' => r = .ok (.ret (.bool true)) ∧ OldK s₁.heap s'.heap ∧ s'.os = s₁.os ∧ AllBare s'.gens) s₁ := by
    intro H hO hS hok hA hK
    have base_of : ∀ {b : Addr} {o : Obj}, s₁.heap.get? b = some o → H b = none → (hidT s₁.heap H).get? b = some o := fun e n => hidT_get e n
    have noA : ∀ {b : Addr} {o : Obj} {es : Array DictEntry} {ep : Nat}, s₁.heap.get? b = some o → o.data = .dict es ep → H b = none := fun {b o es ep} e d => by
      cases q : H b with
      | none => rfl
      | some u =>
        have e' : b = a := hA b (by rw [q]; simp)
        subst e'
        rw [ha] at e; cases e
        have d' : Data.seq vs.toArray _ = Data.dict es ep := d
        cases d'
    have nsK : ∀ {b : Addr} {m : Str → Option Value}, s₁.heap.Ns b m → (hidT s₁.heap H).Ns b m := fun {b m} ⟨o, es, ep, e, d, r⟩ => ⟨o, es, ep, base_of e (noA e d), d, r⟩
    have hKb : K.In (hidT s₁.heap H) := fun b o e => base_of (KX b o e) (by
      cases q : H b with
      | none => rfl
      | some u =>
        have e' : b = a := hA b (by rw [q]; simp)
        subst e'
        rw [hK (by rw [q]; simp)] at e; cases e)
    have hM : Mod K mg (hidT s₁.heap H) := ⟨hKb, nsK hns, ⟨mb, nsK hb, hbb⟩, let ⟨mc, h1, h2⟩ := hlim; ⟨mc, nsK h1, h2⟩⟩
    have e0 : Env0 P w K mg (hidT s₁.heap H) callerA [] s₁ H := ⟨rfl, hM, fun b o e => of_hidT e, Nat.le_of_eq (hidT_size _ _), trivial, fun b hb => absurd (show b ∈ ([] : List Addr) from hb) (by simp), hok, .of_eq hg⟩
    refine codeAny_mono ((F _ hKb (nsK hns)).run callerA [] s₁ H ⟨[.ref a], []⟩ [.ref a] [.ref a] _ _ hr e0 (hbind s₁ (.ref a)) (.cons rfl .nil) (hsp H hO hS)) fun r s' h => ?_
    cases r with
    | error e => exact (hCX H e s' h).elim
    | ok fl =>
      cases fl with
      | next => exact False.elim h
      | brk => exact False.elim h
      | cont => exact False.elim h
      | ret u =>
        obtain ⟨v, H', os, bare, un, hok', r', q⟩ := h
        have q' : v = .bl true := q
        subst q'
        obtain rfl : u = Value.bool true := r'
        refine ⟨rfl, OldK.of_keep fun b o e => ?_, os, bare⟩
        cases q : H b with
        | none => exact un.keep b o e q (by intro z; exact absurd (show b ∈ ([] : List Addr) from z) (by simp)) (by simp)
        | some u =>
          rcases hO b with z | ⟨ob, xs, z⟩
          · rw [q] at z; cases z
          · have z2 := un.frzs b ob _ z
            obtain ⟨e1, _⟩ := hok b _ z
            obtain ⟨e2, _⟩ := hok' b _ z2
            rw [e] at e1; cases e1
            exact e2
  cases hk : K.lookup a with
  | some o =>
    -- the script is one of the module's own objects
    have e := KX a o hk
    rw [ha] at e
    cases e
    refine core (fun _ => none) (fun _ => .inl rfl) (.inr ⟨_, vs.toArray, _, hk, rfl, rfl, rfl, by rw [List.size_toArray, lenV]; exact hl, by simpa using rv⟩) (fun b u z => by have z' : (none : Option HO) = some u := z; cases z') (fun b z => absurd rfl z) fun z => absurd rfl z
  | none =>
    refine core (fun b => if b = a then some (.frz { cls := .type "list", data := .seq vs.toArray } (.lst (ns.map V.int))) else none) (fun b => ?_) (.inl (.inr ⟨{ cls := .type "list", data := .seq vs.toArray }, if_pos rfl⟩)) (fun b u z => ?_) (fun b z => ?_) fun _ => hk
    · by_cases hb : b = a
      · exact .inr ⟨_, _, if_pos hb⟩
      · exact .inl (if_neg hb)
    · by_cases hb : b = a
      · have z' := (if_pos hb).symm.trans z
        cases z'
        subst hb
        exact ⟨ha, by rw [List.length_map]; exact hl, vs, _, rv, ha⟩
      · have z' := (if_neg hb).symm.trans z
        cases z'
    · by_cases hb : b = a
      · exact hb
      · exact absurd (if_neg hb) z
end L2

namespace L2
open PySem PySem.Spec PyProof.Rows

theorem walk_of {l : PySem.W.OpenLaw} {n k : Nat} {q : Program} {loose : List Str} {XP : (Str → Option Value) → Heap → Prop} {YP : World → Heap → Prop} {d : DefRec} {K : Params → PySem.W.Frag} {CX : World → CXT} {sp : World → Sp} {x : Str}
    (hn : l.most = some n) (hn2 : n ≤ sizeLine) (hdf : d.params.defaults = []) (hr : Room k callerA)
    (hY : ∀ (w : World) (h : Heap), YP w h → (K w.params).In h)
    (F : ∀ (w : World) (mg : Str → Option Value) (fa : Addr) (h : Heap), (K w.params).In h → h.Ns mainGlobals mg → mg d.name = some (.ref fa) →
      ∃ fd : FuncData, (∀ (s : Shared) (u : Value), BindsTo s fd ⟨[u], []⟩ [(x, u)]) ∧
        ∀ base : Heap, (K w.params).In base → base.Ns mainGlobals mg → FnOk l.prog w (K w.params) mg base (CX w) k fa fd [x] (sp w))
    (hsp : ∀ (w : World) (H : Hp) (a : Addr) (ns : List Int), ns.length ≤ n → Only H → SqL (K w.params) H a (ns.map V.int) → sp w [.ref a] H (fun v _ => v = .bl true) fun _ _ _ => False)
    (hCX : ∀ (w : World) (H : Hp) (s : Shared) (e : Value) (s' : Shared), CX w [] H s (fun _ _ _ => False) e s' → False) :
    PySem.W.WalkO q loose XP YP l.row.toRowW d [] (fun f vs => PySem.call f vs) := by
  refine Att.attach_call hn hdf fun w s₀ s₁ mg mb fa o pm cd doc a vs ns G Y ho hd hcd hmg hobj hints hlen hg => ?_
  have KX := hY w _ Y
  obtain ⟨fd, hb, hF⟩ := F w mg fa _ KX G.T.g hmg
  exact law_call KX G.T.g G.T.b G.T.builtins G.T.nolimit hg hobj hints (Nat.le_trans hlen hn2) hr hF hb (fun H hO hS => hsp w H a ns hlen hO hS) fun H e s' => hCX w H s₁ e s'
end L2

/- THE LAST THEOREM (shape; LID, My.* are yours):
   My.Adr: a structure of the addresses that your layer names (classes, functions); My.Txt K t: a structure (Prop) of the equations over K;
   My.txt_mk : {K} {implicit addresses ..} (e1 : nsIn K mainGlobals "law" = some (some (.ref f))) (e2 : K.lookup f = some ⟨oc, od, .func (fnOf "law" "law" params body scope dV kV doc pm an cdv ct), sl⟩) (e3 : codeIn K cdv "law" = true) .. : ∃ t, My.Txt K t

set_option maxRecDepth 100000 in
set_option maxHeartbeats 0 in
theorem PySem.Challenge.cw_LID_holds : PySem.Challenge.rw_LID.Holds := by
  w_on; o_law; k_head; (case hw => w_witness2)
  k_fill
  refine L2.walk_of (l := PySem.Challenge.rw_LID) (n := 63) (k := 40) (x := "script") (CX := fun w => ..) (sp := fun _ => My.sp_law) rfl (by decide) rfl ⟨rfl, by decide, by decide⟩ (fun w h Y => PySem.W.kIn_of Y) ?F ?S ?C
  case F =>
    intro w mg fa h KX G hmg
    have T : ∃ t, My.Txt (L2.KOf KX) t := by
      dsimp only [L2.KOf]                          -- K must stand as «<heap const> w.params» for k_is
      refine' My.txt_mk ?e1 ?e2 ?e3 ..
      (case e1 => PySem.W.k_is)                    -- in the order: a name -> its address -> its object -> its parts
      (case e2 => PySem.W.k_is)
      ..
    obtain ⟨t, T⟩ := T
    have e0 := hmg.symm.trans (PySem.W.mg_of KX G T.law)
    cases e0                                       -- fa is the law's own address
    exact ⟨_, fun s u => .of_eq rfl, fun base kb nb => My.law_fn T kb nb⟩     -- if «.of_eq rfl» comes too early: refine' ⟨_, ?b, fun base kb nb => My.law_fn T kb nb⟩; exact fun s u => .of_eq rfl
  case S => exact fun w H a ns hl hO hS => ..
  case C => exact ..
(the tactic k_is has no namespace: write k_is) -/

namespace L2
open PySem PySem.Spec PyProof.Rows

def defArgs (s : Stmt) : Arguments := match s with
  | .FunctionDef _ a _ _ _ _ _ _ _ _ => a
  | _ => { posonlyargs := [], args := [], vararg := none, kwonlyargs := [], kw_defaults := [], kwarg := none, defaults := [] }
def defBody (s : Stmt) : List Stmt := match s with
  | .FunctionDef _ _ b _ _ _ _ _ _ _ => b
  | _ => []
def defScope (s : Stmt) : Scope := match s with
  | .FunctionDef _ _ _ _ _ _ sc _ _ _ => sc
  | _ => { kind := .function, names := [], isGenerator := false, isCoroutine := false }

abbrev CX0 : CXT := fun _ _ _ _ _ _ => False
abbrev E0 : XK := fun _ _ _ => False
theorem pass0 {X : Cx} : Passes CX0 X E0 := fun _ _ _ _ _ _ _ h => h.elim

structure Fun (K : PySem.W.Frag) (x qual : Str) (st : Stmt) (f : Addr) (fd : FuncData) : Prop where
  ex : ∃ (oc : Value) (od : Option Addr) (kV doc pm : Value) (an : Option Addr) (cdv ct : Value) (osl : Array (Option Value)),
    fd = PySem.W.fnOf x qual (defArgs st) (defBody st) (defScope st) .none kV doc pm an cdv ct ∧ K.lookup f = some ⟨oc, od, .func fd, osl⟩ ∧ PySem.W.codeIn K cdv qual = true
  kp : PySem.W.keepIn K (.ref f) = true
section
variable {P : Program} {w : World} {K : PySem.W.Frag} {mg : Str → Option Value} {base : Heap}
theorem Fun.ok {x qual : Str} {st : Stmt} {f : Addr} {fd : FuncData} {N ps : List Str} {k : Nat} {sp : Sp} (F : Fun K x qual st f fd) (S : FnScope N ps (defScope st)) (len : ∀ vs H Q E, sp vs H Q E → vs.length = ps.length)
    (hbody : ∀ (cdv : Value) (A : Around) (outer : List Env) (s : Shared) (H : Hp) (vs : List V) (Q : VK) (E : XK), Room k (A.deeper (envOfC qual (defScope st) s.heap.objs.size f cdv)) → sp vs H Q E →
      ∃ t, PSs (cxOf CX0 P w K mg base N qual (defScope st) f cdv A outer s H E).nox (defBody st) t ∧ t { nx := fun _ H' => Q .non H', rt := Q } (start N vs) H) : FnOk P w K mg base CX0 (k + 1) f fd ps sp := by
  obtain ⟨oc, od, kV, doc, pm, an, cdv, ct, osl, rfl, lk, hcd⟩ := F.ex
  refine fn_of lk hcd S len fun A outer s H vs Q E hr hsp => ?_
  obtain ⟨t, h, q⟩ := hbody cdv A outer s H vs Q E hr hsp
  exact ⟨t, h.nox, q⟩
theorem Fun.binds {x qual : Str} {st : Stmt} {f : Addr} {fd : FuncData} {ps : List Str} (F : Fun K x qual st f fd)
    (h : ∀ (kV doc pm : Value) (an : Option Addr) (cdv ct : Value) (us : List Value), us.length = ps.length → bindArgs (PySem.W.fnOf x qual (defArgs st) (defBody st) (defScope st) .none kV doc pm an cdv ct) ⟨us, []⟩ = pure (ps.zip us)) : Binds K fd ps [] := by
  obtain ⟨oc, od, kV, doc, pm, an, cdv, ct, osl, rfl, lk, hcd⟩ := F.ex
  exact .all (h kV doc pm an cdv ct)
theorem fun_mk {x qual : Str} {st : Stmt} {f : Addr} {oc : Value} {od an : Option Addr} {osl : Array (Option Value)} {kV doc pm cdv ct : Value} (l : K.lookup f = some ⟨oc, od, .func (PySem.W.fnOf x qual (defArgs st) (defBody st) (defScope st) .none kV doc pm an cdv ct), osl⟩)
    (c : PySem.W.codeIn K cdv qual = true) (k : PySem.W.keepIn K (.ref f) = true) : Fun K x qual st f (PySem.W.fnOf x qual (defArgs st) (defBody st) (defScope st) .none kV doc pm an cdv ct) := ⟨⟨oc, od, kV, doc, pm, an, cdv, ct, osl, rfl, l, c⟩, k⟩
end
section
variable {X : Cx}
theorem pv (i : Nat) {x : Str} {pos : Pos} (hN : X.N[i]? = some x := by rfl) (hv : Vis X.env.scope x := by first | exact Or.inl rfl | exact Or.inr (Or.inl rfl) | exact Or.inr (Or.inr rfl)) (hd : (x == ("__debug__" : Str)) = false := by decide)
    (hcd : (x == ("__classdict__" : Str)) = false := by decide) : PE X (.Name x pos) (tVar i) := pe_var hN hv hd hcd
end

end L2
section
set_option maxHeartbeats 4000000
namespace L2
open PySem PySem.Spec PyProof.Rows

theorem bt_int : bootBuiltins "int" = some (.type "int") := by decide +kernel
theorem bt_bool : bootBuiltins "bool" = some (.type "bool") := by decide +kernel
theorem bt_list : bootBuiltins "list" = some (.type "list") := by decide +kernel
theorem bt_tuple : bootBuiltins "tuple" = some (.type "tuple") := by decide +kernel
theorem bt_len : bootBuiltins "len" = some (.builtin "len") := by decide +kernel
theorem bt_isinstance : bootBuiltins "isinstance" = some (.builtin "isinstance") := by decide +kernel

def Has (P : Program) (w : World) (K : PySem.W.Frag) (mg : Str → Option Value) (base : Heap) (k : Nat) (x : Str) (ps : List Str) (sp : Sp) : Prop :=
  ∃ (f : Addr) (fd : FuncData), FnOk P w K mg base CX0 k f fd ps sp ∧ mg x = some (.ref f) ∧ PySem.W.keepIn K (.ref f) = true ∧ Binds K fd ps [] ∧ ∃ (oc : Value) (od : Option Addr) (osl : Array (Option Value)), K.lookup f = some ⟨oc, od, .func fd, osl⟩
theorem pe_fn {X : Cx} {j k : Nat} {x : Str} {ps : List Str} {sp : Sp} {e : Expr} {es : List Expr} {t : TA} {p pos : Pos} (E : Has X.prog X.w X.K X.mg X.base k x ps sp) (hr : Room j X.A) (ha : PA X (e :: es) t)
    (hk : k ≤ j := by decide) (hg : Gl X x := by rfl) (hdb : (x == ("__debug__" : Str)) = false := by decide) (he : starEach (e :: es) X.env = (false, eval e X.env) :: starEach es X.env := by rfl)
    (hpl : (backTo pos (starEach es X.env)).any (·.1) = false := by rfl) : PE X (.Call (.Name x p) (e :: es) [] pos) (tCall sp [] E0 t) := by
  obtain ⟨f, fd, F, hm, kp, hb, _⟩ := E
  exact pe_call F (hr.mono hk) hg hm kp hb .nil pass0 ha hdb he hpl
def Src (K : PySem.W.Frag) (mg : Str → Option Value) (x : Str) (st : Stmt) : Prop := ∃ (f : Addr) (fd : FuncData), Fun K x x st f fd ∧ mg x = some (.ref f)
theorem Src.has {P : Program} {w : World} {K : PySem.W.Frag} {mg : Str → Option Value} {base : Heap} {x : Str} {st : Stmt} {N ps : List Str} {k : Nat} {sp : Sp} (S : Src K mg x st) (sc : FnScope N ps (defScope st))
    (hb : ∀ (kV doc pm : Value) (an : Option Addr) (cdv ct : Value) (us : List Value), us.length = ps.length → bindArgs (PySem.W.fnOf x x (defArgs st) (defBody st) (defScope st) .none kV doc pm an cdv ct) ⟨us, []⟩ = pure (ps.zip us))
    (len : ∀ vs H Q E, sp vs H Q E → vs.length = ps.length)
    (hbody : ∀ (f : Addr) (cdv : Value) (A : Around) (outer : List Env) (s : Shared) (H : Hp) (vs : List V) (Q : VK) (E : XK), Room k (A.deeper (envOfC x (defScope st) s.heap.objs.size f cdv)) → sp vs H Q E →
      ∃ t, PSs (cxOf CX0 P w K mg base N x (defScope st) f cdv A outer s H E).nox (defBody st) t ∧ t { nx := fun _ H' => Q .non H', rt := Q } (start N vs) H) : Has P w K mg base (k + 1) x ps sp := by
  obtain ⟨f, fd, F, hm⟩ := S
  exact ⟨f, fd, F.ok sc len fun cdv A outer s H vs Q E hr h => hbody f cdv A outer s H vs Q E hr h, hm, F.kp, F.binds hb, let ⟨oc, od, kV, doc, pm, an, cdv, ct, osl, _, lk, _⟩ := F.ex; ⟨oc, od, osl, lk⟩⟩
theorem src_mk {K : PySem.W.Frag} {h : Heap} {mg : Str → Option Value} {x : Str} {st : Stmt} {f : Addr} {oc : Value} {od an : Option Addr} {osl : Array (Option Value)} {kV doc pm cdv ct : Value} (X : K.In h) (G : h.Ns mainGlobals mg)
    (a : PySem.W.nsIn K mainGlobals x = some (some (.ref f))) (l : K.lookup f = some ⟨oc, od, .func (PySem.W.fnOf x x (defArgs st) (defBody st) (defScope st) .none kV doc pm an cdv ct), osl⟩)
    (c : PySem.W.codeIn K cdv x = true) (k : PySem.W.keepIn K (.ref f) = true) : Src K mg x st := ⟨f, _, fun_mk l c k, PySem.W.mg_of X G a⟩

theorem law_has {P : Program} {w : World} {K : PySem.W.Frag} {mg : Str → Option Value} {k : Nat} {st : Stmt} {fa : Addr} {x : Str} {sp : Sp} (S : Src K mg "law" st) (hfa : mg "law" = some (.ref fa))
    (hb : ∀ (kV doc pm : Value) (an : Option Addr) (cdv ct : Value) (v : Value), bindArgs (PySem.W.fnOf "law" "law" (defArgs st) (defBody st) (defScope st) .none kV doc pm an cdv ct) ⟨[v], []⟩ = pure [(x, v)])
    (all : ∀ base : Heap, Has P w K mg base k "law" [x] sp) :
    ∃ fd : FuncData, (∀ (s : Shared) (v : Value), BindsTo s fd ⟨[v], []⟩ [(x, v)]) ∧ ∀ base : Heap, K.In base → base.Ns mainGlobals mg → FnOk P w K mg base CX0 k fa fd [x] sp := by
  obtain ⟨f, fd, F, hm⟩ := S
  have e := hfa.symm.trans hm
  cases e
  obtain ⟨oc, od, kV, doc, pm, an, cdv, ct, osl, rfl, lk, _⟩ := F.ex
  refine ⟨_, fun s v => .of_eq (hb kV doc pm an cdv ct v), fun base _ _ => ?_⟩
  obtain ⟨f', fd', G', hm', _, _, oc', od', osl', lk'⟩ := all base
  have e := hm.symm.trans hm'
  cases e
  rw [lk] at lk'
  injection lk' with e1
  injection e1 with _ _ e2 _
  injection e2 with e3
  rw [e3]
  exact G'

def tH (ms : List Int) : Int := reduceHash (Builtin.Tuple.tupleHashOf (ms.map hashInt))
def DctE (x : List Int × Addr × Value) : DictEntry := ⟨tH x.1, .ref x.2.1, x.2.2⟩
abbrev EV : List (List Int × Addr × V) → List (List Int × Addr × Value) → Prop := Paired fun p q => p.1 = q.1 ∧ p.2.1 = q.2.1 ∧ RelV p.2.2 q.2.2
def DctP (a : Addr) (es : List (List Int × Addr × V)) (h : Heap) : Prop :=
  es.length ≤ sizeLine ∧ (a == sysModules) = false ∧ (es.map (·.1)).Nodup ∧ ∃ xs, EV es xs ∧ ∃ o ds ep, h.get? a = some o ∧ o.ExactDict ∧ o.data = .dict ds ep ∧ ds.toList = xs.map DctE
def DctO (a : Addr) (ob : Obj) (es : List (List Int × Addr × V)) : HO := .ext fun h => DctP a es h ∧ h.get? a = some ob
theorem DctP.ok {P : Program} {w : World} {H : Hp} {h : Heap} {a : Addr} {ob : Obj} {es : List (List Int × Addr × V)} (d : DctP a es h) (q : h.get? a = some ob) : ObjOk P w H h a (DctO a ob es) :=
  ⟨⟨d, q⟩, ⟨ob, q⟩, fun _ _ ⟨⟨z, m, nd, xs, ev, o, ds, ep, e, r⟩, q⟩ k => ⟨⟨z, m, nd, xs, ev, o, ds, ep, k o e, r⟩, k ob q⟩⟩
theorem dctB_of {X : Cx} {pins : List (Addr × Obj)} {σ : St} {H : Hp} {s : Shared} {a : Addr} {ob : Obj} {es : List (List Int × Addr × V)} (I : Inv X pins σ H s) (e : H a = some (DctO a ob es)) : DctP a es s.heap ∧ s.heap.get? a = some ob :=
  (show ObjOk X.prog X.w H s.heap a (.ext fun h => DctP a es h ∧ h.get? a = some ob) from I.hok a _ e).1
theorem dctP_of {X : Cx} {pins : List (Addr × Obj)} {σ : St} {H : Hp} {s : Shared} {a : Addr} {ob : Obj} {es : List (List Int × Addr × V)} (I : Inv X pins σ H s) (e : H a = some (DctO a ob es)) : DctP a es s.heap := (dctB_of I e).1
inductive TyO (K : PySem.W.Frag) (H : Hp) : V → String → Prop where
  | non : TyO K H .non "NoneType"
  | bl (x : Bool) : TyO K H (.bl x) "bool"
  | int (i : Int) : TyO K H (.int i) "int"
  | str (x : Str) : TyO K H (.str x) "str"
  | lst {a : Addr} {xs : List V} (e : SqL K H a xs) : TyO K H (.ref a) "list"
  | tup {a : Addr} {xs : List V} (e : SqT K H a xs) : TyO K H (.ref a) "tuple"
  | dK {a : Addr} {kvs : List (Key × V)} (e : H a = some (.dK kvs)) : TyO K H (.ref a) "dict"
  | dT {a : Addr} {kvs : List (List Key × V)} (e : H a = some (.dT kvs)) : TyO K H (.ref a) "dict"
  | dE {a : Addr} {ob : Obj} {es : List (List Int × Addr × V)} (e : H a = some (DctO a ob es)) : TyO K H (.ref a) "dict"
def isiB (t c : String) : Option Bool := PySem.W.kitOne [] (.type t) (.type c)
theorem kitOne_K {K : PySem.W.Frag} {t c : String} : PySem.W.kitOne K (.type t) (.type c) = isiB t c := rfl
theorem isiB_int_int : isiB "int" "int" = some true := by decide +kernel
theorem isiB_int_bool : isiB "int" "bool" = some false := by decide +kernel
def rIsi (K : PySem.W.Frag) : List V → Hp → VK → Prop := fun xs H Q => ∃ x t c b, xs = [x, .ty c] ∧ TyO K H x t ∧ isiB t c = some b ∧ Q (.bl b) H
theorem call_isi {X : Cx} : CallR X (.builtin "isinstance") (rIsi X.K) := by
  intro pins s σ H xs us Q I r h
  obtain ⟨x, t, c, b, rfl, ty, e, q⟩ := h
  obtain ⟨u, w', rfl, rx, rc⟩ := vals2 r
  obtain rfl : w' = Value.type c := rc
  have e' : PySem.W.kitOne X.K (.type t) (.type c) = some b := by rw [kitOne_K]; exact e
  have fin : ∀ tk, EP X pins σ Q (.bool b) { s with toks := tk } := fun tk => ⟨.bl b, H, I.tok tk, rfl, q⟩
  cases ty with
  | non => exact isinst_ok I rx (.non) e' fin
  | bl y => exact isinst_ok I rx (.bl y) e' fin
  | int i => exact isinst_ok I rx (.int i) e' fin
  | str y => exact isinst_ok I rx (.str y) e' fin
  | dK ea => exact isinst_ok I rx (.dK ea) e' fin
  | dT ea => exact isinst_ok I rx (.dT ea) e' fin
  | @dE a ob es ea =>
    cases rx
    obtain ⟨_, _, _, _, _, o, _, _, h1, h2, _⟩ := dctP_of I ea
    exact PySem.W.kia_one PySem.W.kitx_dict I.kIn ⟨o, h1, h2.1⟩ e' (fun z => nomatch z) fin
  | lst ea =>
    cases rx
    obtain ⟨its, _, pl, _⟩ := I.list ea
    obtain ⟨o, h1, h2, _⟩ := pl.isList
    exact PySem.W.kia_one PySem.W.kitx_list I.kIn ⟨o, h1, h2⟩ e' (fun z => nomatch z) fin
  | tup ea =>
    cases rx
    obtain ⟨its, _, p, _⟩ := I.tuple ea
    obtain ⟨o, h1, h2, _⟩ := p
    exact PySem.W.kia_one PySem.W.kitx_tuple I.kIn ⟨o, h1, h2⟩ e' (fun z => nomatch z) fin

section
variable {X : Cx} {pins : List (Addr × Obj)} {σ : St} {H : Hp} {s : Shared}
end
section
variable {X : Cx}
end
def kTup (K : PySem.W.Frag) (a : Addr) : Option (List Value) := match K.lookup a with
  | some ⟨.type "tuple", _, .seq its _, _⟩ => if its.toList.length ≤ 1000 then some its.toList else none
  | _ => none
theorem kTup_ok {K : PySem.W.Frag} {H : Hp} {a : Addr} {us : List Value} {xs : List V} (e : kTup K a = some us) (r : Vals xs us) : SqT K H a xs := by
  unfold kTup at e
  split at e
  · rename_i c its n sl lk
    split at e
    · rename_i hz
      cases e
      have hs : sizeLine = 16777216 := sizeLine_eq
      exact .inr ⟨_, its, n, lk, rfl, rfl, by have : its.toList.length = its.size := by simp
                                              lia, r⟩
    · cases e
  · cases e
end L2
end
section
set_option maxHeartbeats 4000000
namespace L2
open PySem PySem.Spec PyProof.Rows
def clOf (env : Env) : List (Str × NameKind) → List (Str × Addr) → List (Str × Addr)
  | [], acc => acc
  | (n, k) :: r, acc => clOf env r (if (k == NameKind.free) = true then (match env.cells.lookup n with | some c => (n, c) :: acc | none => acc) else acc)
theorem clOf_mem {env : Env} : ∀ {l : List (Str × NameKind)} {acc : List (Str × Addr)} {n : Str} {c : Addr}, (n, c) ∈ clOf env l acc → (n, c) ∈ acc ∨ env.cells.lookup n = some c
  | [], _, _, _, h => .inl h
  | (m, k) :: r, acc, n, c, h => by
    unfold clOf at h
    rcases clOf_mem h with h | h
    · split at h
      · split at h
        · rename_i c' e
          rcases List.mem_cons.mp h with h | h
          · cases h; exact .inr e
          · exact .inl h
        · exact .inl h
      · exact .inl h
    · exact .inr h
theorem clOf_keep {env : Env} : ∀ {l : List (Str × NameKind)} {acc : List (Str × Addr)} {p : Str × Addr}, p ∈ acc → p ∈ clOf env l acc
  | [], _, _, h => h
  | (m, k) :: r, acc, p, h => by
    unfold clOf
    refine clOf_keep ?_
    split
    · split
      · exact List.mem_cons_of_mem _ h
      · exact h
    · exact h
theorem clOf_has {env : Env} : ∀ {l : List (Str × NameKind)} {acc : List (Str × Addr)} {n : Str} {c : Addr}, (n, NameKind.free) ∈ l → env.cells.lookup n = some c → (n, c) ∈ clOf env l acc
  | (m, k) :: r, acc, n, c, h, e => by
    unfold clOf
    rcases List.mem_cons.mp h with h | h
    · cases h
      refine clOf_keep ?_
      rw [if_pos (show (NameKind.free == NameKind.free) = true from rfl), e]
      exact List.mem_cons_self
    · exact clOf_has h e
theorem cellOf_eq {env : Env} {n : Str} {c : Addr} (h : env.cells.lookup n = some c) : cellOf env n = pure c := by
  unfold cellOf
  rw [h]
theorem closure_ok {env : Env} {scope : Scope} (h : ∀ n, (n, NameKind.free) ∈ scope.names → ∃ c, env.cells.lookup n = some c) : closureFor scope env = pure (clOf env scope.names []) := by
  have all : ∀ (l : List (Str × NameKind)) (acc : List (Str × Addr)), (∀ n, (n, NameKind.free) ∈ l → ∃ c, env.cells.lookup n = some c) →
      (forIn l acc fun (x : Str × NameKind) (cs : List (Str × Addr)) => (if (x.2 == NameKind.free) = true then (do let c ← cellOf env x.1; pure (ForInStep.yield ((x.1, c) :: cs))) else pure (ForInStep.yield cs) : Sem (ForInStep (List (Str × Addr))))) = pure (clOf env l acc) := by
    intro l
    induction l with
    | nil => intro acc _; rfl
    | cons x r ih =>
      intro acc hl
      obtain ⟨n, k⟩ := x
      rw [List.forIn_cons]
      unfold clOf
      cases hk : (k == NameKind.free) with
      | true =>
        have hk' : k = NameKind.free := by simpa using hk
        subst hk'
        obtain ⟨c, e⟩ := hl n List.mem_cons_self
        simp only [if_true, cellOf_eq e, pure_bind, e]
        exact ih _ fun m hm => hl m (List.mem_cons_of_mem _ hm)
      | false =>
        simp only [Bool.false_eq_true, if_false, pure_bind]
        exact ih _ fun m hm => hl m (List.mem_cons_of_mem _ hm)
  have q := all scope.names [] h
  unfold closureFor
  first
    | (simp only [bind_pure_comp, map_pure] at q ⊢; rw [q]; rfl)
    | (rw [q]; rfl)
    | exact q

def cxComp (X : Cx) (scope : Scope) (N : List Str) (C : Addr) (fp : List Addr) (s₀ : Shared) (H₀ : Hp) : Cx :=
  { X with N := N, s₀ := s₀, H₀ := H₀, env := compEnvC scope (clOf X.env scope.names []) C X.env, outer := X.stack, stack := X.stack, ex := fp, fn := fun _ => false, pn := [], xe := fun _ _ => False }
def capt (n : Nat) (ix : List Nat) (σ : St) : St := List.replicate n none ++ ix.map fun i => (σ[i]?).getD none
structure CompScope (X : Cx) (scope : Scope) (tg cs : List Str) (ix : List Nat) : Prop where
  kind : scope.kind = .function
  nocell : ∀ y ∈ scope.names, y.2 ≠ .cell
  names : ∀ y ∈ scope.names, y.2 = .local → scope.names.lookup y.1 = some .local
  nd : (tg ++ cs).Nodup
  at_ : ix.map (fun i => X.N[i]?) = cs.map some
  free : ∀ x ∈ cs, (x, NameKind.free) ∈ scope.names ∧ scope.names.lookup x = some .free
  out : ∀ x, (x, NameKind.free) ∈ scope.names → X.env.scope.names.lookup x = some .cell ∨ X.env.scope.names.lookup x = some .free
theorem lookup_kinds {f : Str × NameKind → Str × NameKind} (hf : ∀ p, (f p).1 = p.1) : ∀ (names : List (Str × NameKind)) (x : Str), (names.map f).lookup x = (names.lookup x).map fun k => (f (x, k)).2
  | [], _ => rfl
  | p :: r, x => by
    have e : f p = (p.1, (f p).2) := by rw [← hf p]
    rw [List.map_cons, e, List.lookup_cons, List.lookup_cons, lookup_kinds hf r x]
    cases q : x == p.1 with
    | false => rfl
    | true =>
      have z : x = p.1 := by simpa using q
      subst z
      rfl
def freed (env : Env) (p : Str × NameKind) : Bool := p.2 == NameKind.free && env.scope.kind == .function && env.kindOf p.1 == some .cell
theorem lookup_freed {env : Env} {names : List (Str × NameKind)} {x : Str} :
    (names.map fun (n, k) => if (k == NameKind.free && env.scope.kind == .function && env.kindOf n == some .cell) then (n, NameKind.cell) else (n, k)).lookup x = (names.lookup x).map fun k => if freed env (x, k) = true then .cell else k := by
  refine (lookup_kinds (fun p => ?_) names x).trans ?_
  · dsimp only
    split <;> rfl
  · congr 1
    funext k
    unfold freed
    dsimp only
    split <;> rfl
theorem lookup_relabel_free {env : Env} {names : List (Str × NameKind)} {x : Str} {k : NameKind}
    (h : (names.map fun (n, k) => if (k == NameKind.free && env.scope.kind == .function && env.kindOf n == some .cell) then (n, NameKind.cell) else (n, k)).lookup x = some k) (hk : k = .cell ∨ k = .free) (nc : ∀ y ∈ names, y.2 ≠ .cell) : (x, NameKind.free) ∈ names := by
  rw [lookup_freed] at h
  cases q : names.lookup x with
  | none => rw [q] at h; cases h
  | some k0 =>
    have hm := PySem.mem_of_lookup q
    suffices z : k0 = .free by rw [← z]; exact hm
    rw [q] at h
    by_cases c : freed env (x, k0) = true
    · unfold freed at c
      simp only [Bool.and_eq_true, beq_iff_eq] at c
      exact c.1.1
    · have h2 : k0 = k := by simpa [c] using h
      rcases hk with e | e
      · exact absurd (h2.trans e) (nc _ hm)
      · exact h2.trans e
theorem lookup_relabel_kind {env : Env} {names : List (Str × NameKind)} {x : Str} (h : names.lookup x = some .free) :
    (names.map fun (n, k) => if (k == NameKind.free && env.scope.kind == .function && env.kindOf n == some .cell) then (n, NameKind.cell) else (n, k)).lookup x = some .cell ∨
    (names.map fun (n, k) => if (k == NameKind.free && env.scope.kind == .function && env.kindOf n == some .cell) then (n, NameKind.cell) else (n, k)).lookup x = some .free := by
  rw [lookup_freed, h]
  by_cases c : freed env (x, .free) = true
  · exact .inl (by simp [c])
  · exact .inr (by simp [c])
section
variable {X : Cx} {pins : List (Addr × Obj)} {σ : St} {H H1 : Hp} {s : Shared}
theorem Inv.track {D : Addr} {o : HO} (I : Inv X pins σ H s) (hn : H D = none) (hs : X.s₀.heap.objs.size ≤ D) (hL : D ≠ X.env.locals) (hc : ∀ x c, X.env.cells.lookup x = some c → c ≠ D) (hp : ∀ p ∈ X.pn ++ pins, p.1 ≠ D)
    (new : ObjOk X.prog X.w (upd H D o) s.heap D o) : Inv X pins σ (upd H D o) s := by
  have nb : ∀ b ob, X.s₀.heap.get? b = some ob → b ≠ D := fun b ob e z => by subst z; exact absurd (Nat.lt_of_lt_of_le (Heap.lt_size e) hs) (Nat.lt_irrefl _)
  refine ⟨I.ok, I.os, I.bare, ⟨I.base.keep, I.base.slot, fun b ob e n hx => ?_, I.base.there, fun b xs e => ?_, fun b ob u e => ?_, fun b ps e => ?_⟩, I.loc, I.cell, ?_, fun x c e => ?_, fun p hpp => ?_, fun b u e => ?_, I.len⟩
  · rw [upd_ne (nb b ob e)]; exact I.base.free b ob e n hx
  · have q := I.base.tups b xs e
    rw [upd_ne (ne_of_none q hn)]; exact q
  · have q := I.base.frzs b ob u e
    rw [upd_ne (ne_of_none q hn)]; exact q
  · obtain ⟨more, q⟩ := I.base.tbls b ps e
    exact ⟨more, by rw [upd_ne (ne_of_none q hn)]; exact q⟩
  · rw [upd_ne hL.symm]; exact I.free
  · rw [upd_ne (hc x c e)]; exact I.freeC x c e
  · obtain ⟨a, b, c, d, e⟩ := I.pin p hpp
    exact ⟨a, by rw [upd_ne (hp p hpp)]; exact b, c, d, e⟩
  · by_cases hb : b = D
    · subst hb; rw [upd_same] at e; cases e; exact new
    · rw [upd_ne hb] at e
      exact (I.hok b u e).stay (fun _ _ _ q => q) (fun c q => by rw [upd_ne (ne_of_none q hn)]; exact q) fun c xs q => by rw [upd_ne (ne_of_none q hn)]; exact q
theorem capt_get {X : Cx} {tg cs : List Str} {ix : List Nat} (hat : ix.map (fun i => X.N[i]?) = cs.map some) {i : Nat} {x : Str} {v : V} (h1 : (tg ++ cs)[i]? = some x) (h2 : (capt tg.length ix σ)[i]? = some (some v)) :
    x ∈ cs ∧ ∃ k : Nat, X.N[k]? = some x ∧ σ[k]? = some (some v) := by
  unfold capt at h2
  by_cases hi : i < tg.length
  · rw [List.getElem?_append_left (by simpa using hi), List.getElem?_replicate, if_pos hi] at h2
    cases h2
  · rw [List.getElem?_append_right (by simpa using hi), List.length_replicate, List.getElem?_map] at h2
    rw [List.getElem?_append_right (by lia)] at h1
    cases e : ix[i - tg.length]? with
    | none => rw [e] at h2; cases h2
    | some k =>
      rw [e] at h2
      have h2 : (σ[k]?).getD none = some v := Option.some.inj h2
      have q := congrArg (fun l => l[i - tg.length]?) hat
      simp only [List.getElem?_map, e, h1, Option.map_some] at q
      refine ⟨List.mem_of_getElem? h1, k, Option.some.inj q, ?_⟩
      cases z : σ[k]? with
      | none => rw [z] at h2; cases h2
      | some y => rw [z] at h2; exact congrArg some h2
end


def PTs (X : Cx) (ifs : List Expr) (t : TT) : Prop :=
  ∀ (pins : List (Addr × Obj)) (s : Shared) (σ : St) (H : Hp) (Q : Bool → Hp → Prop), Inv X pins σ H s → t σ H Q →
    wpAny (model X.prog X.w) X.A (forIn ifs true fun c r => if r = true then do let ok ← isTrue c X.env (eval c X.env); pure (ForInStep.yield ok) else pure (ForInStep.yield r)) (TP X pins σ Q) X.xe s
def tTrue : TT := fun _ H Q => Q true H
theorem pts_nil {X : Cx} : PTs X [] tTrue := fun _ _ _ H _ I h => wpAny_tests_nil ⟨H, I, h⟩
theorem pts_one {X : Cx} {c : Expr} {t : TT} (h : PT X c t) : PTs X [c] t := fun pins s σ H Q I hw => wpAny_tests_one (h pins s σ H Q I hw)
def KeepsG (n : Nat) (ix : List Nat) (g : TG) : Prop := ∀ x σ H Q, g x (capt n ix σ) H Q → g x (capt n ix σ) H fun σ2 H2 => (σ2.length = (capt n ix σ).length ∧ ∀ (i : Nat) (v : V), (capt n ix σ)[i]? = some (some v) → σ2[i]? = some (some v)) ∧ Q σ2 H2
theorem capt_none {n : Nat} {ix : List Nat} {σ : St} {j : Nat} (h : j < n) {v : V} (e : (capt n ix σ)[j]? = some (some v)) : False := by
  unfold capt at e
  rw [List.getElem?_append_left (by simpa using h), List.getElem?_replicate, if_pos h] at e
  cases e
theorem keeps_name {n : Nat} {ix : List Nat} {j : Nat} (h : j < n) : KeepsG n ix (gName j) := fun x σ H Q q => ⟨⟨by simp, fun i v e => by
  by_cases hi : j = i
  · subst hi; exact (capt_none h e).elim
  · rw [List.getElem?_set_ne hi]; exact e⟩, q⟩
def tComp (wi : TI) (n : Nat) (ix : List Nat) (g : TG) (tc : TT) (te : TE) : TE := fun σ H Q => wi σ H fun J H1 => ∃ W : Nat → Nat → List V → Hp → Prop, (∃ m, W 0 m [] H1) ∧ ∀ i m ys H2, W i m ys H2 →
  (J.stop i H2 ∧ ys.length ≤ sizeLine ∧ ∀ D, H2 D = none → Q (.ref D) (upd H2 D (.lst ys))) ∨
  (J.go i H2 ∧ ys.length < sizeLine ∧ ∃ Nx : List V → Hp → Prop, (∀ ys' H', Nx ys' H' → ∃ m', m' < m ∧ W (i + 1) m' ys' H') ∧
    ∀ x H3, J.yld i H2 x H3 → g x (capt n ix σ) H3 fun σ2 H4 => tc σ2 H4 fun b H5 => if b = true then te σ2 H5 fun v H6 => Nx (ys ++ [v]) H6 else Nx ys H5)
section
variable {X : Cx} {pins : List (Addr × Obj)} {σ : St} {H H1 : Hp} {s : Shared}
theorem inv_comp {scope : Scope} {tg cs : List Str} {ix : List Nat} {fp : List Addr} {s4 : Shared} (S : CompScope X scope tg cs ix) (I : Inv X pins σ H s) (hf : ∀ b ∈ fp, FpOk X pins H b) (ho : ∀ b ∈ fp, ∃ o, s.heap.get? b = some o) {C : Addr} (hC : s.heap.objs.size ≤ C)
    (hk : ∀ b o, s.heap.get? b = some o → s4.heap.get? b = some o) (hns : s4.heap.Ns C fun _ => none) (os : s4.os = s.os) (bare : AllBare s4.gens) (hn : H C = none) :
    Inv (cxComp X scope (tg ++ cs) C fp s H) [] (capt tg.length ix σ) H s4 := by
  have clX : ∀ x c, (clOf X.env scope.names []).lookup x = some c → X.env.cells.lookup x = some c := fun x c e => by
    rcases clOf_mem (PySem.mem_of_lookup e) with h | h
    · cases h
    · exact h
  have hasC : ∀ x, (x, NameKind.free) ∈ scope.names → ∃ c, (clOf X.env scope.names []).lookup x = some c := fun x hx => by
    obtain ⟨c, e⟩ := I.ok.has x (S.out x hx)
    have m := clOf_has (acc := []) hx e
    cases q : (clOf X.env scope.names []).lookup x with
    | some c' => exact ⟨c', rfl⟩
    | none =>
      have := List.lookup_eq_none_iff.mp q (x, c) m
      simp at this
  refine ⟨⟨I.ok.mod, ?_, I.ok.glob, I.ok.blt, hC, fun x y c e1 e2 => I.ok.inj x y c (clX x c e1) (clX y c e2), fun x hx => ?_, fun x c h => ?_, I.ok.hd, I.ok.frames, .inl rfl, fun b hb => ⟨?_, fun x c e => ?_⟩, I.bs, Nat.le_trans I.ok.bsz I.sz, fun b o e hb => ?_, fun b hb hx => ?_, I.stack, I.stkFree⟩,
    os, bare, Un.kept hk, ⟨_, hns, fun i x v e1 e2 e3 => ?_⟩, fun x c e => ?_, hn, fun x c e => I.freeC x c (clX x c e), fun p hp => (by cases hp), I.hok.kept hk, ?_⟩
  · show (relabel scope X.env).kind = .function
    exact S.kind
  · have hx' : (relabel scope X.env).names.lookup x = some .cell ∨ (relabel scope X.env).names.lookup x = some .free := hx
    rcases hx' with h | h
    · exact hasC x (lookup_relabel_free h (.inl rfl) S.nocell)
    · exact hasC x (lookup_relabel_free h (.inr rfl) S.nocell)
  · cases h
  · obtain ⟨o, e⟩ := ho b hb
    exact Nat.ne_of_lt (Nat.lt_of_lt_of_le (Heap.lt_size e) hC)
  · exact (hf b hb).2.2.2.2.1 x c (clX x c e)
  · obtain ⟨_, _, _, h, _⟩ := hf b hb
    rcases h with h | h
    · exact I.ok.noex b o e h
    · exact absurd (Nat.lt_of_lt_of_le (Heap.lt_size (I.ok.bs b o e).1) h) (Nat.lt_irrefl _)
  · have hx : b ∈ frs X.stack := hx
    obtain ⟨_, h1, h2, _⟩ := hf b hb
    rcases List.mem_cons.mp (I.stkSub b hx) with h | h
    · exact h1 h
    · exact h2 h
  · obtain ⟨hx, k, h1, h2⟩ := capt_get (X := X) S.at_ e1 e2
    obtain ⟨hx1, hx2⟩ := S.free x hx
    obtain ⟨m, hnm, hl⟩ := I.loc
    have ov := S.out x hx1
    obtain ⟨u, r, l⟩ := hl k x v h1 h2 (by rcases ov with z | z; exact .inr (.inl z); exact .inr (.inr z))
    refine ⟨u, r, ?_⟩
    rcases l with ⟨l, _⟩ | ⟨_, c, lc, ic⟩
    · have l : X.env.scope.names.lookup x = some .local := l
      rcases ov with z | z <;> rw [z] at l <;> cases l
    · obtain ⟨c', e'⟩ := hasC x hx1
      have := (clX x c' e').symm.trans lc
      cases this
      refine .inr ⟨lookup_relabel_kind hx2, c, e', ?_⟩
      obtain ⟨o, ho1, ho2⟩ := ic
      exact ⟨o, hk c o ho1, ho2⟩
  · obtain ⟨v, o, ho1, ho2⟩ := I.cell x c (clX x c e)
    exact ⟨v, o, hk c o ho1, ho2⟩
  · show (capt tg.length ix σ).length = (tg ++ cs).length
    have := congrArg List.length S.at_
    simp only [List.length_map] at this
    unfold capt
    simp [this]
theorem comp_core {use : Option (Value → Sem Unit)} {Qc : Value → Shared → Prop} {pos' : Pos} {elt target iter : Expr} {ifs : List Expr} {scope : Scope} {pos : Pos} {tg cs : List Str} {ix : List Nat} {wi : TI} {g : TG} {tc : TT} {te : TE} (S : CompScope X scope tg cs ix) (hcalm : X.calm = true) (kg : KeepsG tg.length ix g)
    (hi : PI X target iter wi) (hg : ∀ C fp s H, PG (cxComp X scope (tg ++ cs) C fp s H) target g) (hc : ∀ C fp s H, PTs (cxComp X scope (tg ++ cs) C fp s H) ifs tc) (he : ∀ C fp s H, PE (cxComp X scope (tg ++ cs) C fp s H) elt te)
    (hs : ∀ x, foldedSetIterable iter X.env x = pure x) {pins : List (Addr × Obj)} {s : Shared} {σ : St} {H : Hp} {Q : VK} (I : Inv X pins σ H s) (h : tComp wi tg.length ix g tc te σ H Q)
    (fin : ∀ D C H' s' v, Inv X pins σ H' s' → Q (.ref D) H' → FpOk X pins H' C → (∃ m, s'.heap.Ns C m) → compPost (model X.prog X.w) X.A X.xe use Qc (.ref D) C (.ok v) s') :
    wpAny (model X.prog X.w) X.A (comprehension (.ListComp elt [⟨target, iter, ifs, 0⟩] scope pos) scope X.env pos' (newList []) false (eval iter X.env) use) Qc X.xe s := by
  refine wpAny_comprehension_free (use := use) (cl := clOf X.env scope.names []) rfl hs (closure_ok fun n hn => I.ok.has n (S.out n hn)) S.kind S.names ?_
  refine wpAny_mono (hi pins s σ H _ I h) (fun v s1 h1 => wpAny_mono h1 (fun itv s2 h2 => ?_) fun _ _ e => e) fun _ _ e => e
  obtain ⟨it, fp, tn, J, H2, rfl, I2, T, st2, f2, W, ⟨m0, w0⟩, turn⟩ := h2
  refine wpAny_newObj_type (wpAny_newFunctionEnv S.nocell (by intro y hy; simp at hy) (fun h1 hns1 hsb1 => ?_) S.kind)
  dsimp only at hns1 hsb1 ⊢
  generalize hP : s2.heap.push { cls := .type "list", dict := none, data := .seq ([] : List Value).toArray } = P2 at hns1 hsb1 ⊢
  have hCs : P2.objs.size = s2.heap.objs.size + 1 := by rw [← hP, Heap.size_push]
  have hDC : s2.heap.objs.size ≠ P2.objs.size := by rw [hCs]; exact Nat.ne_of_lt (Nat.lt_succ_self _)
  have hCle : s2.heap.objs.size ≤ P2.objs.size := by rw [hCs]; exact Nat.le_succ _
  generalize hCg : P2.objs.size = C at *
  have old : ∀ b o, s2.heap.get? b = some o → h1.get? b = some o := fun b o e => hsb1.extBut b o (Nat.ne_of_lt (Nat.lt_of_lt_of_le (Heap.lt_size e) hCle)) (Heap.get?_push_of_some _ (hP ▸ Heap.get?_push_of_some _ e))
  generalize hDg : s2.heap.objs.size = D at *
  have hD0 : h1.get? D = some { cls := .type "list", data := .seq ([] : List Value).toArray 0 } := hsb1.extBut _ _ hDC (Heap.get?_push_of_some _ (hP ▸ hDg ▸ Heap.get?_push_size _ rfl))
  have nC : H2 C = none := I2.hok.fresh (by rw [hDg]; exact hCle)
  have nD : H2 D = none := I2.hok.fresh (by rw [hDg]; exact Nat.le_refl _)
  have fo : ∀ b ∈ fp, ∃ o, s2.heap.get? b = some o := fun b hb => let ⟨o, e, _⟩ := T.obj _ _ st2 b hb; ⟨o, e⟩
  have Dfp : D ∉ fp := fun z => by
    obtain ⟨o, e⟩ := fo D z
    have := Heap.lt_size e
    rw [hDg] at this
    exact absurd this (Nat.lt_irrefl _)
  have Dfs : D ∉ frs X.stack := fun z => by
    rcases List.mem_cons.mp (I2.stkSub D z) with e | e
    · have := I2.lt
      rw [← e, hDg] at this
      exact absurd this (Nat.lt_irrefl _)
    · exact I2.nofs (by rw [hDg]; exact Nat.le_refl _) e
  have DcY : ∀ x c, (clOf X.env scope.names []).lookup x = some c → c ≠ D := fun x c e => by
    rcases clOf_mem (PySem.mem_of_lookup e) with h | h
    · cases h
    · exact (I2.fpOk (H' := H2) (b := D) (by rw [hDg]; exact Nat.le_refl _) nD).2.2.2.2.1 x c h
  -- the block's context
  have Yok : ∀ s4 : Shared, s4 = { s2 with heap := h1, toks := s2.toks + ([] : List (Str × Value)).length } → Inv (cxComp X scope (tg ++ cs) C fp s2 H2) [] (capt tg.length ix σ) H2 s4 := by
    rintro s4 rfl
    exact inv_comp S I2 f2 fo (by rw [hDg]; exact hCle) old (by simpa using hns1) rfl I2.bare nC
  -- the loop
  have loop : ∀ s4 : Shared, s4 = { s2 with heap := h1, toks := s2.toks + ([] : List (Str × Value)).length } →
      codeAny (model X.prog X.w) X.A (.compLoop (.ListComp elt [⟨target, iter, ifs, 0⟩] scope pos) 0 (.ref it) (.ref D) (compEnvC scope (clOf X.env scope.names []) C X.env)) (compPost (model X.prog X.w) X.A X.xe use Qc (.ref D) C) s4 := by
    intro s4 e4
    refine codeAny_loop rfl (fun n s' => ∃ i ys its k H', Inv (cxComp X scope (tg ++ cs) C fp s2 H2) [] (capt tg.length ix σ) H' s' ∧ tn i s'.heap ∧ (∀ b ∈ fp, H' b = none) ∧ H' D = none ∧ s'.heap.get? D = some { cls := .type "list", data := .seq (its : List Value).toArray k } ∧ Vals ys its ∧ W i n ys H')
      ?_ m0 ⟨0, [], [], 0, H2, Yok s4 e4, ?_, fun b hb => (f2 b hb).1, nD, by rw [e4]; exact hD0, .nil, w0⟩
    · rintro n s5 ⟨i, ys, its, k, H5, I5, st5, fr5, d5, o5, v5, w5⟩
      show wpAny _ X.A ((compTurn (.ListComp elt [⟨target, iter, ifs, 0⟩] scope pos) 0 (.ref it) (.ref D) (compEnvC scope (clOf X.env scope.names []) C X.env)).onRaise (fun x => do noteFrame x (compEnvC scope (clOf X.env scope.names []) C X.env); theTreesLotGoes x)) _ _ s5
      refine wpAny_noted ?_
      rw [compTurn_list]
      have pin0 : Inv (cxComp X scope (tg ++ cs) C fp s2 H2) [(D, { cls := .type "list", data := .seq its.toArray k })] (capt tg.length ix σ) H5 s5 := I5.pins_of fun p hp => by
        have e : p = (D, { cls := .type "list", data := .seq its.toArray k }) := by simpa using hp
        subst e
        exact ⟨o5, d5, hDC, Dfs, fun v z => by have z' : Data.seq _ _ = Data.cell v := z; cases z'⟩
      have fpY : ∀ {H' : Hp}, (∀ b ∈ fp, H' b = none) → ∀ b ∈ fp, FpOk (cxComp X scope (tg ++ cs) C fp s2 H2) [(D, { cls := .type "list", data := .seq its.toArray k })] H' b := fun hn b hb =>
        ⟨hn b hb, (I5.ok.exf b hb).1, fun z => I5.ok.exfs b hb z, .inl hb, (I5.ok.exf b hb).2, fun p hp z => by
          have hp : p ∈ ([] : List (Addr × Obj)) ++ [(D, { cls := .type "list", data := .seq its.toArray k })] := hp
          have e : p = (D, { cls := .type "list", data := .seq its.toArray k }) := by simpa using hp
          subst e
          have z : D = b := z
          exact Dfp (z ▸ hb)⟩
      refine wpAny_bind (wpAny_standAt (wpAny_bind ?_))
      rcases turn i n ys H5 w5 with ⟨stop, hz, qn⟩ | ⟨go, hz, Nx, hN, step⟩
      · refine thn (T.done (cxComp X scope (tg ++ cs) C fp s2 H2) rfl rfl rfl hcalm i _ s5 _ H5 _ pin0 (fpY fr5) st5 stop) fun r s6 ⟨hr, I6⟩ => ?_
        subst hr
        refine wpAny_pure ?_
        obtain ⟨mC, hnsC, _⟩ := id I6.loc
        have IX : Inv X pins σ H5 s6 := I2.call' (ch := fp) I6.os I6.base I6.hok I6.bare fun b hb => let ⟨_, a1, _, a3, a4, a5⟩ := f2 b hb; ⟨a3, a1, a4, a5⟩
        obtain ⟨_, b1, _, b3, b4, b5⟩ := I2.fpOk (H' := H5) (b := D) (by rw [hDg]; exact Nat.le_refl _) d5
        obtain ⟨_, c1, c2, c3, c4, c5⟩ := I2.fpOk (H' := H5) (b := C) (by rw [hDg]; exact hCle) I6.free
        have gD : s6.heap.get? D = some { cls := .type "list", data := .seq its.toArray k } := (I6.pin (D, { cls := .type "list", data := .seq its.toArray k }) (List.mem_append_right _ List.mem_cons_self)).1
        have IXD : Inv X pins σ (upd H5 D (.lst ys)) s6 := IX.track d5 (by rw [← hDg]; exact I2.sz) b1 b4 b5 ⟨hz, its, k, v5, gD⟩
        exact fin D C _ s6 _ IXD (qn D d5) ⟨by rw [upd_ne (Ne.symm hDC)]; exact I6.free, c1, c2, c3, c4, c5⟩ ⟨mC, hnsC⟩
      · refine thn (T.item (cxComp X scope (tg ++ cs) C fp s2 H2) rfl rfl rfl hcalm i _ s5 _ H5 _ pin0 (fpY fr5) st5 go) fun r s6 ⟨u, hr, h6⟩ => ?_
        subst hr
        refine wpAny_bind (thn h6 fun _ s7 ⟨x, H7, I7, r7, y7, st7, fr7⟩ => ?_)
        have I7' := I7.pinned (fpY fr7) (T.obj _ _ st7)
        -- the next turn
        have again : ∀ {σ2 : St} {H8 : Hp} {s8 : Shared} {ys' : List V} {its' : List Value} {k' : Nat} , Inv (cxComp X scope (tg ++ cs) C fp s2 H2) [] σ2 H8 s8 → (σ2.length = (capt tg.length ix σ).length ∧ ∀ (i : Nat) (v : V), (capt tg.length ix σ)[i]? = some (some v) → σ2[i]? = some (some v)) →
            (∀ b ∈ fp, ∀ o, s7.heap.get? b = some o → s8.heap.get? b = some o) → (∀ b ∈ fp, H8 b = none) → H8 D = none → s8.heap.get? D = some { cls := .type "list", data := .seq its'.toArray k' } → Vals ys' its' → Nx ys' H8 →
            ∃ m, m < n ∧ ∃ i ys its k H', Inv (cxComp X scope (tg ++ cs) C fp s2 H2) [] (capt tg.length ix σ) H' s8 ∧ tn i s8.heap ∧ (∀ b ∈ fp, H' b = none) ∧ H' D = none ∧ s8.heap.get? D = some { cls := .type "list", data := .seq (its : List Value).toArray k } ∧ Vals ys its ∧ W i m ys H' := by
          intro σ2 H8 s8 ys' its' k' I8 kp fk fn dn dg vv nx
          obtain ⟨m', hm, w8⟩ := hN ys' H8 nx
          exact ⟨m', hm, i + 1, ys', its', k', H8, I8.weak kp.1.symm kp.2, T.keep _ _ _ st7 fk, fn, dn, dg, vv, w8⟩
        refine wpAny_bind (wpAny_mono (hg C fp s2 H2 _ s7 _ H7 x u _ I7' r7 (kg x σ H7 _ (step x H7 y7))) (fun _ s8 ⟨σ8, H8, I8, kp8, q8⟩ => ?_) fun _ _ z => z.elim)
        refine wpAny_bind (wpAny_mono (hc C fp s2 H2 _ s8 σ8 H8 _ I8 q8) (fun ok s9 ⟨H9, I9, q9⟩ => ?_) fun _ _ z => z.elim)
        have pinsOf : ∀ {σ' : St} {H' : Hp} {s' : Shared}, Inv (cxComp X scope (tg ++ cs) C fp s2 H2) ([(D, { cls := .type "list", data := .seq its.toArray k })] ++ pinsAt fp s7.heap) σ' H' s' →
            (∀ b ∈ fp, ∀ o, s7.heap.get? b = some o → s'.heap.get? b = some o) ∧ (∀ b ∈ fp, H' b = none) ∧ H' D = none ∧ s'.heap.get? D = some { cls := .type "list", data := .seq its.toArray k } := by
          intro σ' H' s' I'
          refine ⟨fun b hb o e => (I'.pin (b, o) (List.mem_append_right _ (List.mem_append_right _ (mem_pinsAt hb e)))).1, fun b hb => ?_, (I'.pin (D, { cls := .type "list", data := .seq its.toArray k }) (List.mem_append_right _ (List.mem_append_left _ List.mem_cons_self))).2.1, (I'.pin (D, { cls := .type "list", data := .seq its.toArray k }) (List.mem_append_right _ (List.mem_append_left _ List.mem_cons_self))).1⟩
          obtain ⟨o, e, d⟩ := T.obj _ _ st7 b hb
          exact (I'.pin (b, o) (List.mem_append_right _ (List.mem_append_right _ (mem_pinsAt hb e)))).2.1
        cases ok with
        | false =>
          obtain ⟨p1, p2, p3, p4⟩ := pinsOf I9
          exact wpAny_pure ⟨rfl, again (I9.pins_of fun p hp => nomatch hp) kp8 p1 p2 p3 p4 v5 q9⟩
        | true =>
          have q9 : te σ8 H9 fun v H6 => Nx (ys ++ [v]) H6 := q9
          refine wpAny_bind (wpAny_bind (wpAny_mono (he C fp s2 H2 _ s9 σ8 H9 _ I9 q9) (fun y s10 ⟨v, H10, I10, rv, nx⟩ => ?_) fun _ _ z => z.elim))
          obtain ⟨p1, p2, p3, p4⟩ := pinsOf I10
          have hl5 := v5.length
          refine wpAny_bind (call_meets F.slot_list_append ⟨_, p4, rfl⟩ F.entry_list_append (F.args_list_append_2 _ _) (PySem.list_append D its.toArray k y (by rw [List.size_toArray]; lia)) ⟨p4, ?_⟩)
          have g10 := PySem.IsL.update p4 (·.push y)
          rw [show its.toArray.push y = (its ++ [y]).toArray by simp] at g10
          have I11 : Inv (cxComp X scope (tg ++ cs) C fp s2 H2) [] σ8 H10 s10 := I10.pins_of fun p hp => nomatch hp
          have I12 : Inv (cxComp X scope (tg ++ cs) C fp s2 H2) [] σ8 H10 { s10 with heap := s10.heap.update D (Obj.mapSeq (·.push y)) } :=
            I11.turned (t' := s10.toks) (fun b o hb e => (Heap.get?_update_other s10.heap (Obj.mapSeq (·.push y)) (Ne.symm hb)).trans e) p3 hDC (.inr (by show s2.heap.objs.size ≤ D; rw [hDg]; exact Nat.le_refl _)) DcY (fun p hp => nomatch hp)
          refine wpAny_pure (wpAny_pure ⟨rfl, again (its' := its ++ [y]) I12 kp8 (fun b hb o e => ?_) p2 p3 g10 (v5.append (.cons rv .nil)) nx⟩)
          exact (Heap.get?_update_other s10.heap (Obj.mapSeq (·.push y)) (fun z : D = b => Dfp (z ▸ hb))).trans (p1 b hb o e)
    · rw [e4]; exact T.keep _ _ _ st2 fun b _ o e => old b o e
  exact codeAny_compStart_list (loop _ rfl) (T.self _ 0 _ _ _ (T.keep _ _ _ st2 fun b _ o e => old b o e) (loop _ rfl))
theorem pe_comp {elt target iter : Expr} {ifs : List Expr} {scope : Scope} {pos : Pos} {tg cs : List Str} {ix : List Nat} {wi : TI} {g : TG} {tc : TT} {te : TE} (S : CompScope X scope tg cs ix) (hcalm : X.calm = true) (kg : KeepsG tg.length ix g)
    (hi : PI X target iter wi) (hg : ∀ C fp s H, PG (cxComp X scope (tg ++ cs) C fp s H) target g) (hc : ∀ C fp s H, PTs (cxComp X scope (tg ++ cs) C fp s H) ifs tc) (he : ∀ C fp s H, PE (cxComp X scope (tg ++ cs) C fp s H) elt te)
    (hs : ∀ x, foldedSetIterable iter X.env x = pure x := by intro _; rfl) : PE X (.ListComp elt [⟨target, iter, ifs, 0⟩] scope pos) (tComp wi tg.length ix g tc te) := by
  intro pins s σ H Q I h
  rw [eval_ListComp]
  refine comp_core S hcalm kg hi hg hc he hs I h fun D C H' s' v I' q fp z => ?_
  obtain ⟨f0, c1, _, c3, c4, c5⟩ := fp
  obtain ⟨m, hm⟩ := z
  exact ⟨m, hm, fun h' sb => ⟨.ref D, H', I'.turned (t' := s'.toks) (fun b o hb e => (sb.2 b hb).trans e) f0 c1 c3 c4 c5, rfl, q⟩⟩
end
end L2
end
section
set_option maxHeartbeats 4000000
namespace Srt
open PySem PySem.W PyProof.Rows
section
variable {O : KeyOrd} (key : Nat → O.α)
variable {key}
end
end Srt
end
section
set_option maxHeartbeats 4000000
namespace L2
open PySem PySem.Spec PyProof.Rows
section
variable {X : Cx} {pins : List (Addr × Obj)} {σ : St} {H : Hp} {s : Shared}
theorem Inv.kept_led {h' : Heap} {m : Str → Option Value} (I : Inv X pins σ H s) (F' : Fr X.base X.env.locals h' m) (N' : News X.base X.env.locals h' (allNews X.base s.heap X.env.locals)) : ∀ b o, b ≠ X.env.locals → s.heap.get? b = some o → h'.get? b = some o := fun b o hb e => by
  cases q : X.base.get? b with
  | some u =>
    have := I.bk b u q
    rw [e] at this; cases this
    exact F'.keep b _ q
  | none => exact (N' (b, o) (mem_allNews hb q e)).1
theorem Inv.led {h' : Heap} {m : Str → Option Value} {t' : Nat} (I : Inv X pins σ H s) (hm : s.heap.Ns X.env.locals m) (F' : Fr X.base X.env.locals h' m) (N' : News X.base X.env.locals h' (allNews X.base s.heap X.env.locals)) :
    Inv X pins σ H { s with heap := h', toks := t' } := by
  have k := I.kept_led F' N'
  refine I.step (g' := s.gens) (d' := s.drawn) (ch := []) (fun _ z => nomatch z) (fun b o hb _ _ e _ => k b o hb e) (fun b o hb _ _ e _ => ⟨o.slots, k b o hb e⟩) (fun _ _ _ _ n => n) (fun b o _ e => ?_) (fun _ _ e => e) (fun _ _ _ e => e) (fun b ps e => ⟨#[], by rw [e]; simp⟩) (fun m' hm' => ?_) (fun b u e => ?_) I.bare
  · by_cases hb : b = X.env.locals
    · obtain ⟨o', _, _, ho, _⟩ := F'.ns
      exact ⟨o', by rw [hb]; exact ho⟩
    · exact ⟨o, k b o hb e⟩
  · have em : m' = m := by
      obtain ⟨o, es, ep, ho, hd, _, hf⟩ := hm
      obtain ⟨o2, es2, ep2, ho2, hd2, _, hf2⟩ := hm'
      rw [ho] at ho2; cases ho2
      rw [hd] at hd2; cases hd2
      funext x
      rw [← hf x, ← hf2 x]
    rw [em]; exact F'.ns
  · refine (I.hok b u e).stay (fun c v hc q => k c v ?_ q) (fun _ q => q) fun _ _ q => q
    rcases hc with z | z
    · rw [z]; exact ne_of_none e I.free
    · exact ne_of_none z I.free
end
section
variable {prog : Program} {w : World} {A : Around} {E : Value → Shared → Prop} {s : Shared}
end

section
variable {X : Cx} {pins : List (Addr × Obj)} {σ : St} {H : Hp} {s : Shared}
theorem Inv.trackN {D : Addr} {o : HO} (I : Inv X pins σ H s) (hn : H D = none) (hs : X.s₀.heap.get? D = none) (hL : D ≠ X.env.locals) (hc : ∀ x c, X.env.cells.lookup x = some c → c ≠ D) (hp : ∀ p ∈ X.pn ++ pins, p.1 ≠ D)
    (new : ObjOk X.prog X.w (upd H D o) s.heap D o) : Inv X pins σ (upd H D o) s := by
  have nb : ∀ b ob, X.s₀.heap.get? b = some ob → b ≠ D := fun b ob e z => by subst z; rw [hs] at e; cases e
  have nt : ∀ b u, H b = some u → b ≠ D := fun b u e => ne_of_none e hn
  refine ⟨I.ok, I.os, I.bare, ⟨I.base.keep, I.base.slot, fun b ob e n hx => by rw [upd_ne (nb b ob e)]; exact I.base.free b ob e n hx, I.base.there, fun b xs e => ?_, fun b ob u e => ?_, fun b ps e => ?_⟩, I.loc, I.cell, by rw [upd_ne hL.symm]; exact I.free, fun x c e => by rw [upd_ne (hc x c e)]; exact I.freeC x c e, fun p hpp => ?_, fun b u e => ?_, I.len⟩
  · have q := I.base.tups b xs e
    rw [upd_ne (nt b _ q)]; exact q
  · have q := I.base.frzs b ob u e
    rw [upd_ne (nt b _ q)]; exact q
  · obtain ⟨more, q⟩ := I.base.tbls b ps e
    exact ⟨more, by rw [upd_ne (nt b _ q)]; exact q⟩
  · obtain ⟨a, b, c, d, e⟩ := I.pin p hpp
    exact ⟨a, by rw [upd_ne (hp p hpp)]; exact b, c, d, e⟩
  · by_cases hb : b = D
    · subst hb; rw [upd_same] at e; cases e; exact new
    · rw [upd_ne hb] at e
      exact (I.hok b u e).stay (fun _ _ _ q => q) (fun c q => by rw [upd_ne (nt c _ q)]; exact q) fun c xs q => by rw [upd_ne (nt c _ q)]; exact q
end
end L2
end
section
set_option maxHeartbeats 4000000
namespace L2
open PySem PySem.Spec PyProof.Rows
theorem ObjOk.there {P : Program} {w : World} {H : Hp} {h : Heap} {a : Addr} {o : HO} (x : ObjOk P w H h a o) : ∃ ob, h.get? a = some ob := by
  cases o with
  | lst xs => obtain ⟨_, _, _, _, e⟩ := x; exact ⟨_, e⟩
  | tup xs => obtain ⟨_, _, _, ob, e, _⟩ := x; exact ⟨_, e⟩
  | dK kvs => obtain ⟨_, _, _, _, o, _, _, e, _⟩ := x; exact ⟨_, e⟩
  | dT kvs => obtain ⟨_, _, _, _, o, _, _, e, _⟩ := x; exact ⟨_, e⟩
  | set S n => obtain ⟨o, _, _, _, e, _⟩ := x; exact ⟨_, e⟩
  | ins C dx fs => obtain ⟨_, _, _, e, _⟩ := x; exact ⟨_, e⟩
  | own y => exact x
  | xd fs => obtain ⟨_, ⟨_, _, _, e, _⟩, _⟩ := x; exact ⟨_, e⟩
  | rng lo hi => obtain ⟨_, _, _, e⟩ := x; exact ⟨_, e⟩
  | frz ob u => obtain ⟨e, _⟩ := x; exact ⟨_, e⟩
  | tbl ps => exact ⟨_, x⟩
  | met f y => exact ⟨_, x⟩
  | ext φ => exact x.2.1
end L2
end
section
set_option maxHeartbeats 4000000
namespace L2
open PySem PySem.Spec PyProof.Rows
section
variable {X : Cx} {pins : List (Addr × Obj)} {σ : St} {H : Hp} {s : Shared}
end
section
variable {X : Cx}
end

def CompOk (scope osc : Scope) (N tg cs : List Str) (ix : List Nat) : Prop :=
  (∀ y ∈ scope.names, y.2 ≠ .cell) ∧ (∀ y ∈ scope.names, y.2 = .local → scope.names.lookup y.1 = some .local) ∧ (tg ++ cs).Nodup ∧ ix.map (fun i => N[i]?) = cs.map some ∧
  (∀ x ∈ cs, (x, NameKind.free) ∈ scope.names ∧ scope.names.lookup x = some .free) ∧ ∀ y ∈ scope.names, y.2 = .free → osc.names.lookup y.1 = some .cell ∨ osc.names.lookup y.1 = some .free
instance (scope osc : Scope) (N tg cs : List Str) (ix : List Nat) : Decidable (CompOk scope osc N tg cs ix) := by unfold CompOk; infer_instance
theorem comp_scope {X : Cx} {scope : Scope} {tg cs : List Str} {ix : List Nat} (osc : Scope) (N : List Str) (h : CompOk scope osc N tg cs ix) (hk : scope.kind = .function := by rfl) (ho : X.env.scope = osc := by rfl) (hN : X.N = N := by rfl) : CompScope X scope tg cs ix := by
  obtain ⟨h1, h2, h3, h4, h5, h6⟩ := h
  exact ⟨hk, h1, h2, h3, by rw [hN]; exact h4, h5, fun x hx => by rw [ho]; exact h6 (x, .free) hx rfl⟩
end L2
end
section
set_option maxHeartbeats 4000000
namespace L2
open PySem PySem.Spec PyProof.Rows
section
variable {X : Cx} {pins : List (Addr × Obj)} {σ : St} {H H1 : Hp} {s : Shared}
theorem ps_compU {elt target iter : Expr} {ifs : List Expr} {scope : Scope} {pos spos py : Pos} {yy : Str} {ii : Nat} {tg cs : List Str} {ix : List Nat} {wi : TI} {g : TG} {tc : TT} {te : TE} (hN0 : X.N.Nodup) (hi0 : X.N[ii]? = some yy) (hx0 : Loc X.env.scope yy)
    (S : CompScope X scope tg cs ix) (hcalm : X.calm = true) (kg : KeepsG tg.length ix g)
    (hi : PI X target iter wi) (hg : ∀ C fp s H, PG (cxComp X scope (tg ++ cs) C fp s H) target g) (hc : ∀ C fp s H, PTs (cxComp X scope (tg ++ cs) C fp s H) ifs tc) (he : ∀ C fp s H, PE (cxComp X scope (tg ++ cs) C fp s H) elt te)
    (hf0 : X.fn yy = true ∨ X.env.scope.names.lookup yy = some .local)
    (hsw : swapsWith (.ListComp elt [⟨target, iter, ifs, 0⟩] scope pos) (some (.Name yy py)) spos.line X.env = pure true)
    (hs : ∀ x, foldedSetIterable iter X.env x = pure x := by intro _; rfl) : PS X (.Assign [.Name yy py] (.ListComp elt [⟨target, iter, ifs, 0⟩] scope pos) spos) (tAsg (tComp wi tg.length ix g tc te) (gName ii)) := by
  intro pins s σ H Dn I h
  rw [exec_Assign_Name_used _ _ _ _ hsw]
  refine wpAny_bind (wpAny_standAt (wpAny_bind ?_))
  show wpAny _ X.A (do let _ ← comprehension (.ListComp elt [⟨target, iter, ifs, 0⟩] scope pos) scope X.env _ (newList []) false (eval iter X.env) (some (assign (.Name yy py) X.env))) _ _ s
  refine wpAny_bind (wpAny_mono (comp_core (use := some (assign (.Name yy py) X.env)) (Qc := fun _ s' => SP X pins Dn .next s') S hcalm kg hi hg hc he hs I h fun D C H' s' v I' q fp z => ?_) (fun _ s' hq => wpAny_pure (wpAny_pure hq)) fun _ _ e => e)
  obtain ⟨f0, c1, _, c3, c4, c5⟩ := fp
  obtain ⟨m, hm⟩ := z
  show wpAny _ X.A (assign (.Name yy py) X.env (.ref D)) _ _ s'
  refine wpAny_assign_Name (store_ok2 (v := .ref D) I' hN0 hi0 hx0 rfl (fun s'' I'' zq => ?_) hf0)
  obtain ⟨a, sb, ha⟩ := zq
  have hCa : C ≠ a := by
    rcases ha with rfl | ha
    · exact c1
    · exact (c4 _ _ ha).symm
  exact ⟨m, hm.sameBut sb hCa, fun h' sb' => ⟨_, _, I''.turned (t' := s''.toks) (it := C) (fun b o hb e => (sb'.2 b hb).trans e) f0 c1 c3 c4 c5, q⟩⟩
end
end L2
end
section
set_option maxHeartbeats 4000000
namespace VL
open PySem L2
inductive D where
  | int (i : Int) | bl (b : Bool) | non | str (x : Str) | ty (n : String) | tup (ds : List D) | lst (ds : List D) | dic (ks : List (List Int)) (vs : List D) | exc (c : Value)
def kT (ms : List Int) : D := .tup (ms.map .int)
def IsM : Option HO → Prop
  | some (.lst _) => True
  | some (.ext _) => True
  | _ => False
theorem IsM.ne {o : Option HO} (h : IsM o) : o ≠ none := by rintro rfl; exact h
abbrev AP := Addr → Prop
def Any : AP := fun _ => True
abbrev FP := Option Addr → Prop
def AnyF : FP := fun _ => True
def Fr (H0 : Hp) : FP := fun o => ∃ a, o = some a ∧ H0 a = none
mutual
inductive Rep (K : PySem.W.Frag) (N : AP) (F : FP) (H : Hp) : V → D → Prop where
  | int (i : Int) : Rep K N F H (.int i) (.int i)
  | bl (b : Bool) : Rep K N F H (.bl b) (.bl b)
  | non : Rep K N F H .non .non
  | str (x : Str) : Rep K N F H (.str x) (.str x)
  | ty (x : String) : Rep K N F H (.ty x) (.ty x)
  | tup {a : Addr} {vs : List V} {ds : List D} (n : N a) (h : Rd H a (.tup vs)) (r : Reps K N F H vs ds) : Rep K N F H (.ref a) (.tup ds)
  | tupK {a : Addr} {vs : List V} {ds : List D} (h : SqT K (fun _ => none) a vs) (r : Reps K N F H vs ds) : Rep K N F H (.ref a) (.tup ds)
  | lst {a : Addr} {vs : List V} {ds : List D} (n : N a) (f : F (some a)) (h : H a = some (.lst vs)) (r : Reps K N F H vs ds) : Rep K N F H (.ref a) (.lst ds)
  | lstF {a : Addr} {vs : List V} {ds : List D} {o : Obj} (n : N a) (f : F none) (h : H a = some (.frz o (.lst vs))) (r : Reps K N F H vs ds) : Rep K N F H (.ref a) (.lst ds)
  | lstK {a : Addr} {vs : List V} {ds : List D} (f : F none) (h : SqL K (fun _ => none) a vs) (r : Reps K N F H vs ds) : Rep K N F H (.ref a) (.lst ds)
  | dic {a : Addr} {ob : Obj} {es : List (List Int × Addr × V)} {ks : List (List Int)} {ds : List D} (n : N a) (f : F (some a)) (h : H a = some (DctO a ob es)) (e : es.map (·.1) = ks) (rk : Reps K N F H (es.map fun x => .ref x.2.1) (ks.map kT)) (r : Reps K N F H (es.map (·.2.2)) ds) : Rep K N F H (.ref a) (.dic ks ds)
  | exc {x : Addr} {c : Value} {o : Obj} (n : N x) (h : H x = some (.frz o (.own x))) (e : o.cls = c) : Rep K N F H (.ref x) (.exc c)
inductive Reps (K : PySem.W.Frag) (N : AP) (F : FP) (H : Hp) : List V → List D → Prop where
  | nil : Reps K N F H [] []
  | cons {v : V} {d : D} {vs : List V} {ds : List D} (h : Rep K N F H v d) (t : Reps K N F H vs ds) : Reps K N F H (v :: vs) (d :: ds)
end
section
variable {K : PySem.W.Frag} {N N' : AP} {F F' : FP} {H H' H0 : Hp}
theorem Rd.there {a : Addr} {u : HO} (h : Rd H a u) : H a ≠ none := by rcases h with h | ⟨o, h⟩ <;> simp [h]
theorem Rd.keep {a : Addr} {u : HO} (h : Rd H a u) (e : H' a = H a) : Rd H' a u := by
  rcases h with h | ⟨o, h⟩
  · exact .inl (e.trans h)
  · exact .inr ⟨o, e.trans h⟩
mutual
theorem Rep.mono (hN : ∀ a, N a → H a ≠ none → N' a ∧ H' a = H a) (hF : ∀ o, F o → F' o) {v : V} {d : D} : Rep K N F H v d → Rep K N' F' H' v d
  | .int i => .int i
  | .bl i => .bl i
  | .non => .non
  | .str i => .str i
  | .ty i => .ty i
  | .tup n h r => .tup (hN _ n (Rd.there h)).1 (Rd.keep h (hN _ n (Rd.there h)).2) (Reps.mono hN hF r)
  | .tupK h r => .tupK h (Reps.mono hN hF r)
  | .lst n f h r => .lst (hN _ n (by simp [h])).1 (hF _ f) ((hN _ n (by simp [h])).2.trans h) (Reps.mono hN hF r)
  | .lstF n f h r => .lstF (hN _ n (by simp [h])).1 (hF _ f) ((hN _ n (by simp [h])).2.trans h) (Reps.mono hN hF r)
  | .lstK f h r => .lstK (hF _ f) h (Reps.mono hN hF r)
  | .dic n f h e rk r => .dic (hN _ n (by simp [h])).1 (hF _ f) ((hN _ n (by simp [h])).2.trans h) e (Reps.mono hN hF rk) (Reps.mono hN hF r)
  | .exc n h e => .exc (hN _ n (by simp [h])).1 ((hN _ n (by simp [h])).2.trans h) e
theorem Reps.mono (hN : ∀ a, N a → H a ≠ none → N' a ∧ H' a = H a) (hF : ∀ o, F o → F' o) {vs : List V} {ds : List D} : Reps K N F H vs ds → Reps K N' F' H' vs ds
  | .nil => .nil
  | .cons h t => .cons (Rep.mono hN hF h) (Reps.mono hN hF t)
end
theorem Rep.any {v : V} {d : D} (h : Rep K N F H v d) : Rep K Any AnyF H v d := h.mono (fun _ _ _ => ⟨trivial, rfl⟩) (fun _ _ => trivial)
theorem Reps.any {vs : List V} {ds : List D} (h : Reps K N F H vs ds) : Reps K Any AnyF H vs ds := h.mono (fun _ _ _ => ⟨trivial, rfl⟩) (fun _ _ => trivial)
mutual
theorem Rep.avoid (h1 : ∀ a, ¬N' a → IsM (H a)) (h2 : ∀ a, F (some a) → N' a) {v : V} {d : D} : Rep K N F H v d → Rep K N' F H v d
  | .int i => .int i
  | .bl i => .bl i
  | .non => .non
  | .str i => .str i
  | .ty i => .ty i
  | .tup (a := a) n h r => .tup (Classical.byContradiction fun z => by
      have e := h1 a z
      rcases h with h | ⟨o, h⟩ <;> rw [h] at e <;> exact e) h (Reps.avoid h1 h2 r)
  | .tupK h r => .tupK h (Reps.avoid h1 h2 r)
  | .lst n f h r => .lst (h2 _ f) f h (Reps.avoid h1 h2 r)
  | .lstF (a := a) n f h r => .lstF (Classical.byContradiction fun z => by
      have e := h1 a z
      rw [h] at e; exact e) f h (Reps.avoid h1 h2 r)
  | .lstK f h r => .lstK f h (Reps.avoid h1 h2 r)
  | .dic n f h e rk r => .dic (h2 _ f) f h e (Reps.avoid h1 h2 rk) (Reps.avoid h1 h2 r)
  | .exc (x := a) n h e => .exc (Classical.byContradiction fun z => by
      have e := h1 a z
      rw [h] at e; exact e) h e
theorem Reps.avoid (h1 : ∀ a, ¬N' a → IsM (H a)) (h2 : ∀ a, F (some a) → N' a) {vs : List V} {ds : List D} : Reps K N F H vs ds → Reps K N' F H vs ds
  | .nil => .nil
  | .cons h t => .cons (Rep.avoid h1 h2 h) (Reps.avoid h1 h2 t)
end
mutual
def flat : D → Bool
  | .lst _ => false
  | .dic _ _ => false
  | .tup ds => flats ds
  | _ => true
def flats : List D → Bool
  | [] => true
  | d :: r => flat d && flats r
end
theorem flats_intsW : ∀ ms : List Int, flats (ms.map D.int) = true
  | [] => rfl
  | _ :: r => by simp [flats, flat, flats_intsW r]
theorem flats_kT : ∀ ks : List (List Int), flats (ks.map kT) = true
  | [] => rfl
  | _ :: r => by simp [flats, kT, flat, flats_intsW, flats_kT r]
mutual
theorem Rep.flat {v : V} {d : D} : Rep K N F H v d → VL.flat d = true → Rep K N F' H v d
  | .int i, _ => .int i
  | .bl i, _ => .bl i
  | .non, _ => .non
  | .str i, _ => .str i
  | .ty i, _ => .ty i
  | .tup n h r, e => .tup n h (Reps.flat r (by simpa [VL.flat] using e))
  | .tupK h r, e => .tupK h (Reps.flat r (by simpa [VL.flat] using e))
  | .lst n f h r, e => by simp [VL.flat] at e
  | .lstF n f h r, e => by simp [VL.flat] at e
  | .lstK f h r, e => by simp [VL.flat] at e
  | .dic n f h _ _ r, e => by simp [VL.flat] at e
  | .exc n h e, _ => .exc n h e
theorem Reps.flat {vs : List V} {ds : List D} : Reps K N F H vs ds → flats ds = true → Reps K N F' H vs ds
  | .nil, _ => .nil
  | .cons h t, e => by
    simp only [flats, Bool.and_eq_true] at e
    exact .cons (Rep.flat h e.1) (Reps.flat t e.2)
end
theorem Reps.length : ∀ {vs : List V} {ds : List D}, Reps K N F H vs ds → vs.length = ds.length
  | _, _, .nil => rfl
  | _, _, .cons _ t => by simp [Reps.length t]
theorem Reps.get : ∀ {vs : List V} {ds : List D} {i : Nat} {v : V}, Reps K N F H vs ds → vs[i]? = some v → ∃ d, ds[i]? = some d ∧ Rep K N F H v d
  | _, _, 0, _, .cons h _, e => by simp at e; subst e; exact ⟨_, rfl, h⟩
  | _, _, i + 1, v, .cons _ t, e => by
    obtain ⟨d, h1, h2⟩ := Reps.get (i := i) (v := v) t (by simpa using e)
    exact ⟨d, by simpa using h1, h2⟩
  | _, _, _, _, .nil, e => by simp at e
theorem Reps.getD : ∀ {vs : List V} {ds : List D} {i : Nat} {d : D}, Reps K N F H vs ds → ds[i]? = some d → ∃ v, vs[i]? = some v ∧ Rep K N F H v d
  | _, _, 0, _, .cons h _, e => by simp at e; subst e; exact ⟨_, rfl, h⟩
  | _, _, i + 1, v, .cons _ t, e => by
    obtain ⟨d, h1, h2⟩ := Reps.getD (i := i) (d := v) t (by simpa using e)
    exact ⟨d, by simpa using h1, h2⟩
  | _, _, _, _, .nil, e => by simp at e
theorem Reps.append : ∀ {vs ws : List V} {ds es : List D}, Reps K N F H vs ds → Reps K N F H ws es → Reps K N F H (vs ++ ws) (ds ++ es)
  | _, _, _, _, .nil, s => s
  | _, _, _, _, .cons h t, s => .cons h (Reps.append t s)
theorem Reps.set {v : V} {d : D} (h : Rep K N F H v d) : ∀ {vs : List V} {ds : List D} (i : Nat), Reps K N F H vs ds → Reps K N F H (vs.set i v) (ds.set i d)
  | _, _, _, .nil => by simpa using .nil
  | _, _, 0, .cons _ t => by simpa using .cons h t
  | _, _, i + 1, .cons q t => by simpa using .cons q (Reps.set h i t)
theorem Reps.rev {vs : List V} {ds : List D} (h : Reps K N F H vs ds) : Reps K N F H vs.reverse ds.reverse := by
  induction ds generalizing vs with
  | nil => cases h; simpa using .nil
  | cons d r ih =>
    cases h with
    | cons h t => simp only [List.reverse_cons]; exact Reps.append (ih t) (.cons h .nil)
theorem Reps.ints : ∀ {ns : List Int}, Reps K N F H (ns.map V.int) (ns.map D.int)
  | [] => .nil
  | _ :: r => .cons (.int _) (Reps.ints (ns := r))
theorem Reps.toInts : ∀ {vs : List V} {ns : List Int}, Reps K N F H vs (ns.map D.int) → vs = ns.map V.int
  | _, [], .nil => rfl
  | _, n :: ns, .cons h t => by cases h; rw [Reps.toInts t]; rfl
theorem sqT_none {a : Addr} {vs : List V} (h : SqT K (fun _ => none) a vs) : SqT K H a vs := by
  rcases h with (h | ⟨o, h⟩) | h
  · cases h
  · cases h
  · exact .inr h
theorem sqL_none {a : Addr} {vs : List V} (h : SqL K (fun _ => none) a vs) : SqL K H a vs := by
  rcases h with (h | ⟨o, h⟩) | h
  · cases h
  · cases h
  · exact .inr h
theorem Rep.sqT {v : V} {ds : List D} (h : Rep K N F H v (.tup ds)) : ∃ a vs, v = .ref a ∧ SqT K H a vs ∧ Reps K N F H vs ds := by
  cases h with
  | tup n h r => exact ⟨_, _, rfl, .inl h, r⟩
  | tupK h r => exact ⟨_, _, rfl, sqT_none h, r⟩
theorem Rep.sqL {v : V} {ds : List D} (h : Rep K N F H v (.lst ds)) : ∃ a vs, v = .ref a ∧ SqL K H a vs ∧ Reps K N F H vs ds := by
  cases h with
  | lst n f h r => exact ⟨_, _, rfl, .inl (.inl h), r⟩
  | lstF n f h r => exact ⟨_, _, rfl, .inl (.inr ⟨_, h⟩), r⟩
  | lstK f h r => exact ⟨_, _, rfl, sqL_none h, r⟩
theorem Rep.of_sqL {a : Addr} {vs : List V} {ds : List D} (h : SqL K H a vs) (n : N a) (f : ∀ o, F o) (r : Reps K N F H vs ds) : Rep K N F H (.ref a) (.lst ds) := by
  rcases h with (h | ⟨o, h⟩) | h
  · exact .lst n (f _) h r
  · exact .lstF n (f _) h r
  · exact .lstK (f _) (.inr h) r
end

inductive Sl where
  | no | val (d : D) | fre (d : D) | own (ds : List D) | pen (ad : Option Addr) (ns : List Int) | odi (ks : List (List Int)) (vs : List D)
def Sl.mut : Sl → Bool
  | .own _ => true
  | .pen _ _ => true
  | .odi _ _ => true
  | _ => false
def Mo (Z : AP) (σ : St) (S : List Sl) (a : Addr) : Prop := (∃ (i : Nat) (s : Sl), S[i]? = some s ∧ s.mut = true ∧ σ[i]? = some (some (V.ref a))) ∨ Z a
abbrev NM (Z : AP) (σ : St) (S : List Sl) : AP := fun a => ¬Mo Z σ S a
def SlOk (K : PySem.W.Frag) (H0 : Hp) (N : AP) (H : Hp) (o : Option V) : Sl → Prop
  | .no => True
  | .val d => ∃ v, o = some v ∧ Rep K N AnyF H v d
  | .fre d => ∃ v, o = some v ∧ Rep K N (Fr H0) H v d
  | .own ds => ∃ a vs, o = some (.ref a) ∧ H a = some (.lst vs) ∧ H0 a = none ∧ Reps K N (Fr H0) H vs ds
  | .pen ad ns => ∃ a, o = some (.ref a) ∧ (∀ b, ad = some b → a = b) ∧ H a = some (.lst (ns.map .int))
  | .odi ks ds => ∃ a es, o = some (.ref a) ∧ (∃ ob, H a = some (DctO a ob es)) ∧ H0 a = none ∧ (es.map (·.1) = ks ∧ Reps K N AnyF H (es.map fun x => V.ref x.2.1) (ks.map kT)) ∧ Reps K N (Fr H0) H (es.map (·.2.2)) ds
structure OK (K : PySem.W.Frag) (H0 : Hp) (Z : AP) (σ : St) (H : Hp) (S : List Sl) : Prop where
  len : σ.length = S.length
  at_ : ∀ (i : Nat) (o : Option V) (s : Sl), σ[i]? = some o → S[i]? = some s → SlOk K H0 (NM Z σ S) H o s
  inj : ∀ (i j : Nat) (a : Addr) (s t : Sl), S[i]? = some s → S[j]? = some t → s.mut = true → t.mut = true → σ[i]? = some (some (V.ref a)) → σ[j]? = some (some (V.ref a)) → i = j
  dom : ∀ a, H a = none → H0 a = none
  zl : ∀ a, Z a → IsM (H a)
  nz : ∀ (i : Nat) (s : Sl) (a : Addr), S[i]? = some s → s.mut = true → σ[i]? = some (some (V.ref a)) → ¬Z a
def Step (Z : AP) (σ : St) (S : List Sl) (H : Hp) (σ' : St) (S' : List Sl) (H' : Hp) : Prop := (∀ a, NM Z σ S a → H a ≠ none → H' a = H a ∧ NM Z σ' S' a) ∧ (∀ a, H' a = none → H a = none) ∧ ∀ a, Z a → H a ≠ none → H' a = H a
section
variable {K : PySem.W.Frag} {N N' : AP} {F F' : FP} {H H' H'' H0 : Hp} {Z : AP} {σ σ' σ'' : St} {S S' S'' : List Sl}
theorem Step.refl : Step Z σ S H σ S H := ⟨fun _ n _ => ⟨rfl, n⟩, fun _ h => h, fun _ _ _ => rfl⟩
theorem Step.trans (a : Step Z σ S H σ' S' H') (b : Step Z σ' S' H' σ'' S'' H'') : Step Z σ S H σ'' S'' H'' :=
  ⟨fun x n h => by
    obtain ⟨e1, n1⟩ := a.1 x n h
    obtain ⟨e2, n2⟩ := b.1 x n1 (by rw [e1]; exact h)
    exact ⟨e2.trans e1, n2⟩, fun x h => a.2.1 x (b.2.1 x h), fun x z h => by
    have e1 := a.2.2 x z h
    exact (b.2.2 x z (by rw [e1]; exact h)).trans e1⟩
theorem Rep.step {v : V} {d : D} (h : Rep K (NM Z σ S) F H v d) (st : Step Z σ S H σ' S' H') : Rep K (NM Z σ' S') F H' v d := h.mono (fun a n e => ⟨(st.1 a n e).2, (st.1 a n e).1⟩) fun _ x => x
theorem Reps.step {vs : List V} {ds : List D} (h : Reps K (NM Z σ S) F H vs ds) (st : Step Z σ S H σ' S' H') : Reps K (NM Z σ' S') F H' vs ds := h.mono (fun a n e => ⟨(st.1 a n e).2, (st.1 a n e).1⟩) fun _ x => x
theorem OK.mo (k : OK K H0 Z σ H S) {a : Addr} (h : Mo Z σ S a) : IsM (H a) := by
  rcases h with ⟨i, s, e1, e2, e3⟩ | h
  case inr => exact k.zl a h
  have q := k.at_ i _ s e3 e1
  cases s with
  | no => cases e2
  | val d => cases e2
  | fre d => cases e2
  | own ds => obtain ⟨b, vs, h1, h2, _⟩ := q; cases h1; rw [h2]; trivial
  | pen ad ns => obtain ⟨b, h1, _, h2⟩ := q; cases h1; rw [h2]; trivial
  | odi ks ds => obtain ⟨b, kvs, h1, ⟨ob, h2⟩, _⟩ := q; cases h1; rw [h2]; trivial
theorem OK.grow (k : OK K H0 Z σ H S) (h : ∀ a, H a ≠ none → H' a = H a) : OK K H0 Z σ H' S where
  len := k.len
  inj := k.inj
  nz := k.nz
  zl := fun a z => by
    have e := k.zl a z
    rw [h a e.ne]; exact e
  dom := fun a e => k.dom a (Classical.byContradiction fun z => by rw [h a z] at e; exact z e)
  at_ := fun i o s e1 e2 => by
    have q := k.at_ i o s e1 e2
    have hm : ∀ a, NM Z σ S a → H a ≠ none → NM Z σ S a ∧ H' a = H a := fun a n e => ⟨n, h a e⟩
    cases s with
    | no => trivial
    | val d => obtain ⟨v, e, r⟩ := q; exact ⟨v, e, r.mono hm fun _ x => x⟩
    | fre d => obtain ⟨v, e, r⟩ := q; exact ⟨v, e, r.mono hm fun _ x => x⟩
    | own ds => obtain ⟨a, vs, e, e', e0, r⟩ := q; exact ⟨a, vs, e, by rw [h a (by simp [e'])]; exact e', e0, r.mono hm fun _ x => x⟩
    | pen ad ns => obtain ⟨a, e, e1, e'⟩ := q; exact ⟨a, e, e1, by rw [h a (by simp [e'])]; exact e'⟩
    | odi ks ds => obtain ⟨a, vs, e, ⟨ob, e'⟩, e0, ek, r⟩ := q; exact ⟨a, vs, e, ⟨ob, by rw [h a (by simp [e'])]; exact e'⟩, e0, ⟨ek.1, ek.2.mono hm fun _ x => x⟩, r.mono hm fun _ x => x⟩
theorem Step.grow (h : ∀ a, H a ≠ none → H' a = H a) : Step Z σ S H σ S H' := ⟨fun a n e => ⟨h a e, n⟩, fun a e => Classical.byContradiction fun z => by rw [h a z] at e; exact z e, fun a _ e => h a e⟩
theorem upd_grow {p : Addr} {o : HO} (hp : H p = none) : ∀ a, H a ≠ none → upd H p o a = H a := fun a e => upd_ne fun z => e (by rw [z]; exact hp)
end
inductive VR where
  | d (x : D) | own (i : Nat)
def getO : Option Sl → Option D
  | some (.own ds) => some (.lst ds)
  | some (.pen _ ns) => some (.lst (ns.map .int))
  | some (.odi ks vs) => some (.dic ks vs)
  | _ => none
def get (S : List Sl) : VR → Option D
  | .d x => some x
  | .own i => getO S[i]?
def RepR (K : PySem.W.Frag) (F : FP) (Z : AP) (σ : St) (S : List Sl) (H : Hp) (v : V) : VR → Prop
  | .d x => Rep K (NM Z σ S) F H v x
  | .own i => σ[i]? = some (some v)
section
variable {K : PySem.W.Frag} {N N' : AP} {F F' : FP} {H H' H'' H0 : Hp} {Z : AP} {σ σ' σ'' : St} {S S' S'' : List Sl}
theorem RepR.step {v : V} {r : VR} (h : RepR K F Z σ S H v r) (st : Step Z σ S H σ S' H') : RepR K F Z σ S' H' v r := by
  cases r with
  | d x => exact Rep.step h st
  | own i => exact h
theorem RepR.get {v : V} {r : VR} {x : D} (h : RepR K F Z σ S H v r) (k : OK K H0 Z σ H S) (e : get S r = some x) : Rep K Any AnyF H v x := by
  cases r with
  | d y => cases e; exact Rep.any h
  | own i =>
    have h : σ[i]? = some (some v) := h
    have e : getO S[i]? = some x := e
    cases es : S[i]? with
    | none => rw [es] at e; cases e
    | some s =>
      rw [es] at e
      cases s with
      | no => cases e
      | val d => cases e
      | fre d => cases e
      | own ds =>
        cases e
        obtain ⟨a, vs, h1, h2, h3, h4⟩ := k.at_ i _ _ h es
        cases h1
        exact .lst trivial trivial h2 h4.any
      | pen ad ns =>
        cases e
        obtain ⟨a, h1, _, h2⟩ := k.at_ i _ _ h es
        cases h1
        exact .lst trivial trivial h2 Reps.ints
      | odi ks ds =>
        cases e
        obtain ⟨a, kvs, h1, ⟨ob, h2⟩, h3, h4, h5⟩ := k.at_ i _ _ h es
        cases h1
        exact .dic trivial trivial h2 h4.1 h4.2.any h5.any
end
abbrev VT := List Sl → (VR → List Sl → Prop) → Prop
abbrev VTT := List Sl → (Bool → List Sl → Prop) → Prop
abbrev VTA := List Sl → (List VR → List Sl → Prop) → Prop
abbrev VTN := List Sl → (List D → List Sl → Prop) → Prop
def FM (H0 : Hp) (m : Bool) : FP := fun o => m = true → Fr H0 o
def SndE (K : PySem.W.Frag) (m : Bool) (te : TE) (t : VT) : Prop := ∀ H0 Z σ H S Q C, OK K H0 Z σ H S → t S Q → (∀ v H' r S', OK K H0 Z σ H' S' → Step Z σ S H σ S' H' → RepR K (FM H0 m) Z σ S' H' v r → Q r S' → C v H') → te σ H C
def SndT (K : PySem.W.Frag) (te : TT) (t : VTT) : Prop := ∀ H0 Z σ H S Q C, OK K H0 Z σ H S → t S Q → (∀ b H' S', OK K H0 Z σ H' S' → Step Z σ S H σ S' H' → Q b S' → C b H') → te σ H C
inductive RepRs (K : PySem.W.Frag) (F : FP) (Z : AP) (σ : St) (S : List Sl) (H : Hp) : List V → List VR → Prop where
  | nil : RepRs K F Z σ S H [] []
  | cons {v : V} {r : VR} {vs : List V} {rs : List VR} (h : RepR K F Z σ S H v r) (t : RepRs K F Z σ S H vs rs) : RepRs K F Z σ S H (v :: vs) (r :: rs)
def gets (S : List Sl) : List VR → Option (List D)
  | [] => some []
  | r :: rs => match get S r, gets S rs with
    | some d, some ds => some (d :: ds)
    | _, _ => none
def SndA (K : PySem.W.Frag) (m : Bool) (te : TA) (t : VTA) : Prop := ∀ H0 Z σ H S Q C, OK K H0 Z σ H S → t S Q → (∀ vs H' rs S', OK K H0 Z σ H' S' → Step Z σ S H σ S' H' → RepRs K (FM H0 m) Z σ S' H' vs rs → Q rs S' → C vs H') → te σ H C
def SndN (K : PySem.W.Frag) (te : TE) (t : VTN) : Prop := ∀ H0 Z σ H S Q C, OK K H0 Z σ H S → t S Q → (∀ a vs ds H1 H' S', OK K H0 Z σ H1 S' → Step Z σ S H σ S' H1 → H1 a = none → (∀ b, H1 b ≠ none → H' b = H1 b) → H' a = some (.lst vs) →
  Reps K (fun b => NM Z σ S' b ∧ b ≠ a) (Fr H0) H' vs ds → Q ds S' → C (.ref a) H') → te σ H C
structure VE (K : PySem.W.Frag) (X : Cx) (m : Bool) (e : Expr) (te : TE) (t : VT) : Prop where
  pe : PE X e te
  snd : SndE K m te t
structure VTe (K : PySem.W.Frag) (X : Cx) (e : Expr) (te : TT) (t : VTT) : Prop where
  pe : PT X e te
  snd : SndT K te t
structure VWe (K : PySem.W.Frag) (X : Cx) (e : Expr) (te : TT) (t : VTT) : Prop where
  pe : PW X e te
  snd : SndT K te t
structure VA (K : PySem.W.Frag) (X : Cx) (m : Bool) (es : List Expr) (te : TA) (t : VTA) : Prop where
  pe : PA X es te
  snd : SndA K m te t
structure VN (K : PySem.W.Frag) (X : Cx) (e : Expr) (te : TE) (t : VTN) : Prop where
  pe : PE X e te
  snd : SndN K te t
section
variable {K : PySem.W.Frag} {N N' : AP} {F F' : FP} {H H' H'' H0 : Hp} {Z : AP} {σ σ' σ'' : St} {S S' S'' : List Sl}
theorem RepRs.gets {vs : List V} {rs : List VR} {ds : List D} (h : RepRs K F Z σ S H vs rs) (k : OK K H0 Z σ H S) (e : gets S rs = some ds) : Reps K Any AnyF H vs ds := by
  induction h generalizing ds with
  | nil => cases e; exact .nil
  | cons h t ih =>
    unfold VL.gets at e
    split at e
    · rename_i d es h1 h2
      cases e
      exact .cons (h.get k h1) (ih h2)
    · cases e
end
end VL
end
section
set_option maxHeartbeats 4000000
namespace VL
open PySem L2
section
variable {K : PySem.W.Frag} {X : Cx} {m : Bool} {e a b c : Expr} {ta tb tc te : TE} {va vb vc : VT} {pos : Pos}
theorem FM.any {H0 : Hp} {a : Option Addr} : FM H0 false a := fun z => nomatch z
def vC (d : D) : VT := fun S Q => Q (.d d) S
theorem ve_int {i j} : VE K X m (.Constant (.int i) j pos) (tC (.int i)) (vC (.int i)) := ⟨pe_int, fun _ _ _ _ _ _ _ k h q => q _ _ (.d (.int i)) _ k .refl (Rep.int i) h⟩
theorem ve_bl {i j} : VE K X m (.Constant (.bool i) j pos) (tC (.bl i)) (vC (.bl i)) := ⟨pe_bl, fun _ _ _ _ _ _ _ k h q => q _ _ (.d (.bl i)) _ k .refl (Rep.bl i) h⟩
theorem ve_non {j} : VE K X m (.Constant .none j pos) (tC .non) (vC .non) := ⟨pe_non, fun _ _ _ _ _ _ _ k h q => q _ _ (.d .non) _ k .refl Rep.non h⟩
theorem ve_str {i j} : VE K X m (.Constant (.str i) j pos) (tC (.str i)) (vC (.str i)) := ⟨pe_str, fun _ _ _ _ _ _ _ k h q => q _ _ (.d (.str i)) _ k .refl (Rep.str i) h⟩
theorem ve_pe {v : V} {d : D} (h : PE X e (tC v)) (r : ∀ N H, Rep K N AnyF H v d) : VE K X false e (tC v) (vC d) := ⟨h, fun _ _ _ _ _ _ _ k h q => q _ _ (.d d) _ k .refl (show Rep K _ _ _ v d from (r _ _).mono (fun _ n _ => ⟨n, rfl⟩) (fun _ _ => FM.any)) h⟩
def rdO (i : Nat) : Option Sl → Option VR
  | some (.val d) => some (.d d)
  | some (.fre d) => some (.d d)
  | some (.own _) => some (.own i)
  | some (.pen _ _) => some (.own i)
  | some (.odi _ _) => some (.own i)
  | _ => none
def vVar (i : Nat) : VT := fun S Q => ∃ r, rdO i S[i]? = some r ∧ Q r S
theorem OK.var {H0 H : Hp} {Z : AP} {σ : St} {S : List Sl} (k : OK K H0 Z σ H S) {i : Nat} {r : VR} (h : rdO i S[i]? = some r) : ∃ v, σ[i]? = some (some v) ∧ RepR K (FM H0 false) Z σ S H v r := by
  have hl := k.len
  cases es : S[i]? with
  | none => rw [es] at h; cases h
  | some s =>
    have hi : i < σ.length := by rw [hl]; exact (List.getElem?_eq_some_iff.mp es).1
    have q := k.at_ i _ s (List.getElem?_eq_getElem hi) es
    rw [es] at h
    cases s with
    | no => cases h
    | val d => obtain ⟨v, e, r'⟩ := q; cases h; exact ⟨v, by rw [List.getElem?_eq_getElem hi, e], r'.mono (fun _ n _ => ⟨n, rfl⟩) fun _ _ => FM.any⟩
    | fre d => obtain ⟨v, e, r'⟩ := q; cases h; exact ⟨v, by rw [List.getElem?_eq_getElem hi, e], r'.mono (fun _ n _ => ⟨n, rfl⟩) fun _ x _ => x⟩
    | own ds => obtain ⟨a, vs, e, _⟩ := q; cases h; exact ⟨.ref a, by rw [List.getElem?_eq_getElem hi, e], by show σ[i]? = _; rw [List.getElem?_eq_getElem hi, e]⟩
    | pen ad ds => obtain ⟨a, e, _⟩ := q; cases h; exact ⟨.ref a, by rw [List.getElem?_eq_getElem hi, e], by show σ[i]? = _; rw [List.getElem?_eq_getElem hi, e]⟩
    | odi ks ds => obtain ⟨a, _, e, _⟩ := q; cases h; exact ⟨.ref a, by rw [List.getElem?_eq_getElem hi, e], by show σ[i]? = _; rw [List.getElem?_eq_getElem hi, e]⟩
theorem ve_var (i : Nat) (h : PE X e (tVar i)) : VE K X false e (tVar i) (vVar i) := ⟨h, fun H0 Z σ H S Q C k zq1 hc => by
  obtain ⟨r, h, q⟩ := zq1
  obtain ⟨v, e, rr⟩ := k.var h
  exact ⟨v, e, hc _ _ _ _ k .refl rr q⟩⟩
def vFlat (t : VT) : VT := fun S Q => t S fun r S' => (match r with | .d d => flat d = true | .own _ => True) ∧ Q r S'
theorem ve_flat (h : VE K X false e te va) : VE K X m e te (vFlat va) := ⟨h.pe, fun H0 Z σ H S Q C k t hc => h.snd H0 Z σ H S _ C k t fun v H' r S' k' st rr ⟨f, q⟩ => hc v H' r S' k' st (by
  cases r with
  | d x => exact Rep.flat rr f
  | own i => exact rr) q⟩
def v2 (w : D → D → (D → Prop) → Prop) (va vb : VT) : VT := fun S Q => va S fun ra S1 => vb S1 fun rb S2 => ∃ d1 d2, get S2 ra = some d1 ∧ get S2 rb = some d2 ∧ w d1 d2 fun d => Q (.d d) S2
def Lift2 (K : PySem.W.Frag) (r : R2) (w : D → D → (D → Prop) → Prop) : Prop := ∀ (x y : V) (H : Hp) (d1 d2 : D) (q : D → Prop) (C : VK), Rep K Any AnyF H x d1 → Rep K Any AnyF H y d2 → w d1 d2 q → (∀ z dz, q dz → (∀ N F, Rep K N F H z dz) → C z H) → r x y H C
theorem snd2 {r : R2} {w : D → D → (D → Prop) → Prop} (L : Lift2 K r w) (ha : SndE K false ta va) (hb : SndE K false tb vb) : SndE K m (tOp r ta tb) (v2 w va vb) := by
  intro H0 Z σ H S Q C k t hc
  refine ha H0 Z σ H S _ _ k t fun x H1 ra S1 k1 st1 r1 t1 => ?_
  refine hb H0 Z σ H1 S1 _ _ k1 t1 fun y H2 rb S2 k2 st2 r2 ⟨d1, d2, e1, e2, t2⟩ => ?_
  exact L x y H2 d1 d2 _ _ ((r1.step st2).get k2 e1) (r2.get k2 e2) t2 fun z dz q rz => hc z H2 (.d dz) S2 k2 (st1.trans st2) (rz _ _) q
theorem ve_op {op : Operator} {r : R2} {w : D → D → (D → Prop) → Prop} (ho : OpR X (binaryOp op) r) (L : Lift2 K r w) (ha : VE K X false a ta va) (hb : VE K X false b tb vb) : VE K X m (.BinOp a op b pos) (tOp r ta tb) (v2 w va vb) := ⟨pe_op ho ha.pe hb.pe, snd2 L ha.snd hb.snd⟩
@[reducible] def ofV : V → D
  | .int i => .int i
  | .bl b => .bl b
  | .str x => .str x
  | .ty x => .ty x
  | _ => .non
def scV : V → Bool
  | .int _ => true | .bl _ => true | .str _ => true | .non => true | .ty _ => true | _ => false
theorem rep_sc {v : V} (h : scV v = true) {N : AP} {F : FP} {H : Hp} : Rep K N F H v (ofV v) := by
  cases v <;> first | exact .int _ | exact .bl _ | exact .str _ | exact .non | exact .ty _ | cases h
def wI (C : Int → Int → Prop) (g : Int → Int → V) : D → D → (D → Prop) → Prop := fun d1 d2 q => ∃ i j, d1 = .int i ∧ d2 = .int j ∧ C i j ∧ q (ofV (g i j))
def wI0 (g : Int → Int → V) : D → D → (D → Prop) → Prop := fun d1 d2 q => ∃ i j, d1 = .int i ∧ d2 = .int j ∧ q (ofV (g i j))
theorem l_rI {C : Int → Int → Prop} {g : Int → Int → V} (hg : ∀ i j, scV (g i j) = true := by intro _ _; rfl) : Lift2 K (rI C g) (wI C g) := by
  rintro x y H d1 d2 q Cc r1 r2 ⟨i, j, rfl, rfl, c, h⟩ hc
  cases r1; cases r2
  exact ⟨i, j, rfl, rfl, c, hc _ _ h fun _ _ => rep_sc (hg i j)⟩
theorem l_rI0 {g : Int → Int → V} (hg : ∀ i j, scV (g i j) = true := by intro _ _; rfl) : Lift2 K (rI0 g) (wI0 g) := by
  rintro x y H d1 d2 q Cc r1 r2 ⟨i, j, rfl, rfl, h⟩ hc
  cases r1; cases r2
  exact ⟨i, j, rfl, rfl, hc _ _ h fun _ _ => rep_sc (hg i j)⟩
def toV : D → Option V
  | .int i => some (.int i)
  | .bl b => some (.bl b)
  | .str x => some (.str x)
  | .non => some .non
  | _ => none
theorem rep_toV {v : V} {d : D} {u : V} {N : AP} {F : FP} {H : Hp} (h : Rep K N F H v d) (e : toV d = some u) : v = u := by
  cases h <;> cases e <;> rfl
def wEq : D → D → (D → Prop) → Prop := fun d1 d2 q => ∃ x y, toV d1 = some x ∧ toV d2 = some y ∧ scal x y = true ∧ q (.bl (decide (x = y)))
def wNe : D → D → (D → Prop) → Prop := fun d1 d2 q => ∃ x y, toV d1 = some x ∧ toV d2 = some y ∧ scal x y = true ∧ q (.bl (!decide (x = y)))
theorem l_eq : Lift2 K rEq wEq := by
  rintro x y H d1 d2 q C r1 r2 ⟨x', y', e1, e2, s, h⟩ hc
  obtain rfl := rep_toV r1 e1
  obtain rfl := rep_toV r2 e2
  exact ⟨s, hc _ _ h fun _ _ => .bl _⟩
theorem l_ne : Lift2 K rNe wNe := by
  rintro x y H d1 d2 q C r1 r2 ⟨x', y', e1, e2, s, h⟩ hc
  obtain rfl := rep_toV r1 e1
  obtain rfl := rep_toV r2 e2
  exact ⟨s, hc _ _ h fun _ _ => .bl _⟩
def isNo : D → Bool
  | .non => true
  | _ => false
theorem rep_isNo {v : V} {d : D} {N : AP} {F : FP} {H : Hp} (h : Rep K N F H v d) : decide (v = .non) = isNo d := by cases h <;> rfl
def wIsN (neg : Bool) : D → D → (D → Prop) → Prop := fun d1 d2 q => d2 = .non ∧ q (.bl (if neg then !isNo d1 else isNo d1))
theorem l_isN : Lift2 K (fun x y H Q => y = .non ∧ Q (.bl (decide (x = .non))) H) (wIsN false) := by
  rintro x y H d1 d2 q C r1 r2 ⟨rfl, h⟩ hc
  cases r2
  exact ⟨rfl, by rw [rep_isNo r1]; exact hc _ _ h fun _ _ => .bl _⟩
theorem l_notN : Lift2 K (fun x y H Q => y = .non ∧ Q (.bl (!decide (x = .non))) H) (wIsN true) := by
  rintro x y H d1 d2 q C r1 r2 ⟨rfl, h⟩ hc
  cases r2
  exact ⟨rfl, by rw [rep_isNo r1]; exact hc _ _ h fun _ _ => .bl _⟩
def vTest (t : VT) : VTT := fun S Q => t S fun r S' => ∃ k, r = .d (.bl k) ∧ Q k S'
theorem sndTest (h : SndE K m te va) : SndT K (tTest te) (vTest va) := fun H0 Z σ H S Q C k t hc => h H0 Z σ H S _ _ k t fun v H' r S' k' st rr zq1 => by
  obtain ⟨b, e, q⟩ := zq1
  subst e
  cases (show Rep K _ _ H' v (.bl b) from rr)
  exact ⟨b, rfl, hc b H' S' k' st q⟩
theorem sndB (h : SndE K m te va) : SndT K (tB te) (vTest va) := fun H0 Z σ H S Q C k t hc => h H0 Z σ H S _ _ k t fun v H' r S' k' st rr zq1 => by
  obtain ⟨b, e, q⟩ := zq1
  subst e
  cases (show Rep K _ _ H' v (.bl b) from rr)
  exact ⟨b, rfl, hc b H' S' k' st q⟩
theorem vt_cmp {op : CmpOp} {r : R2} {w : D → D → (D → Prop) → Prop} (ho : OpR X (compareOp op) r) (L : Lift2 K r w) (ha : VE K X false a ta va) (hb : VE K X false b tb vb) (hm : behindInMarks op b = false) : VTe K X (.Compare a [op] [b] pos) (tTest (tOp r ta tb)) (vTest (v2 w va vb)) :=
  ⟨pt_cmpR ho ha.pe hb.pe hm, sndTest (m := false) (snd2 L ha.snd hb.snd)⟩
theorem ve_cmp {op : CmpOp} {r : R2} {w : D → D → (D → Prop) → Prop} (ho : OpR X (compareOp op) r) (L : Lift2 K r w) (ha : VE K X false a ta va) (hb : VE K X false b tb vb) (hm : behindInMarks op b = false) : VE K X m (.Compare a [op] [b] pos) (tOp r ta tb) (v2 w va vb) :=
  ⟨pe_cmpR ho ha.pe hb.pe hm, snd2 L ha.snd hb.snd⟩
theorem vt_val (h : VE K X false e te va) (he : ∀ whole, isTrue e X.env whole = (do let v ← whole; standAt e.pos; holding [v] (truthy v)) := by intro _; rfl) : VTe K X e (tB te) (vTest va) := ⟨pt_val h.pe he, sndB h.snd⟩
section
variable {tA tB' : TT} {wA wB : VTT} {rest : List Expr}
def vAnd (t u : VTT) : VTT := fun S Q => t S fun c S1 => if c = true then u S1 Q else Q false S1
def vOr (t u : VTT) : VTT := fun S Q => t S fun c S1 => if c = true then Q true S1 else u S1 Q
def vNot (t : VTT) : VTT := fun S Q => t S fun c S1 => Q (!c) S1
theorem vw_and1 (h : VTe K X a tA wA) : VWe K X (.BoolOp .And [a] pos) tA wA := ⟨pw_and1 h.pe, h.snd⟩
theorem vw_or1 (h : VTe K X a tA wA) : VWe K X (.BoolOp .Or [a] pos) tA wA := ⟨pw_or1 h.pe, h.snd⟩
theorem vw_and (ha : VTe K X a tA wA) (hb : VWe K X (.BoolOp .And (b :: rest) pos) tB' wB) : VWe K X (.BoolOp .And (a :: b :: rest) pos) (tAnd tA tB') (vAnd wA wB) := ⟨pw_and ha.pe hb.pe, fun H0 Z σ H S Q C k t hc =>
  ha.snd H0 Z σ H S _ _ k t fun c H1 S1 k1 st1 q => by
    cases c with
    | true => rw [if_pos rfl] at q ⊢; exact hb.snd H0 Z σ H1 S1 _ _ k1 q fun c2 H2 S2 k2 st2 q2 => hc c2 H2 S2 k2 (st1.trans st2) q2
    | false => rw [if_neg Bool.false_ne_true] at q ⊢; exact hc false H1 S1 k1 st1 q⟩
theorem vw_or (ha : VTe K X a tA wA) (hb : VWe K X (.BoolOp .Or (b :: rest) pos) tB' wB) : VWe K X (.BoolOp .Or (a :: b :: rest) pos) (tOr tA tB') (vOr wA wB) := ⟨pw_or ha.pe hb.pe, fun H0 Z σ H S Q C k t hc =>
  ha.snd H0 Z σ H S _ _ k t fun c H1 S1 k1 st1 q => by
    cases c with
    | false => rw [if_neg Bool.false_ne_true] at q ⊢; exact hb.snd H0 Z σ H1 S1 _ _ k1 q fun c2 H2 S2 k2 st2 q2 => hc c2 H2 S2 k2 (st1.trans st2) q2
    | true => rw [if_pos rfl] at q ⊢; exact hc true H1 S1 k1 st1 q⟩
theorem vw_pt (h : VWe K X e tA wA) : VTe K X e tA wA := ⟨h.pe.pt, h.snd⟩
theorem vt_not (h : VTe K X a tA wA) : VTe K X (.UnaryOp .Not a pos) (tNot tA) (vNot wA) := ⟨pt_not h.pe, fun H0 Z σ H S Q C k t hc => h.snd H0 Z σ H S _ _ k t fun c H1 S1 k1 st1 q => hc (!c) H1 S1 k1 st1 q⟩
def vAndV (ta tb : VT) : VT := fun S Q => ta S fun r S1 => ∃ c, r = .d (.bl c) ∧ if c = true then tb S1 Q else Q (.d (.bl false)) S1
def vNotV (ta : VT) : VT := fun S Q => ta S fun r S1 => ∃ c, r = .d (.bl c) ∧ Q (.d (.bl (!c))) S1
theorem ve_one {op} (h : VE K X m a ta va) : VE K X m (.BoolOp op [a] pos) ta va := ⟨pe_one h.pe, h.snd⟩
theorem ve_and (ha : VE K X m a ta va) (hb : VE K X m (.BoolOp .And (b :: rest) pos) tb vb) : VE K X m (.BoolOp .And (a :: b :: rest) pos) (tAndV ta tb) (vAndV va vb) := ⟨pe_and ha.pe hb.pe, fun H0 Z σ H S Q C k t hc =>
  ha.snd H0 Z σ H S _ _ k t fun v H1 r S1 k1 st1 rr zq1 => by
    obtain ⟨c, e, q⟩ := zq1
    subst e
    cases (show Rep K _ _ H1 v (.bl c) from rr)
    refine ⟨c, rfl, ?_⟩
    cases c with
    | true => rw [if_pos rfl] at q ⊢; exact hb.snd H0 Z σ H1 S1 _ _ k1 q fun v2 H2 r2 S2 k2 st2 rr2 q2 => hc v2 H2 r2 S2 k2 (st1.trans st2) rr2 q2
    | false => rw [if_neg Bool.false_ne_true] at q ⊢; exact hc _ H1 (.d (.bl false)) S1 k1 st1 (Rep.bl false) q⟩
theorem ve_not (ha : VE K X m a ta va) : VE K X m (.UnaryOp .Not a pos) (tNotV ta) (vNotV va) := ⟨pe_not ha.pe, fun H0 Z σ H S Q C k t hc =>
  ha.snd H0 Z σ H S _ _ k t fun v H1 r S1 k1 st1 rr zq1 => by
    obtain ⟨c, e, q⟩ := zq1
    subst e
    cases (show Rep K _ _ H1 v (.bl c) from rr)
    exact ⟨c, rfl, hc _ H1 (.d (.bl (!c))) S1 k1 st1 (Rep.bl _) q⟩⟩
end
section
variable {es : List Expr} {tr : TA} {vr : VTA}
def vNil : VTA := fun S Q => Q [] S
def vCons (va : VT) (vr : VTA) : VTA := fun S Q => va S fun r S1 => vr S1 fun rs S2 => Q (r :: rs) S2
theorem va_nil : VA K X m [] tNil vNil := ⟨pa_nil, fun _ _ _ _ _ _ _ k h q => q _ _ _ _ k .refl .nil h⟩
theorem va_cons (ha : VE K X m e te va) (hr : VA K X m es tr vr) (hs : starEach (e :: es) X.env = (false, eval e X.env) :: starEach es X.env := by rfl) : VA K X m (e :: es) (tCons te tr) (vCons va vr) := ⟨pa_cons ha.pe hr.pe hs, fun H0 Z σ H S Q C k t hc =>
  ha.snd H0 Z σ H S _ _ k t fun v H1 r S1 k1 st1 rr q => hr.snd H0 Z σ H1 S1 _ _ k1 q fun vs H2 rs S2 k2 st2 rrs q2 => hc (v :: vs) H2 (r :: rs) S2 k2 (st1.trans st2) (.cons (rr.step st2) rrs) q2⟩
def allD : List VR → Option (List D)
  | [] => some []
  | .d x :: r => (allD r).map (x :: ·)
  | _ :: _ => none
theorem RepRs.allD {F : FP} {Z : AP} {σ : St} {S : List Sl} {H : Hp} {vs : List V} {rs : List VR} {ds : List D} (h : RepRs K F Z σ S H vs rs) (e : VL.allD rs = some ds) : Reps K (NM Z σ S) F H vs ds := by
  induction h generalizing ds with
  | nil => cases e; exact .nil
  | @cons v r vs rs h t ih =>
    cases r with
    | d x =>
      obtain ⟨es, h1, rfl⟩ := Option.map_eq_some_iff.mp (show (VL.allD rs).map (x :: ·) = some ds from e)
      exact .cons h (ih h1)
    | own i => cases e
theorem RepRs.length {F : FP} {Z : AP} {σ : St} {S : List Sl} {H : Hp} {vs : List V} {rs : List VR} (h : RepRs K F Z σ S H vs rs) : vs.length = rs.length := by
  induction h with
  | nil => rfl
  | cons h t ih => simp [ih]
theorem allD_length : ∀ {rs : List VR} {ds : List D}, allD rs = some ds → ds.length = rs.length
  | [], _, e => by cases e; rfl
  | .d x :: r, ds, e => by
    obtain ⟨es, h1, rfl⟩ := Option.map_eq_some_iff.mp (show (VL.allD r).map (x :: ·) = some ds from e)
    simp [allD_length h1]
  | .own _ :: _, _, e => by cases e
def vTup (vr : VTA) : VT := fun S Q => vr S fun rs S1 => ∃ ds, allD rs = some ds ∧ ds.length ≤ 1000 ∧ Q (.d (.tup ds)) S1
theorem small {n : Nat} (h : n ≤ 1000) : n ≤ sizeLine := by rw [sizeLine_eq]; lia
theorem OK.nm {H0 H : Hp} {Z : AP} {σ : St} {S : List Sl} (k : OK K H0 Z σ H S) {p : Addr} (hp : H p = none) : NM Z σ S p := fun z => by
  have e := k.mo z
  rw [hp] at e; exact e
theorem ve_tup {x1} (h : VA K X m es tr vr) : VE K X m (.Tuple es x1 pos) (tTup tr) (vTup vr) := ⟨pe_tup h.pe, fun H0 Z σ H S Q C k t hc =>
  h.snd H0 Z σ H S _ _ k t fun vs H1 rs S1 k1 st1 rrs ⟨ds, e, hl, q⟩ => ⟨small (by rw [rrs.length, ← allD_length e]; exact hl), fun p hp => by
    have g := upd_grow (o := .tup vs) hp
    exact hc _ _ (.d (.tup ds)) S1 (k1.grow g) (st1.trans (.grow g)) (Rep.tup (k1.nm hp) (.inl upd_same) ((rrs.allD e).mono (fun a n e => ⟨n, g a e⟩) fun _ x => x)) q⟩⟩
def vLst (vr : VTA) : VTN := fun S Q => vr S fun rs S1 => ∃ ds, allD rs = some ds ∧ ds.length ≤ 1000 ∧ Q ds S1
theorem reps_new {H0 H : Hp} {Z : AP} {σ : St} {S : List Sl} {p : Addr} {vs : List V} {ds : List D} {o : HO} (hp : H p = none) (h : Reps K (NM Z σ S) (FM H0 true) H vs ds) : Reps K (fun b => NM Z σ S b ∧ b ≠ p) (Fr H0) (upd H p o) vs ds :=
  h.mono (fun a n e => ⟨⟨n, fun z => e (by rw [z]; exact hp)⟩, upd_grow hp a e⟩) fun _ x => x rfl
theorem vn_lst (h : VA K X true es tr vr) : VN K X (.List es pos) (tLst tr) (vLst vr) := ⟨pe_lst h.pe, fun H0 Z σ H S Q C k t hc =>
  h.snd H0 Z σ H S _ _ k t fun vs H1 rs S1 k1 st1 rrs ⟨ds, e, hl, q⟩ => ⟨small (by rw [rrs.length, ← allD_length e]; exact hl), fun p hp =>
    hc p vs ds H1 _ S1 k1 st1 hp (upd_grow hp) upd_same (reps_new hp (rrs.allD e)) q⟩⟩
def vNew (t : VTN) : VT := fun S Q => t S fun ds S1 => Q (.d (.lst ds)) S1
theorem ve_new {t : VTN} (h : VN K X e te t) : VE K X m e te (vNew t) := ⟨h.pe, fun H0 Z σ H S Q C k t hc => h.snd H0 Z σ H S _ _ k t fun a vs ds H1 H' S1 k1 st1 ha hg hl rr q => by
  refine hc _ H' (.d (.lst ds)) S1 (k1.grow hg) (st1.trans (.grow hg)) (Rep.lst (k1.nm ha) (fun _ => ⟨a, rfl, k1.dom a ha⟩) hl (rr.mono (fun b n e => ⟨n.1, rfl⟩) fun _ x _ => x)) q⟩
end
theorem RepR.elems {H0 H : Hp} {Z : AP} {σ : St} {S : List Sl} {F : FP} {v : V} {r : VR} {ds : List D} (h : RepR K F Z σ S H v r) (k : OK K H0 Z σ H S) (e : VL.get S r = some (.lst ds)) : ∃ a vs, v = .ref a ∧ SqL K H a vs ∧ Reps K (NM Z σ S) AnyF H vs ds := by
  cases r with
  | d y =>
    cases e
    obtain ⟨a, vs, rfl, hq, rr⟩ := Rep.sqL h
    exact ⟨a, vs, rfl, hq, rr.mono (fun _ n _ => ⟨n, rfl⟩) fun _ _ => trivial⟩
  | own i =>
    have h : σ[i]? = some (some v) := h
    have e : getO S[i]? = some (.lst ds) := e
    cases es : S[i]? with
    | none => rw [es] at e; cases e
    | some s =>
      rw [es] at e
      cases s with
      | no => cases e
      | val d => cases e
      | fre d => cases e
      | own ds =>
        cases e
        obtain ⟨a, vs, h1, h2, h3, h4⟩ := k.at_ i _ _ h es
        cases h1
        exact ⟨a, vs, rfl, .inl (.inl h2), h4.mono (fun _ n _ => ⟨n, rfl⟩) fun _ _ => trivial⟩
      | pen ad ns =>
        cases e
        obtain ⟨a, h1, _, h2⟩ := k.at_ i _ _ h es
        cases h1
        exact ⟨a, _, rfl, .inl (.inl h2), Reps.ints⟩
      | odi ks ds => cases e
theorem RepR.elemsT {H0 H : Hp} {Z : AP} {σ : St} {S : List Sl} {F : FP} {v : V} {r : VR} {ds : List D} (h : RepR K F Z σ S H v r) (k : OK K H0 Z σ H S) (e : VL.get S r = some (.tup ds)) : ∃ a vs, v = .ref a ∧ SqT K H a vs ∧ Reps K (NM Z σ S) AnyF H vs ds := by
  cases r with
  | d y =>
    cases e
    cases (show Rep K (NM Z σ S) F H v (.tup ds) from h) with
    | tup n h2 r2 => exact ⟨_, _, rfl, .inl h2, r2.mono (fun _ n _ => ⟨n, rfl⟩) fun _ _ => trivial⟩
    | tupK h2 r2 => exact ⟨_, _, rfl, sqT_none h2, r2.mono (fun _ n _ => ⟨n, rfl⟩) fun _ _ => trivial⟩
  | own i =>
    have e : getO S[i]? = some (.tup ds) := e
    cases es : S[i]? with
    | none => rw [es] at e; cases e
    | some s => rw [es] at e; cases s <;> cases e
end
end VL
end
section
set_option maxHeartbeats 4000000
namespace VL
open PySem L2
section
variable {K : PySem.W.Frag} {X : Cx} {m : Bool} {e a b c : Expr} {ta tb tc te : TE} {va vb vc : VT} {pos : Pos}
theorem atI_reps {N : AP} {F : FP} {H : Hp} {vs : List V} {ds : List D} {i : Int} {d : D} (r : Reps K N F H vs ds) (h : atI ds i = some d) : ∃ v, atI vs i = some v ∧ Rep K N F H v d := by
  unfold atI at h ⊢
  rw [r.length]
  cases e : ixN ds.length i with
  | none => rw [e] at h; cases h
  | some j =>
    rw [e] at h
    exact r.getD h
def vIx (va vb : VT) : VT := fun S Q => va S fun ra S1 => vb S1 fun rb S2 => ∃ ds i d, (get S2 ra = some (.lst ds) ∨ get S2 ra = some (.tup ds)) ∧ get S2 rb = some (.int i) ∧ atI ds i = some d ∧ Q (.d d) S2
theorem ve_ix (hK : X.K = K) (ha : VE K X false a ta va) (hb : VE K X false b tb vb) (hs : PlainIx b) : VE K X false (.Subscript a b pos) (tOp (rIx K) ta tb) (vIx va vb) := ⟨by subst hK; exact pe_ix ix_seq ha.pe hb.pe hs, fun H0 Z σ H S Q C k t hc =>
  ha.snd H0 Z σ H S _ _ k t fun x H1 ra S1 k1 st1 r1 t1 => hb.snd H0 Z σ H1 S1 _ _ k1 t1 fun y H2 rb S2 k2 st2 r2 zq1 => by
    obtain ⟨ds, i, d, e1, e2, e3, q⟩ := zq1
    cases r2.get k2 e2
    have fin : ∀ v, Rep K (NM Z σ S2) AnyF H2 v d → C v H2 := fun v rv => hc v H2 (.d d) S2 k2 (st1.trans st2) (show Rep K _ _ H2 v d from rv.mono (fun _ n _ => ⟨n, rfl⟩) fun _ _ => FM.any) q
    rcases e1 with e1 | e1
    · obtain ⟨p, vs, rfl, hq, rr⟩ := (r1.step st2).elems k2 e1
      obtain ⟨v, h1, h2⟩ := atI_reps rr e3
      exact .inl ⟨p, vs, i, v, rfl, rfl, hq, h1, fin v h2⟩
    · obtain ⟨p, vs, rfl, hq, rr⟩ := (r1.step st2).elemsT k2 e1
      obtain ⟨v, h1, h2⟩ := atI_reps rr e3
      exact .inr (.inl ⟨p, vs, i, v, rfl, rfl, hq, h1, fin v h2⟩)⟩
section
variable {es : List Expr} {tr : TA} {vr : VTA} {x : Str} {p : Pos} {id T : String} {r : List V → Hp → VK → Prop}
def vCB (w : List D → (D → Prop) → Prop) (vr : VTA) : VT := fun S Q => vr S fun rs S1 => ∃ ds, gets S1 rs = some ds ∧ w ds fun d => Q (.d d) S1
def LiftC (K : PySem.W.Frag) (r : List V → Hp → VK → Prop) (w : List D → (D → Prop) → Prop) : Prop := ∀ (xs : List V) (H : Hp) (ds : List D) (q : D → Prop) (C : VK), Reps K Any AnyF H xs ds → w ds q → (∀ z dz, q dz → (∀ N F, Rep K N F H z dz) → C z H) → r xs H C
theorem sndC {w : List D → (D → Prop) → Prop} (L : LiftC K r w) (ha : SndA K false tr vr) : SndE K m (tCB r tr) (vCB w vr) := fun H0 Z σ H S Q C k t hc =>
  ha H0 Z σ H S _ _ k t fun vs H1 rs S1 k1 st1 rrs ⟨ds, e, q⟩ => L vs H1 ds _ _ (rrs.gets k1 e) q fun z dz q rz => hc z H1 (.d dz) S1 k1 st1 (rz _ _) q
theorem ve_callB {w : List D → (D → Prop) → Prop} (hc : CallR X (.builtin id) r) (L : LiftC K r w) (hg : Gl X x) (hm : X.mg x = none) (hv : bootBuiltins x = some (.builtin id)) (ha : VA K X false (e :: es) tr vr) (hn : x ≠ "__name__" := by decide) (hdb : (x == ("__debug__" : Str)) = false := by decide)
    (he : starEach (e :: es) X.env = (false, eval e X.env) :: starEach es X.env := by rfl) (hpl : (backTo pos (starEach es X.env)).any (·.1) = false := by rfl) : VE K X m (.Call (.Name x p) (e :: es) [] pos) (tCB r tr) (vCB w vr) := ⟨pe_callB hc hg hm hv ha.pe hn hdb he hpl, sndC L ha.snd⟩
theorem ve_callTy {w : List D → (D → Prop) → Prop} (hc : CallR X (.type T) r) (L : LiftC K r w) (hg : Gl X x) (hm : X.mg x = none) (hv : bootBuiltins x = some (.type T)) (ha : VA K X false (e :: es) tr vr) (hn : x ≠ "__name__" := by decide) (hdb : (x == ("__debug__" : Str)) = false := by decide)
    (he : starEach (e :: es) X.env = (false, eval e X.env) :: starEach es X.env := by rfl) (hpl : (backTo pos (starEach es X.env)).any (·.1) = false := by rfl) : VE K X m (.Call (.Name x p) (e :: es) [] pos) (tCB r tr) (vCB w vr) := ⟨pe_callTy hc hg hm hv ha.pe hn hdb he hpl, sndC L ha.snd⟩
theorem rep1 {N : AP} {F : FP} {H : Hp} {xs : List V} {d : D} (h : Reps K N F H xs [d]) : ∃ v, xs = [v] ∧ Rep K N F H v d := by
  cases h with | cons h t => cases t; exact ⟨_, rfl, h⟩
theorem rep2 {N : AP} {F : FP} {H : Hp} {xs : List V} {d d' : D} (h : Reps K N F H xs [d, d']) : ∃ v u, xs = [v, u] ∧ Rep K N F H v d ∧ Rep K N F H u d' := by
  cases h with | cons h t => cases t with | cons h' t => cases t; exact ⟨_, _, rfl, h, h'⟩
def wLen : List D → (D → Prop) → Prop := fun ds q => ∃ es, (ds = [.lst es] ∨ ds = [.tup es]) ∧ q (.int es.length)
theorem l_len : LiftC K (fun xs H Q => ∃ p ys, xs = [.ref p] ∧ (SqL K H p ys ∨ SqT K H p ys) ∧ Q (.int ys.length) H) wLen := by
  rintro xs H ds q C r ⟨es, rfl | rfl, h⟩ hc
  · obtain ⟨v, rfl, rv⟩ := rep1 r
    obtain ⟨a, vs, rfl, hq, rr⟩ := rv.sqL
    exact ⟨a, vs, rfl, .inl hq, by rw [rr.length]; exact hc _ _ h fun _ _ => .int _⟩
  · obtain ⟨v, rfl, rv⟩ := rep1 r
    obtain ⟨a, vs, rfl, hq, rr⟩ := rv.sqT
    exact ⟨a, vs, rfl, .inr hq, by rw [rr.length]; exact hc _ _ h fun _ _ => .int _⟩
def tyD : D → String
  | .int _ => "int" | .bl _ => "bool" | .non => "NoneType" | .str _ => "str" | .tup _ => "tuple" | .lst _ => "list" | .ty _ => "type" | .dic _ _ => "dict" | .exc _ => ""
def isE : D → Bool
  | .exc _ => true
  | _ => false
def wIsi : List D → (D → Prop) → Prop := fun ds q => ∃ x c b, ds = [x, .ty c] ∧ (∀ n, x ≠ .ty n) ∧ isE x = false ∧ isiB (tyD x) c = some b ∧ q (.bl b)
theorem l_isi : LiftC K (rIsi K) wIsi := by
  rintro xs H ds q C r ⟨x, c, b, rfl, hn, hE, e, h⟩ hc
  obtain ⟨v, u, rfl, rv, ru⟩ := rep2 r
  cases ru
  refine ⟨v, tyD x, c, b, rfl, ?_, e, hc _ _ h fun _ _ => .bl _⟩
  cases rv with
  | int i => exact .int i
  | bl i => exact .bl i
  | non => exact .non
  | str i => exact .str i
  | ty i => exact (hn _ rfl).elim
  | tup n h r => exact .tup (.inl h)
  | tupK h r => exact .tup (sqT_none h)
  | lst n f h r => exact .lst (.inl (.inl h))
  | lstF n f h r => exact .lst (.inl (.inr ⟨_, h⟩))
  | lstK f h r => exact .lst (sqL_none h)
  | dic n f h e _ r => exact .dE h
  | exc n h e => cases hE
theorem RepRs.one {F : FP} {Z : AP} {σ : St} {S : List Sl} {H : Hp} {vs : List V} {r : VR} (h : RepRs K F Z σ S H vs [r]) : ∃ v, vs = [v] ∧ RepR K F Z σ S H v r := by
  cases h with | cons h t => cases t; exact ⟨_, rfl, h⟩
theorem flats_new {H0 H : Hp} {Z : AP} {σ : St} {S : List Sl} {F : FP} {p : Addr} {vs : List V} {ds : List D} {o : HO} (hp : H p = none) (h : Reps K (NM Z σ S) F H vs ds) (f : flats ds = true) : Reps K (fun b => NM Z σ S b ∧ b ≠ p) (Fr H0) (upd H p o) vs ds :=
  reps_new hp (Reps.flat h f)
def vTupOf (vr : VTA) : VT := fun S Q => vr S fun rs S1 => ∃ r ds, rs = [r] ∧ (get S1 r = some (.lst ds) ∨ r = .d (.tup ds)) ∧ flats ds = true ∧ Q (.d (.tup ds)) S1
theorem ve_tupleOf (hK : X.K = K) (hg : Gl X "tuple") (hm : X.mg "tuple" = none) (ha : VA K X false [e] tr vr) (he : starEach [e] X.env = [(false, eval e X.env)] := by rfl) :
    VE K X m (.Call (.Name "tuple" p) [e] [] pos) (tCB (fun xs H Q => ∃ p ys, xs = [.ref p] ∧ ((SqL K H p ys ∧ ∀ l, H l = none → Q (.ref l) (upd H l (.tup ys))) ∨ (SqT K H p ys ∧ Q (.ref p) H))) tr) (vTupOf vr) :=
  ⟨by subst hK; exact pe_callTy call_tuple_of hg hm bt_tuple ha.pe (by decide) (by decide) he rfl, fun H0 Z σ H S Q C k t hc => ha.snd H0 Z σ H S _ _ k t fun vs H1 rs S1 k1 st1 rrs zq1 => by
    obtain ⟨r, ds, e1, e2, f, q⟩ := zq1
    subst e1
    obtain ⟨v, rfl, rv⟩ := rrs.one
    rcases e2 with e2 | e2
    · obtain ⟨a, ys, rfl, hq, rr⟩ := rv.elems k1 e2
      refine ⟨a, ys, rfl, .inl ⟨hq, fun l hl => ?_⟩⟩
      have g := upd_grow (o := .tup ys) hl
      exact hc _ _ (.d (.tup ds)) S1 (k1.grow g) (st1.trans (.grow g)) (Rep.tup (k1.nm hl) (.inl upd_same) ((Reps.flat rr f).mono (fun a n e => ⟨n, g a e⟩) fun _ x => x)) q
    · subst e2
      obtain ⟨a, ys, rfl, hq, rr⟩ := Rep.sqT (show Rep K _ _ H1 v (.tup ds) from rv)
      refine ⟨a, ys, rfl, .inr ⟨hq, hc _ _ (.d (.tup ds)) S1 k1 st1 ?_ q⟩⟩
      exact Rep.flat (show Rep K _ _ H1 _ (.tup ds) from rv) (by simpa [flat] using f)⟩
@[reducible] def eT (ms : List Int) : D := .tup (ms.map .int)
theorem flats_ints : ∀ ms : List Int, flats (ms.map D.int) = true
  | [] => rfl
  | _ :: r => by simp [flats, flat, flats_ints r]
end
def spP (K : PySem.W.Frag) (p : List D → (D → Prop) → Prop) : Sp := fun vs H Q _ => ∃ ds R, Reps K Any AnyF H vs ds ∧ p ds R ∧ ∀ d v H', R d → (∀ a, H a ≠ none → H' a = H a) → Rep K Any (Fr H) H' v d → Q v H'
def spI (K : PySem.W.Frag) (j : Nat) (p : List Int → List D → (D → List Int → Prop) → Prop) : Sp := fun vs H Q _ => ∃ a ws us ns ds es R, vs = ws ++ .ref a :: us ∧ ws.length = j ∧ H a = some (.lst (ns.map .int)) ∧ Reps K (· ≠ a) AnyF H ws ds ∧ Reps K (· ≠ a) AnyF H us es ∧ p ns (ds ++ es) R ∧
  ∀ d ns' v H', R d ns' → (∀ b, b ≠ a → H b ≠ none → H' b = H b) → H' a = some (.lst (ns'.map .int)) → Rep K (· ≠ a) (Fr H) H' v d → Q v H'
section
variable {es : List Expr} {tr : TA} {vr : VTA} {x : Str} {p0 : Pos} {j k : Nat} {ps : List Str}
def vFn (p : List D → (D → Prop) → Prop) (vr : VTA) : VT := fun S Q => vr S fun rs S1 => ∃ ds, gets S1 rs = some ds ∧ p ds fun d => Q (.d d) S1
def vFnN (p : List D → (D → Prop) → Prop) (vr : VTA) : VTN := fun S Q => vr S fun rs S1 => ∃ ds, gets S1 rs = some ds ∧ p ds fun d => ∃ es, d = .lst es ∧ flats es = true ∧ Q es S1
theorem ve_fn {p : List D → (D → Prop) → Prop} (E : Has X.prog X.w X.K X.mg X.base k x ps (spP K p)) (hr : Room j X.A) (ha : VA K X false (e :: es) tr vr)
    (hk : k ≤ j := by decide) (hg : Gl X x := by rfl) (hdb : (x == ("__debug__" : Str)) = false := by decide) (he : starEach (e :: es) X.env = (false, eval e X.env) :: starEach es X.env := by rfl)
    (hpl : (backTo pos (starEach es X.env)).any (·.1) = false := by rfl) : VE K X m (.Call (.Name x p0) (e :: es) [] pos) (tCall (spP K p) [] E0 tr) (vFn p vr) := ⟨pe_fn E hr ha.pe hk hg hdb he hpl, fun H0 Z σ H S Q C k t hc =>
  ha.snd H0 Z σ H S _ _ k t fun vs H1 rs S1 k1 st1 rrs zq1 => by
    obtain ⟨ds, e, q⟩ := zq1
    refine ⟨ds, _, by rw [List.append_nil]; exact rrs.gets k1 e, q, fun d v H' q g r => ?_⟩
    refine hc v H' (.d d) S1 (k1.grow g) (st1.trans (.grow g)) (show Rep K _ _ H' v d from ?_) q
    refine (Rep.avoid (N' := NM Z σ S1) (fun a z => ?_) (fun a zq1 => by obtain ⟨b, e, f⟩ := zq1; cases e; exact k1.nm f) r).mono (fun _ n _ => ⟨n, rfl⟩) (fun o ⟨b, e, f⟩ _ => ⟨b, e, k1.dom b f⟩)
    have e := k1.mo (Classical.not_not.mp z)
    rw [g a e.ne]; exact e⟩
theorem vn_fn {p : List D → (D → Prop) → Prop} (E : Has X.prog X.w X.K X.mg X.base k x ps (spP K p)) (hr : Room j X.A) (ha : VA K X false (e :: es) tr vr)
    (hk : k ≤ j := by decide) (hg : Gl X x := by rfl) (hdb : (x == ("__debug__" : Str)) = false := by decide) (he : starEach (e :: es) X.env = (false, eval e X.env) :: starEach es X.env := by rfl)
    (hpl : (backTo pos (starEach es X.env)).any (·.1) = false := by rfl) : VN K X (.Call (.Name x p0) (e :: es) [] pos) (tCall (spP K p) [] E0 tr) (vFnN p vr) := ⟨pe_fn E hr ha.pe hk hg hdb he hpl, fun H0 Z σ H S Q C k t hc =>
  ha.snd H0 Z σ H S _ _ k t fun vs H1 rs S1 k1 st1 rrs zq1 => by
    obtain ⟨ds, e, q⟩ := zq1
    refine ⟨ds, _, by rw [List.append_nil]; exact rrs.gets k1 e, q, fun d v H' ⟨es, ed, hf, q⟩ g r => ?_⟩
    subst ed
    have r2 := Rep.avoid (N' := NM Z σ S1) (fun a z => by
      have e := k1.mo (Classical.not_not.mp z)
      rw [g a e.ne]; exact e) (fun a zq1 => by obtain ⟨b, e, f⟩ := zq1; cases e; exact k1.nm f) r
    cases r2 with
    | @lst a ws _ n f h rs =>
      obtain ⟨b, e, f⟩ := f
      cases e
      refine hc a ws es H1 H' S1 k1 st1 f g h ?_ q
      refine (Reps.avoid (N' := fun b => NM Z σ S1 b ∧ b ≠ a) (fun b z => ?_) (fun b fb => fb.elim) (Reps.flat (F' := fun _ => False) rs hf)).mono (fun _ n _ => ⟨n, rfl⟩) (fun o f => f.elim)
      by_cases hb : b = a
      · subst hb; rw [h]; trivial
      · have e := k1.mo (Classical.byContradiction fun y => z ⟨y, hb⟩)
        rw [g b e.ne]; exact e
    | lstF n f h rs => obtain ⟨b, e, f⟩ := f; cases e
    | lstK f h rs => obtain ⟨b, e, f⟩ := f; cases e⟩
end
end
end VL
end
section
set_option maxHeartbeats 4000000
namespace VL
open PySem L2
section
variable {K : PySem.W.Frag} {H H' H0 : Hp} {Z : AP} {σ : St} {S : List Sl}
theorem OK.put (k : OK K H0 Z σ H S) {i : Nat} {o : Option V} {s : Sl} (hi : i < S.length)
    (hN : ∀ a, NM Z σ S a → H a ≠ none → NM Z (σ.set i o) (S.set i s) a ∧ H' a = H a)
    (hM : ∀ j s', j ≠ i → S[j]? = some s' → s'.mut = true → ∀ a, σ[j]? = some (some (V.ref a)) → H' a = H a)
    (hs : SlOk K H0 (NM Z (σ.set i o) (S.set i s)) H' o s)
    (hj : ∀ j a t, j ≠ i → S[j]? = some t → t.mut = true → s.mut = true → o = some (V.ref a) → σ[j]? ≠ some (some (V.ref a)))
    (hd : ∀ a, H' a = none → H a = none) (hz : ∀ a, Z a → IsM (H' a)) (hnz : ∀ a, s.mut = true → o = some (V.ref a) → ¬Z a) : OK K H0 Z (σ.set i o) H' (S.set i s) where
  len := by simp [k.len]
  dom := fun a e => k.dom a (hd a e)
  zl := hz
  nz := fun j t a h1 h2 h3 => by
    have hi' : i < σ.length := by rw [k.len]; exact hi
    by_cases hji : i = j
    · subst hji
      rw [List.getElem?_set_self hi] at h1
      rw [List.getElem?_set_self hi'] at h3
      cases h1
      exact hnz a h2 (Option.some.inj h3)
    · rw [List.getElem?_set_ne hji] at h1 h3
      exact k.nz j t a h1 h2 h3
  inj := fun a b c t u h1 h2 m1 m2 h3 h4 => by
    have hi' : i < σ.length := by rw [k.len]; exact hi
    by_cases ha : i = a
    · by_cases hb : i = b
      · lia
      · subst ha
        rw [List.getElem?_set_self hi] at h1
        rw [List.getElem?_set_self hi'] at h3
        rw [List.getElem?_set_ne hb] at h2 h4
        cases h1
        exact (hj b c u (fun z => hb z.symm) h2 m2 m1 (Option.some.inj h3) h4).elim
    · by_cases hb : i = b
      · subst hb
        rw [List.getElem?_set_self hi] at h2
        rw [List.getElem?_set_self hi'] at h4
        rw [List.getElem?_set_ne ha] at h1 h3
        cases h2
        exact (hj a c t (fun z => ha z.symm) h1 m1 m2 (Option.some.inj h4) h3).elim
      · rw [List.getElem?_set_ne ha] at h1 h3
        rw [List.getElem?_set_ne hb] at h2 h4
        exact k.inj a b c t u h1 h2 m1 m2 h3 h4
  at_ := fun j o' s' h1 h2 => by
    have hi' : i < σ.length := by rw [k.len]; exact hi
    by_cases hji : i = j
    · subst hji
      rw [List.getElem?_set_self hi'] at h1
      rw [List.getElem?_set_self hi] at h2
      cases h1; cases h2
      exact hs
    · rw [List.getElem?_set_ne hji] at h1 h2
      have q := k.at_ j o' s' h1 h2
      cases s' with
      | no => trivial
      | val d => obtain ⟨v, e, r⟩ := q; exact ⟨v, e, r.mono hN fun _ x => x⟩
      | fre d => obtain ⟨v, e, r⟩ := q; exact ⟨v, e, r.mono hN fun _ x => x⟩
      | own ds =>
        obtain ⟨a, vs, e, e', e0, r⟩ := q
        exact ⟨a, vs, e, by rw [hM j _ (fun z => hji z.symm) h2 rfl a (by rw [h1, e])]; exact e', e0, r.mono hN fun _ x => x⟩
      | pen ad ns =>
        obtain ⟨a, e, e1, e'⟩ := q
        exact ⟨a, e, e1, by rw [hM j _ (fun z => hji z.symm) h2 rfl a (by rw [h1, e])]; exact e'⟩
      | odi ks ds =>
        obtain ⟨a, vs, e, e', e0, ek, r⟩ := q
        exact ⟨a, vs, e, by rw [hM j _ (fun z => hji z.symm) h2 rfl a (by rw [h1, e])]; exact e', e0, ⟨ek.1, ek.2.mono hN fun _ x => x⟩, r.mono hN fun _ x => x⟩
theorem mo_put {i : Nat} {o : Option V} {s : Sl} {a : Addr} (h : Mo Z (σ.set i o) (S.set i s) a) : Mo Z σ S a ∨ (s.mut = true ∧ o = some (V.ref a)) := by
  rcases h with ⟨j, t, h1, h2, h3⟩ | h
  · by_cases hji : i = j
    · subst hji
      have l1 := (List.getElem?_eq_some_iff.mp h1).1
      have l2 := (List.getElem?_eq_some_iff.mp h3).1
      rw [List.length_set] at l1 l2
      rw [List.getElem?_set_self l1] at h1
      rw [List.getElem?_set_self l2] at h3
      cases h1
      exact .inr ⟨h2, Option.some.inj h3⟩
    · rw [List.getElem?_set_ne hji] at h1 h3
      exact .inl (.inl ⟨j, t, h1, h2, h3⟩)
  · exact .inl (.inr h)
theorem OK.setVal (k : OK K H0 Z σ H S) {i : Nat} {v : V} {d : D} (hi : i < S.length) (h : Rep K (NM Z σ S) AnyF H v d) : OK K H0 Z (σ.set i (some v)) H (S.set i (.val d)) ∧ Step Z σ S H (σ.set i (some v)) (S.set i (.val d)) H := by
  have n : ∀ a, NM Z σ S a → NM Z (σ.set i (some v)) (S.set i (.val d)) a := fun a x z => by
    rcases mo_put z with z | ⟨z, _⟩
    · exact x z
    · cases z
  exact ⟨k.put hi (fun a x _ => ⟨n a x, rfl⟩) (fun _ _ _ _ _ _ _ => rfl) ⟨v, rfl, h.mono (fun a x _ => ⟨n a x, rfl⟩) fun _ x => x⟩ (fun _ _ _ _ _ _ z => nomatch z) (fun _ e => e) k.zl (fun _ z => nomatch z), fun a x _ => ⟨rfl, n a x⟩, fun _ e => e, fun _ _ _ => rfl⟩
theorem OK.setNew (k : OK K H0 Z σ H S) {i : Nat} {a : Addr} {s : Sl} (hi : i < S.length) (ha : H a = none) (hg : ∀ b, H b ≠ none → H' b = H b) (hs : SlOk K H0 (fun b => NM Z σ S b ∧ b ≠ a) H' (some (.ref a)) s) (hm : s.mut = true) :
    OK K H0 Z (σ.set i (some (.ref a))) H' (S.set i s) ∧ Step Z σ S H (σ.set i (some (.ref a))) (S.set i s) H' := by
  have n : ∀ b, NM Z σ S b ∧ b ≠ a → NM Z (σ.set i (some (.ref a))) (S.set i s) b := fun b x z => by
    rcases mo_put z with z | ⟨_, z⟩
    · exact x.1 z
    · cases z; exact x.2 rfl
  have n' : ∀ b, NM Z σ S b → H b ≠ none → NM Z (σ.set i (some (.ref a))) (S.set i s) b := fun b x e => n b ⟨x, fun z => e (by rw [z]; exact ha)⟩
  refine ⟨k.put hi (fun b x e => ⟨n' b x e, hg b e⟩) (fun j s' hj h1 h2 b h3 => ?_) ?_ (fun j b t hj h1 h2 h3 h4 h5 => ?_) (fun b e => Classical.byContradiction fun z => by rw [hg b z] at e; exact z e) (fun b z => ?_) (fun b h1 h2 z => ?_), fun b x e => ⟨hg b e, n' b x e⟩, fun b e => Classical.byContradiction fun z => by rw [hg b z] at e; exact z e, fun b z e => hg b e⟩
  · have e := k.mo (.inl ⟨j, s', h1, h2, h3⟩)
    exact hg b e.ne
  · cases s with
    | no => trivial
    | val d => cases hm
    | fre d => cases hm
    | own ds => obtain ⟨b, vs, e, e', e0, r⟩ := hs; exact ⟨b, vs, e, e', e0, r.mono (fun c x _ => ⟨n c x, rfl⟩) fun _ x => x⟩
    | pen ad ns => exact hs
    | odi ks ds => obtain ⟨b, vs, e, e', e0, ek, r⟩ := hs; exact ⟨b, vs, e, e', e0, ⟨ek.1, ek.2.mono (fun c x _ => ⟨n c x, rfl⟩) fun _ x => x⟩, r.mono (fun c x _ => ⟨n c x, rfl⟩) fun _ x => x⟩
  · cases h4
    have e := k.mo (.inl ⟨j, t, h1, h2, h5⟩)
    rw [ha] at e; exact e
  · have e := k.zl b z
    rw [hg b e.ne]; exact e
  · cases h2
    have e := k.zl _ z
    rw [ha] at e; exact e
theorem set_self {α : Type} {l : List α} {i : Nat} {o : α} (h : l[i]? = some o) : l.set i o = l := by
  obtain ⟨h1, rfl⟩ := List.getElem?_eq_some_iff.mp h
  exact List.set_getElem_self h1
theorem OK.chgD (k : OK K H0 Z σ H S) {i : Nat} {a : Addr} {s₀ s : Sl} {o : HO} (h1 : S[i]? = some s₀) (h2 : s₀.mut = true) (h3 : σ[i]? = some (some (.ref a))) (hm : s.mut = true) (hs : SlOk K H0 (NM Z σ S) (upd H a o) (some (.ref a)) s) :
    OK K H0 Z σ (upd H a o) (S.set i s) ∧ Step Z σ S H σ (S.set i s) (upd H a o) := by
  have hi : i < S.length := (List.getElem?_eq_some_iff.mp h1).1
  have ma : Mo Z σ S a := .inl ⟨i, s₀, h1, h2, h3⟩
  have ea := k.mo ma
  have hza : ¬Z a := k.nz i s₀ a h1 h2 h3
  have e3 := set_self h3
  have n : ∀ b, NM Z σ S b → NM Z σ (S.set i s) b := fun b x z => by
    rw [← e3] at z
    rcases mo_put z with z | ⟨_, z⟩
    · exact x z
    · cases z; exact x ma
  have ne : ∀ b, NM Z σ S b → b ≠ a := fun b x z => x (by rw [z]; exact ma)
  have q := k.put (H' := upd H a o) (i := i) (o := some (.ref a)) (s := s) hi (fun b x e => ⟨by rw [e3]; exact n b x, upd_ne (ne b x)⟩) (fun j s' hj g1 g2 b g3 => upd_ne fun z => hj (by subst z; exact k.inj j i b s' s₀ g1 h1 g2 h2 g3 h3)) (by
    rw [e3]
    cases s with
    | no => trivial
    | val d => cases hm
    | fre d => cases hm
    | own ds => obtain ⟨b, vs, e, e', e0, r⟩ := hs; exact ⟨b, vs, e, e', e0, r.mono (fun c x _ => ⟨n c x, rfl⟩) fun _ x => x⟩
    | pen ad ns => exact hs
    | odi ks ds => obtain ⟨b, vs, e, e', e0, ek, r⟩ := hs; exact ⟨b, vs, e, e', e0, ⟨ek.1, ek.2.mono (fun c x _ => ⟨n c x, rfl⟩) fun _ x => x⟩, r.mono (fun c x _ => ⟨n c x, rfl⟩) fun _ x => x⟩) (fun j b t hj g1 g2 g3 g4 g5 => by
      cases g4
      exact hj (k.inj j i a t s₀ g1 h1 g2 h2 g5 h3)) (fun b e => by
      by_cases hb : b = a
      · subst hb; rw [upd_same] at e; cases e
      · rw [upd_ne hb] at e; exact e) (fun b z => by
      by_cases hb : b = a
      · subst hb; exact (hza z).elim
      · have e := k.zl b z
        rw [upd_ne hb]; exact e) (fun b _ e => by cases e; exact hza)
  rw [e3] at q
  refine ⟨q, fun b x e => ⟨upd_ne (ne b x), n b x⟩, fun b e => ?_, fun b z e => upd_ne fun y => hza (by rw [← y]; exact z)⟩
  by_cases hb : b = a
  · subst hb; rw [upd_same] at e; cases e
  · rw [upd_ne hb] at e; exact e
theorem OK.chg (k : OK K H0 Z σ H S) {i : Nat} {a : Addr} {s₀ s : Sl} {o : HO} (h1 : S[i]? = some s₀) (h2 : s₀.mut = true) (h3 : σ[i]? = some (some (.ref a))) (ho : ∃ us, o = .lst us) (hm : s.mut = true) (hs : SlOk K H0 (NM Z σ S) (upd H a o) (some (.ref a)) s) :
    OK K H0 Z σ (upd H a o) (S.set i s) ∧ Step Z σ S H σ (S.set i s) (upd H a o) := k.chgD h1 h2 h3 hm hs
end
structure VEnds where
  nx : List Sl → Prop
  rt : D → List Sl → Prop
  bk : List Sl → Prop := fun _ => False
  ct : List Sl → Prop := fun _ => False
abbrev VTS := VEnds → List Sl → Prop
def NP (σ : St) (S : List Sl) : AP := fun a => ∀ (i : Nat) (ad : Option Addr) (ns : List Int), S[i]? = some (.pen ad ns) → σ[i]? ≠ some (some (V.ref a))
structure Lf (K : PySem.W.Frag) (H0 : Hp) (Z : AP) (σ : St) (S : List Sl) (H : Hp) (V : VEnds) (E : Ends) : Prop where
  nx : ∀ σ' H' S', OK K H0 Z σ' H' S' → Step Z σ S H σ' S' H' → V.nx S' → E.nx σ' H'
  bk : ∀ σ' H' S', OK K H0 Z σ' H' S' → Step Z σ S H σ' S' H' → V.bk S' → E.bk σ' H'
  ct : ∀ σ' H' S', OK K H0 Z σ' H' S' → Step Z σ S H σ' S' H' → V.ct S' → E.ct σ' H'
  rt : ∀ v d σ' H' S', OK K H0 Z σ' H' S' → Step Z σ S H σ' S' H' → Rep K (NP σ' S') (Fr H0) H' v d → V.rt d S' → E.rt v H'
theorem Lf.step {K : PySem.W.Frag} {H0 H H1 : Hp} {Z : AP} {σ σ1 : St} {S S1 : List Sl} {V : VEnds} {E : Ends} (l : Lf K H0 Z σ S H V E) (st : Step Z σ S H σ1 S1 H1) : Lf K H0 Z σ1 S1 H1 V E :=
  ⟨fun _ _ _ k s => l.nx _ _ _ k (st.trans s), fun _ _ _ k s => l.bk _ _ _ k (st.trans s), fun _ _ _ k s => l.ct _ _ _ k (st.trans s), fun _ _ _ _ _ k s => l.rt _ _ _ _ _ k (st.trans s)⟩
def SndS (K : PySem.W.Frag) (ts : TS) (t : VTS) : Prop := ∀ H0 Z σ H S V E, OK K H0 Z σ H S → t V S → Lf K H0 Z σ S H V E → ts E σ H
structure VS (K : PySem.W.Frag) (X : Cx) (st : Stmt) (ts : TS) (t : VTS) : Prop where
  ps : PS X st ts
  snd : SndS K ts t
structure VSs (K : PySem.W.Frag) (X : Cx) (st : List Stmt) (ts : TS) (t : VTS) : Prop where
  ps : PSs X st ts
  snd : SndS K ts t
inductive Wk : List Sl → List Sl → Prop where
  | nil : Wk [] []
  | keep {s : Sl} {S S' : List Sl} : Wk S S' → Wk (s :: S) (s :: S')
  | fz {ds : List D} {S S' : List Sl} : Wk S S' → Wk (.own ds :: S) (.val (.lst ds) :: S')
  | fd {ks : List (List Int)} {ds : List D} {S S' : List Sl} : Wk S S' → Wk (.odi ks ds :: S) (.val (.dic ks ds) :: S')
  | drop {s : Sl} {S S' : List Sl} : Wk S S' → Wk (s :: S) (.no :: S')
theorem Wk.refl : ∀ S, Wk S S
  | [] => .nil
  | _ :: r => .keep (Wk.refl r)
theorem Wk.len {S S' : List Sl} (h : Wk S S') : S.length = S'.length := by induction h <;> simp_all
theorem Wk.at_ {S S' : List Sl} (h : Wk S S') : ∀ {i : Nat} {s : Sl}, S'[i]? = some s → ∃ s₀, S[i]? = some s₀ ∧ (s = s₀ ∨ s = .no ∨ (∃ ds, s₀ = .own ds ∧ s = .val (.lst ds)) ∨ ∃ ks ds, s₀ = .odi ks ds ∧ s = .val (.dic ks ds)) := by
  induction h with
  | nil => intro i s h; simp at h
  | keep h ih =>
    intro i s e
    cases i with
    | zero => simp at e; subst e; exact ⟨_, rfl, .inl rfl⟩
    | succ i => simpa using ih (i := i) (by simpa using e)
  | fz h ih =>
    intro i s e
    cases i with
    | zero => simp at e; subst e; exact ⟨_, rfl, .inr (.inr (.inl ⟨_, rfl, rfl⟩))⟩
    | succ i => simpa using ih (i := i) (by simpa using e)
  | fd h ih =>
    intro i s e
    cases i with
    | zero => simp at e; subst e; exact ⟨_, rfl, .inr (.inr (.inr ⟨_, _, rfl, rfl⟩))⟩
    | succ i => simpa using ih (i := i) (by simpa using e)
  | drop h ih =>
    intro i s e
    cases i with
    | zero => simp at e; subst e; exact ⟨_, rfl, .inr (.inl rfl)⟩
    | succ i => simpa using ih (i := i) (by simpa using e)
theorem Wk.mut {S S' : List Sl} (h : Wk S S') {i : Nat} {s : Sl} (e : S'[i]? = some s) (m : s.mut = true) : S[i]? = some s := by
  obtain ⟨s₀, h1, rfl | rfl | ⟨ds, rfl, rfl⟩ | ⟨ks, ds, rfl, rfl⟩⟩ := h.at_ e
  · exact h1
  · cases m
  · cases m
  · cases m
theorem OK.wk {K : PySem.W.Frag} {H H0 : Hp} {Z : AP} {σ : St} {S S' : List Sl} (k : OK K H0 Z σ H S) (w : Wk S S') : OK K H0 Z σ H S' ∧ Step Z σ S H σ S' H := by
  have n : ∀ a, NM Z σ S a → NM Z σ S' a := fun a x z => by
    rcases z with ⟨i, s, h1, h2, h3⟩ | z
    · exact x (.inl ⟨i, s, w.mut h1 h2, h2, h3⟩)
    · exact x (.inr z)
  refine ⟨⟨by rw [k.len, w.len], fun i o s h1 h2 => ?_, fun i j a s t h1 h2 m1 m2 h3 h4 => k.inj i j a s t (w.mut h1 m1) (w.mut h2 m2) m1 m2 h3 h4, k.dom, k.zl, fun i s a h1 m h3 => k.nz i s a (w.mut h1 m) m h3⟩, fun a x _ => ⟨rfl, n a x⟩, fun _ e => e, fun _ _ _ => rfl⟩
  obtain ⟨s₀, e, rfl | rfl | ⟨ds, rfl, rfl⟩ | ⟨ks, ds, rfl, rfl⟩⟩ := w.at_ h2
  · have q := k.at_ i o s h1 e
    cases s with
    | no => trivial
    | val d => obtain ⟨v, e, r⟩ := q; exact ⟨v, e, r.mono (fun a x _ => ⟨n a x, rfl⟩) fun _ x => x⟩
    | fre d => obtain ⟨v, e, r⟩ := q; exact ⟨v, e, r.mono (fun a x _ => ⟨n a x, rfl⟩) fun _ x => x⟩
    | own ds => obtain ⟨a, vs, e, e', e0, r⟩ := q; exact ⟨a, vs, e, e', e0, r.mono (fun a x _ => ⟨n a x, rfl⟩) fun _ x => x⟩
    | pen ad ns => exact q
    | odi ks ds => obtain ⟨a, vs, e, e', e0, ek, r⟩ := q; exact ⟨a, vs, e, e', e0, ⟨ek.1, ek.2.mono (fun a x _ => ⟨n a x, rfl⟩) fun _ x => x⟩, r.mono (fun a x _ => ⟨n a x, rfl⟩) fun _ x => x⟩
  · trivial
  · obtain ⟨a, vs, e1, e2, e3, r⟩ := k.at_ i o _ h1 e
    subst e1
    refine ⟨.ref a, rfl, .lst ?_ trivial e2 (r.mono (fun a x _ => ⟨n a x, rfl⟩) fun _ _ => trivial)⟩
    intro z
    rcases z with ⟨j, s, g1, g2, g3⟩ | z
    · have := k.inj i j a _ s e (w.mut g1 g2) rfl g2 h1 g3
      subst this
      rw [h2] at g1; cases g1; cases g2
    · exact k.nz i _ a e rfl h1 z
  · obtain ⟨a, vs, e1, ⟨ob, e2⟩, e3, ek, r⟩ := k.at_ i o _ h1 e
    subst e1
    refine ⟨.ref a, rfl, .dic ?_ trivial e2 ek.1 (ek.2.mono (fun a x _ => ⟨n a x, rfl⟩) fun _ _ => trivial) (r.mono (fun a x _ => ⟨n a x, rfl⟩) fun _ _ => trivial)⟩
    intro z
    rcases z with ⟨j, s, g1, g2, g3⟩ | z
    · have := k.inj i j a _ s e (w.mut g1 g2) rfl g2 h1 g3
      subst this
      rw [h2] at g1; cases g1; cases g2
    · exact k.nz i _ a e rfl h1 z
section
variable {K : PySem.W.Frag} {X : Cx} {m : Bool} {e a b c : Expr} {ta tb tc te : TE} {va vb vc : VT} {pos : Pos} {st : Stmt} {rest : List Stmt} {t u : TS} {v w : VTS}
def vNext : VTS := fun V S => V.nx S
def vSeq (t u : VTS) : VTS := fun V S => t { V with nx := fun S' => ∃ S'', Wk S' S'' ∧ u V S'' } S
theorem vss_nil : VSs K X [] tNext vNext := ⟨pss_nil, fun H0 Z σ H S V E k h l => l.nx σ H S k .refl h⟩
theorem vss_one (h : VS K X st t v) : VSs K X [st] t v := ⟨pss_one h.ps, h.snd⟩
theorem vss_cons (h1 : VS K X st t v) (h2 : VSs K X rest u w) : VSs K X (st :: rest) (tSeq t u) (vSeq v w) := ⟨pss_cons h1.ps h2.ps, fun H0 Z σ H S V E k h l =>
  h1.snd H0 Z σ H S _ _ k h ⟨fun σ' H' S' k' st ⟨S'', wk, q⟩ => h2.snd H0 Z σ' H' S'' V E (k'.wk wk).1 q (l.step (st.trans (k'.wk wk).2)), l.bk, l.ct, l.rt⟩⟩
def vNever : VTS := fun _ _ => False
theorem vs_never : VS K X st tNever vNever := ⟨ps_never, fun _ _ _ _ _ _ _ _ h _ => h.elim⟩
def vDrop (va : VT) : VTS := fun V S => va S fun _ S1 => V.nx S1
theorem vs_expr (h : VE K X false e te va) (hs : swapsWith e none pos.line X.env = pure false := by rfl) : VS K X (.Expr e pos) (tDrop te) (vDrop va) := ⟨ps_expr h.pe hs, fun H0 Z σ H S V E k t l => h.snd H0 Z σ H S _ _ k t fun v H' r S' k' st _ q => l.nx σ H' S' k' st q⟩
def retO : Option Sl → Option D
  | some (.own ds) => some (.lst ds)
  | some (.odi ks ds) => some (.dic ks ds)
  | _ => none
def retD (S : List Sl) : VR → Option D
  | .d x => some x
  | .own i => retO S[i]?
def vRet (va : VT) : VTS := fun V S => va S fun r S1 => ∃ d, retD S1 r = some d ∧ V.rt d S1
theorem OK.ret {H0 H : Hp} {Z : AP} {σ : St} {S : List Sl} {v : V} {r : VR} {d : D} (k : OK K H0 Z σ H S) (h : RepR K (FM H0 true) Z σ S H v r) (e : retD S r = some d) : Rep K (NP σ S) (Fr H0) H v d := by
  have np : ∀ a, NM Z σ S a → NP σ S a := fun a n i ad ns h1 h2 => n (.inl ⟨i, _, h1, rfl, h2⟩)
  cases r with
  | d x => cases e; exact Rep.mono (fun a n _ => ⟨np a n, rfl⟩) (fun _ x => x rfl) h
  | own i =>
    have h : σ[i]? = some (some v) := h
    have e : retO S[i]? = some d := e
    cases es : S[i]? with
    | none => rw [es] at e; cases e
    | some s =>
      rw [es] at e
      cases s with
      | fre d => cases e
      | own ds =>
        cases e
        obtain ⟨a, vs, h1, h2, h3, h4⟩ := k.at_ _ _ _ h es
        cases h1
        refine .lst (fun i2 ad ns g1 g2 => ?_) ⟨a, rfl, h3⟩ h2 (h4.mono (fun a n _ => ⟨np a n, rfl⟩) fun _ x => x)
        have := k.inj _ _ a _ _ es g1 rfl rfl h g2
        subst this
        rw [es] at g1; cases g1
      | odi ks ds =>
        cases e
        obtain ⟨a, vs, h1, ⟨ob, h2⟩, h3, hk, h4⟩ := k.at_ _ _ _ h es
        cases h1
        refine .dic (fun i2 ad ns g1 g2 => ?_) ⟨a, rfl, h3⟩ h2 hk.1 (Reps.flat (hk.2.mono (fun a n _ => ⟨np a n, rfl⟩) fun _ x => x) (flats_kT _)) (h4.mono (fun a n _ => ⟨np a n, rfl⟩) fun _ x => x)
        have := k.inj _ _ a _ _ es g1 rfl rfl h g2
        subst this
        rw [es] at g1; cases g1
      | no => cases e
      | val x => cases e
      | pen a b => cases e
theorem vs_ret (h : VE K X true e te va) : VS K X (.Return (some e) pos) (tRet te) (vRet va) := ⟨ps_ret h.pe, fun H0 Z σ H S V E k t l => h.snd H0 Z σ H S _ _ k t fun v H' r S' k' st rr ⟨d, e, q⟩ => l.rt v d σ H' S' k' st (k'.ret rr e) q⟩
def vIfS (c : VTT) (t u : VTS) : VTS := fun V S => c S fun b S1 => if b = true then t V S1 else u V S1
theorem vs_if {A B : List Stmt} {tA : TT} {wA : VTT} (hc : VTe K X c tA wA) (ha : VSs K X A t v) (hb : VSs K X B u w) : VS K X (.If c A B pos) (tIfS tA t u) (vIfS wA v w) := ⟨ps_if hc.pe ha.ps hb.ps, fun H0 Z σ H S V E k t l =>
  hc.snd H0 Z σ H S _ _ k t fun b H1 S1 k1 st1 q => by
    cases b with
    | true => rw [if_pos rfl] at q ⊢; exact ha.snd H0 Z σ H1 S1 V E k1 q (l.step st1)
    | false => rw [if_neg Bool.false_ne_true] at q ⊢; exact hb.snd H0 Z σ H1 S1 V E k1 q (l.step st1)⟩
abbrev VG := D → List Sl → (List Sl → Prop) → Prop
def SndG (K : PySem.W.Frag) (g : TG) (vg : VG) : Prop := ∀ H0 Z σ H S v d Q C, OK K H0 Z σ H S → Rep K (NM Z σ S) AnyF H v d → vg d S Q → (∀ σ' H' S', OK K H0 Z σ' H' S' → Step Z σ S H σ' S' H' → Q S' → C σ' H') → g v σ H C
def MonoG (g : TG) : Prop := ∀ x σ H Q1 Q2, (∀ σ H, Q1 σ H → Q2 σ H) → g x σ H Q1 → g x σ H Q2
def MonoGs (g : TGs) : Prop := ∀ x σ H Q1 Q2, (∀ σ H, Q1 σ H → Q2 σ H) → g x σ H Q1 → g x σ H Q2
structure VGe (K : PySem.W.Frag) (X : Cx) (e : Expr) (g : TG) (vg : VG) : Prop where
  pg : PG X e g
  snd : SndG K g vg
  mono : MonoG g
def vgN (i : Nat) : VG := fun d S Q => i < S.length ∧ Q (S.set i (.val d))
theorem vg_name {i : Nat} (h : PG X e (gName i)) : VGe K X e (gName i) (vgN i) := ⟨h, fun H0 Z σ H S v d Q C k r ⟨hi, q⟩ hc => hc _ _ _ (k.setVal hi r).1 (k.setVal hi r).2 q, fun _ _ _ _ _ h q => h _ _ q⟩
def SndGs (K : PySem.W.Frag) (g : TGs) (vg : List D → List Sl → (List Sl → Prop) → Prop) : Prop := ∀ H0 Z σ H S vs ds Q C, OK K H0 Z σ H S → Reps K (NM Z σ S) AnyF H vs ds → vg ds S Q → (∀ σ' H' S', OK K H0 Z σ' H' S' → Step Z σ S H σ' S' H' → Q S' → C σ' H') → g vs σ H C
structure VGs (K : PySem.W.Frag) (X : Cx) (es : List Expr) (g : TGs) (vg : List D → List Sl → (List Sl → Prop) → Prop) : Prop where
  pg : PGs X es g
  snd : SndGs K g vg
  mono : MonoGs g
def vgNil : List D → List Sl → (List Sl → Prop) → Prop := fun ds S Q => ds = [] ∧ Q S
def vgCons (t : VG) (u : List D → List Sl → (List Sl → Prop) → Prop) : List D → List Sl → (List Sl → Prop) → Prop := fun ds S Q => ∃ d r, ds = d :: r ∧ t d S fun S1 => u r S1 Q
theorem vgs_nil : VGs K X [] gNil vgNil := ⟨pgs_nil, fun H0 Z σ H S vs ds Q C k r zq1 hc => by obtain ⟨e, q⟩ := zq1; subst e; cases r; exact ⟨rfl, hc _ _ _ k .refl q⟩, fun _ _ _ _ _ h q => ⟨q.1, h _ _ q.2⟩⟩
theorem vgs_cons {es : List Expr} {g : TG} {gs : TGs} {vg : VG} {vgs : List D → List Sl → (List Sl → Prop) → Prop} (h1 : VGe K X e g vg) (h2 : VGs K X es gs vgs) (hs : (assignEach (e :: es) X.env).map (·.2) = assign e X.env :: (assignEach es X.env).map (·.2) := by rfl) :
    VGs K X (e :: es) (gCons g gs) (vgCons vg vgs) := ⟨pgs_cons h1.pg h2.pg hs, fun H0 Z σ H S vs ds Q C k r zq1 hc => by
  obtain ⟨d, rd, e, q⟩ := zq1
  subst e
  cases r with
  | cons rv rr => exact ⟨_, _, rfl, h1.snd H0 Z σ H S _ _ _ _ k rv q fun σ1 H1 S1 k1 st1 q1 => h2.snd H0 Z σ1 H1 S1 _ _ _ _ k1 (rr.step st1) q1 fun σ2 H2 S2 k2 st2 q2 => hc _ _ _ k2 (st1.trans st2) q2⟩, fun x σ H Q1 Q2 h ⟨v, r, e, q⟩ => ⟨v, r, e, h1.mono _ _ _ _ _ (fun σ' H' q' => h2.mono _ _ _ _ _ h q') q⟩⟩
def vgT (n : Nat) (u : List D → List Sl → (List Sl → Prop) → Prop) : VG := fun d S Q => ∃ ds, d = .tup ds ∧ ds.length = n ∧ u ds S Q
theorem vg_tup {es : List Expr} {kk : Nat} {gs : TGs} {vgs : List D → List Sl → (List Sl → Prop) → Prop} {n : Nat} (hK : X.K = K) (hc : X.calm = true) (h : VGs K X es gs vgs) (hn : (assignEach es X.env).length = n := by rfl) (hst : (assignEach es X.env).findIdx? (·.1) = none := by rfl) :
    VGe K X (.Tuple es kk pos) (gTup K n gs) (vgT n vgs) := ⟨by subst hK; exact pg_tup hc h.pg hn hst, fun H0 Z σ H S v d Q C k r zq1 hcc => by
  obtain ⟨ds, e, hl, q⟩ := zq1
  subst e
  obtain ⟨a, vs, rfl, hq, rr⟩ := r.sqT
  exact ⟨a, vs, rfl, hq, by rw [rr.length]; exact hl, h.snd H0 Z σ H S _ _ _ _ k rr q hcc⟩, fun x σ H Q1 Q2 hh ⟨a, xs, e1, e2, e3, q⟩ => ⟨a, xs, e1, e2, e3, h.mono _ _ _ _ _ hh q⟩⟩
def vAsg (va : VT) (g : VG) : VTS := fun V S => va S fun r S1 => ∃ d, r = .d d ∧ g d S1 V.nx
theorem sndAsg {g : TG} {vg : VG} (ha : SndE K m te va) (hg : SndG K g vg) : SndS K (tAsg te g) (vAsg va vg) := fun H0 Z σ H S V E k t l => ha H0 Z σ H S _ _ k t fun v H1 r S1 k1 st1 rr zq1 => by
  obtain ⟨d, e, q⟩ := zq1
  subst e
  exact hg H0 Z σ H1 S1 v d _ _ k1 (Rep.mono (fun _ n _ => ⟨n, rfl⟩) (fun _ _ => trivial) rr) q fun σ2 H2 S2 k2 st2 q2 => l.nx σ2 H2 S2 k2 (st1.trans st2) q2
theorem vs_set {i : Nat} {x : Str} {pos' : Pos} (ps : ∀ te, PE X e te → PS X (.Assign [.Name x pos'] e pos) (tAsg te (gName i))) (h : VE K X false e te va) : VS K X (.Assign [.Name x pos'] e pos) (tAsg te (gName i)) (vAsg va (vgN i)) :=
  ⟨ps te h.pe, sndAsg h.snd fun H0 Z σ H S v d Q C k r ⟨hi, q⟩ hc => hc _ _ _ (k.setVal hi r).1 (k.setVal hi r).2 q⟩
theorem vs_asg {tg : Expr} {g : TG} {vg : VG} (h : VE K X false e te va) (hg : VGe K X tg g vg) (hs : swapsWithSole [tg] e pos.line X.env = pure false := by rfl) (hw : swappedStores [tg] e X.env = pure none := by rfl)
    (h1 : (assignEach [tg] X.env).map (·.2) = [assign tg X.env] := by rfl) : VS K X (.Assign [tg] e pos) (tAsg te g) (vAsg va vg) := ⟨ps_asg h.pe hg.pg hs hw h1, sndAsg h.snd hg.snd⟩
def vSetN (i : Nat) (t : VTN) : VTS := fun V S => t S fun ds S1 => i < S1.length ∧ V.nx (S1.set i (.own ds))
theorem vs_setN {i : Nat} {x : Str} {pos' : Pos} {tn : VTN} (ps : ∀ te, PE X e te → PS X (.Assign [.Name x pos'] e pos) (tAsg te (gName i))) (h : VN K X e te tn) : VS K X (.Assign [.Name x pos'] e pos) (tAsg te (gName i)) (vSetN i tn) :=
  ⟨ps te h.pe, fun H0 Z σ H S V E k t l => h.snd H0 Z σ H S _ _ k t fun a vs ds H1 H' S' k1 st1 ha hg hl rr zq1 => by
    obtain ⟨hi, q⟩ := zq1
    obtain ⟨k2, st2⟩ := k1.setNew (s := .own ds) hi ha hg ⟨a, vs, rfl, hl, k1.dom a ha, rr⟩ rfl
    exact l.nx _ _ _ k2 (st1.trans st2) q⟩
def vSetP (i : Nat) (t : VTN) : VTS := fun V S => t S fun ds S1 => ∃ ns : List Int, ds = ns.map .int ∧ i < S1.length ∧ V.nx (S1.set i (.pen none ns))
theorem vs_setP {i : Nat} {x : Str} {pos' : Pos} {tn : VTN} (ps : ∀ te, PE X e te → PS X (.Assign [.Name x pos'] e pos) (tAsg te (gName i))) (h : VN K X e te tn) : VS K X (.Assign [.Name x pos'] e pos) (tAsg te (gName i)) (vSetP i tn) :=
  ⟨ps te h.pe, fun H0 Z σ H S V E k t l => h.snd H0 Z σ H S _ _ k t fun a vs ds H1 H' S' k1 st1 ha hg hl rr zq1 => by
    obtain ⟨ns, e, hi, q⟩ := zq1
    subst e
    obtain ⟨k2, st2⟩ := k1.setNew (s := .pen none ns) hi ha hg ⟨a, rfl, (fun _ z => nomatch z), by rw [← Reps.toInts rr]; exact hl⟩ rfl
    exact l.nx _ _ _ k2 (st1.trans st2) q⟩
end
end VL
end
section
set_option maxHeartbeats 4000000
namespace VL
open PySem L2
section
variable {K : PySem.W.Frag} {X : Cx} {m : Bool} {e a b c : Expr} {ta tb tc te ti : TE} {va vb vc vi : VT} {pos : Pos} {st : Stmt} {rest : List Stmt} {t u : TS} {v w : VTS}
theorem OK.ownAt {H0 H : Hp} {Z : AP} {σ : St} {S : List Sl} (k : OK K H0 Z σ H S) {i : Nat} {s : Sl} (e : S[i]? = some s) : ∃ o, σ[i]? = some o ∧ SlOk K H0 (NM Z σ S) H o s := by
  have hi : i < σ.length := by rw [k.len]; exact (List.getElem?_eq_some_iff.mp e).1
  exact ⟨_, List.getElem?_eq_getElem hi, k.at_ i _ s (List.getElem?_eq_getElem hi) e⟩
def vApp (i : Nat) (ve : VT) : VT := fun S Q => (∃ ds, S[i]? = some (.own ds)) ∧ ve S fun r S1 => ∃ d ds, r = .d d ∧ S1[i]? = some (.own ds) ∧ ds.length ≤ 1000000 ∧ Q (.d .non) (S1.set i (.own (ds ++ [d])))
theorem mt_app {apos : Pos} {o : Expr} (i : Nat) (hK : X.K = K) (ho : PE X o (tVar i)) (h : VE K X true e te va) (pe : ∀ te, PE X e te → PE X (.Call (.Attribute o "append" apos) [e] [] pos) (tBM X.K "list" rAppend (tVar i) (tCons te tNil))) :
    VE K X m (.Call (.Attribute o "append" apos) [e] [] pos) (tBM K "list" rAppend (tVar i) (tCons te tNil)) (vApp i va) := ⟨by subst hK; exact pe te h.pe, fun H0 Z σ H S Q C k zq1 hc => by
  obtain ⟨⟨ds0, e0⟩, t⟩ := zq1
  obtain ⟨o, h1, a, vs, rfl, h2, h3, h4⟩ := k.ownAt e0
  refine ⟨.ref a, h1, .inl ⟨rfl, vs, .inl (.inl h2)⟩, ?_⟩
  refine h.snd H0 Z σ H S _ _ k t fun x H1 r S1 k1 st1 rr ⟨d, ds, er, e1, hl, q⟩ => ?_
  subst er
  obtain ⟨o', g1, a', vs', rfl, g2, g3, g4⟩ := k1.ownAt e1
  rw [h1] at g1; cases g1
  refine ⟨a, vs', x, rfl, rfl, g2, by rw [g4.length, sizeLine_eq]; lia, ?_⟩
  have na : NM Z σ S1 a → False := fun n => n (.inl ⟨i, _, e1, rfl, h1⟩)
  have hm : ∀ b, NM Z σ S1 b → H1 b ≠ none → NM Z σ S1 b ∧ upd H1 a (.lst (vs' ++ [x])) b = H1 b := fun b n _ => ⟨n, upd_ne fun z => na (by rw [← z]; exact n)⟩
  obtain ⟨k2, st2⟩ := k1.chg (s := .own (ds ++ [d])) (o := .lst (vs' ++ [x])) e1 rfl h1 ⟨_, rfl⟩ rfl ⟨a, _, rfl, upd_same, g3, Reps.append (g4.mono hm fun _ x => x) (.cons (Rep.mono hm (fun _ x => x rfl) rr) .nil)⟩
  exact hc .non _ (.d .non) _ k2 (st1.trans st2) Rep.non q⟩
theorem ve_app {apos : Pos} {o : Expr} (i : Nat) (hK : X.K = K) (ho : PE X o (tVar i)) (h : VE K X true e te va) (hbase : attributeBase o "append" X.env (eval o X.env) = eval o X.env := by rfl)
    (hfew : ((backTo pos (starEach (e :: []) X.env)).all (fun x => !x.1) && (backToKw pos (keywordEach [] X.env)).all (fun x => x.1.isSome)
      && decide ((e :: []).length + ([] : List Keyword).length + (if ([] : List Keyword).isEmpty then 0 else 1) < 30)) = true := by rfl)
    (hline : (apos.endLine == pos.line) = true := by rfl) (hs : starEach (e :: []) X.env = (false, eval e X.env) :: starEach [] X.env := by rfl) (hplain : (backTo pos (starEach [] X.env)).any (·.1) = false := by rfl) :
    VE K X m (.Call (.Attribute o "append" apos) [e] [] pos) (tBM K "list" rAppend (tVar i) (tCons te tNil)) (vApp i va) :=
  mt_app i hK ho h fun te hp => pe_bm PySem.F.plainAttrs_list PySem.F.slot_list_append PySem.F.type_list_append mt_append ho (pa_cons hp pa_nil hs) hbase hfew hline hs hplain
def vSetIx (i : Nat) (ve vi : VT) : VTS := fun V S => ve S fun r S1 => (∃ s, S1[i]? = some s ∧ s.mut = true) ∧ vi S1 fun ri S2 => ∃ j, get S2 ri = some (.int j) ∧
  ((∃ ad ns k n, S2[i]? = some (.pen ad ns) ∧ ixN ns.length j = some k ∧ r = .d (.int n) ∧ V.nx (S2.set i (.pen ad (ns.set k n)))) ∨
   (∃ ds k d, S2[i]? = some (.own ds) ∧ ixN ds.length j = some k ∧ r = .d d ∧ V.nx (S2.set i (.own (ds.set k d)))))
theorem vs_setIx {o ie : Expr} {posS : Pos} (i : Nat) (ho : PE X o (tVar i)) (h : VE K X true e te va) (hi : VE K X false ie ti vi)
    (ha : ∀ v, assign (.Subscript o ie posS) X.env v = (do
      let ov ← holding [v] (eval o X.env)
      let iv ← holding [v, ov] (eval ie X.env)
      standAt posS
      holding [v, ov, iv] (setItem ov iv v)
      release [v, ov, iv] []) := by intro _; rfl)
    (hs : swapsWithSole [.Subscript o ie posS] e pos.line X.env = pure false := by rfl) (hw : swappedStores [.Subscript o ie posS] e X.env = pure none := by rfl)
    (h1 : (assignEach [.Subscript o ie posS] X.env).map (·.2) = [assign (.Subscript o ie posS) X.env] := by rfl) :
    VS K X (.Assign [.Subscript o ie posS] e pos) (tAsg te (gSub (tVar i) ti rSetL)) (vSetIx i va vi) := ⟨ps_asg h.pe (pg_sub ho hi.pe set_list ha) hs hw h1, fun H0 Z σ H S V E k t l => by
  refine h.snd H0 Z σ H S _ _ k t fun x H1 r S1 k1 st1 rr ⟨⟨s1, em, hm1⟩, q⟩ => ?_
  -- the slot's address stays: σ is one
  have fin : ∀ (p : Addr), σ[i]? = some (some (.ref p)) → gSub (tVar i) ti rSetL x σ H1 E.nx := fun p hp => by
    refine ⟨.ref p, hp, hi.snd H0 Z σ H1 S1 _ _ k1 q fun y H2 ri S2 k2 st2 r2 ⟨j, ej, q2⟩ => ?_⟩
    cases r2.get k2 ej
    have rr2 := rr.step st2
    rcases q2 with ⟨ad, ns, kk, n, e1, e2, er, q2⟩ | ⟨ds, kk, d, e1, e2, er, q2⟩
    · subst er
      cases (show Rep K _ _ H2 x (.int n) from rr2)
      obtain ⟨o', g1, a', rfl, g2, g3⟩ := k2.ownAt e1
      rw [hp] at g1; cases g1
      refine ⟨p, _, j, kk, rfl, rfl, g3, by rw [List.length_map]; exact e2, ?_⟩
      obtain ⟨k3, st3⟩ := k2.chg (s := .pen ad (ns.set kk n)) (o := .lst ((ns.map L2.V.int).set kk (.int n))) e1 rfl hp ⟨_, rfl⟩ rfl ⟨p, rfl, g2, by rw [upd_same, List.map_set]⟩
      exact l.nx _ _ _ k3 ((st1.trans st2).trans st3) q2
    · subst er
      obtain ⟨o', g1, a', vs, rfl, g2, g3, g4⟩ := k2.ownAt e1
      rw [hp] at g1; cases g1
      refine ⟨p, _, j, kk, rfl, rfl, g2, by rw [g4.length]; exact e2, ?_⟩
      have na : NM Z σ S2 p → False := fun n => n (.inl ⟨i, _, e1, rfl, hp⟩)
      have hm : ∀ b, NM Z σ S2 b → H2 b ≠ none → NM Z σ S2 b ∧ upd H2 p (.lst (vs.set kk x)) b = H2 b := fun b n _ => ⟨n, upd_ne fun z => na (by rw [← z]; exact n)⟩
      obtain ⟨k3, st3⟩ := k2.chg (s := .own (ds.set kk d)) (o := .lst (vs.set kk x)) e1 rfl hp ⟨_, rfl⟩ rfl ⟨p, _, rfl, upd_same, g3, Reps.set (Rep.mono hm (fun _ x => x rfl) rr2) kk (g4.mono hm fun _ x => x)⟩
      exact l.nx _ _ _ k3 ((st1.trans st2).trans st3) q2
  -- which address it is: look once
  obtain ⟨o1, g1, g2⟩ := k1.ownAt em
  cases s1 with
  | no => cases hm1
  | val d => cases hm1
  | fre d => cases hm1
  | own ds => obtain ⟨p, _, rfl, _⟩ := g2; exact fin p g1
  | pen ad ns => obtain ⟨p, rfl, _⟩ := g2; exact fin p g1
  | odi ks ds => obtain ⟨p, _, rfl, _⟩ := g2; exact fin p g1⟩
def pick : List VR → Nat → Option (Nat × List VR)
  | .own i :: r, 0 => some (i, r)
  | x :: r, j + 1 => (pick r j).map fun p => (p.1, x :: p.2)
  | _, _ => none
def vFnI (j : Nat) (p : List Int → List D → (D → List Int → Prop) → Prop) (vr : VTA) : VT := fun S Q => vr S fun rs S1 => ∃ i rs' ad ns ds, pick rs j = some (i, rs') ∧ S1[i]? = some (.pen ad ns) ∧ allD rs' = some ds ∧ p ns ds fun d ns' => Q (.d d) (S1.set i (.pen ad ns'))
theorem RepRs.pick {F : FP} {Z : AP} {σ : St} {S : List Sl} {H : Hp} : ∀ {j : Nat} {vs : List V} {rs : List VR} {i : Nat} {rs' : List VR}, RepRs K F Z σ S H vs rs → VL.pick rs j = some (i, rs') → ∃ v ws us, vs = ws ++ v :: us ∧ ws.length = j ∧ σ[i]? = some (some v) ∧ RepRs K F Z σ S H (ws ++ us) rs' ∧ ws.length ≤ (ws ++ us).length
  | 0, _, _, i, rs', .cons (r := r) h t, e => by
    cases r with
    | d x => cases e
    | own k => cases e; exact ⟨_, [], _, rfl, rfl, h, t, by simp⟩
  | j + 1, _, _, i, rs', .cons (r := r) (rs := rs) h t, e => by
    have e' : (VL.pick rs j).map (fun p => (p.1, r :: p.2)) = some (i, rs') := by cases r <;> exact e
    obtain ⟨⟨i', q⟩, h1, h2⟩ := Option.map_eq_some_iff.mp e'
    cases h2
    obtain ⟨v, ws, us, rfl, hl, hs, rr, _⟩ := RepRs.pick t h1
    exact ⟨v, _ :: ws, us, rfl, by simp [hl], hs, .cons h rr, by simp⟩
  | _, _, _, _, _, .nil, e => by cases e
theorem Reps.splitAt {N : AP} {F : FP} {H : Hp} : ∀ {ws us : List V} {ds : List D}, Reps K N F H (ws ++ us) ds → ∃ d1 d2, ds = d1 ++ d2 ∧ Reps K N F H ws d1 ∧ Reps K N F H us d2
  | [], us, ds, h => ⟨[], ds, rfl, .nil, h⟩
  | w :: ws, us, _, .cons h t => by
    obtain ⟨d1, d2, rfl, h1, h2⟩ := Reps.splitAt (ws := ws) t
    exact ⟨_ :: d1, d2, rfl, .cons h h1, h2⟩
section
variable {es : List Expr} {tr : TA} {vr : VTA} {x : Str} {p0 : Pos} {j k : Nat} {ps : List Str}
theorem ve_fnI {jj : Nat} {p : List Int → List D → (D → List Int → Prop) → Prop} (E : Has X.prog X.w X.K X.mg X.base k x ps (spI K jj p)) (hr : Room j X.A) (ha : VA K X false (e :: es) tr vr)
    (hk : k ≤ j := by decide) (hg : Gl X x := by rfl) (hdb : (x == ("__debug__" : Str)) = false := by decide) (he : starEach (e :: es) X.env = (false, eval e X.env) :: starEach es X.env := by rfl)
    (hpl : (backTo pos (starEach es X.env)).any (·.1) = false := by rfl) : VE K X m (.Call (.Name x p0) (e :: es) [] pos) (tCall (spI K jj p) [] E0 tr) (vFnI jj p vr) := ⟨pe_fn E hr ha.pe hk hg hdb he hpl, fun H0 Z σ H S Q C k t hc =>
  ha.snd H0 Z σ H S _ _ k t fun vs H1 rs S1 k1 st1 rrs zq1 => by
    obtain ⟨i, rs', ad, ns, ds, e1, e2, e3, q⟩ := zq1
    obtain ⟨v, ws, us, rfl, hl, hs, rr, _⟩ := rrs.pick e1
    obtain ⟨o, g1, a, rfl, g2, g3⟩ := k1.ownAt e2
    rw [hs] at g1; cases g1
    have ma : Mo Z σ S1 a := .inl ⟨i, _, e2, rfl, hs⟩
    obtain ⟨d1, d2, rfl, r1, r2⟩ := Reps.splitAt (rr.allD e3)
    have hm : ∀ b, NM Z σ S1 b → H1 b ≠ none → b ≠ a ∧ H1 b = H1 b := fun b n _ => ⟨fun z => n (by rw [z]; exact ma), rfl⟩
    refine ⟨a, ws, us, ns, d1, d2, _, by rw [List.append_nil], hl, g3, r1.mono hm fun _ _ => trivial, r2.mono hm fun _ _ => trivial, q, fun d ns' v H' q g ga rv => ?_⟩
    -- the pen changed, and the heap grown
    have hG : ∀ b, upd H1 a (.lst (ns'.map V.int)) b ≠ none → H' b = upd H1 a (.lst (ns'.map V.int)) b := fun b hb => by
      by_cases hba : b = a
      · subst hba; rw [upd_same]; exact ga
      · rw [upd_ne hba] at hb ⊢; exact g b hba hb
    obtain ⟨k2, st2⟩ := k1.chg (s := .pen ad ns') (o := .lst (ns'.map V.int)) e2 rfl hs ⟨_, rfl⟩ rfl ⟨a, rfl, g2, upd_same⟩
    have k3 := k2.grow hG
    refine hc v H' (.d d) _ k3 ((st1.trans st2).trans (.grow hG)) (show Rep K _ _ H' v d from ?_) q
    refine (Rep.avoid (N' := NM Z σ (S1.set i (.pen ad ns'))) (fun b z => k3.mo (Classical.not_not.mp z)) (fun b ⟨c, ec, f⟩ => ?_) rv).mono (fun _ n _ => ⟨n, rfl⟩) (fun o ⟨c, ec, f⟩ _ => ⟨c, ec, k1.dom c f⟩)
    cases ec
    refine k2.nm ?_
    rw [upd_ne]
    · exact f
    · intro z; subst z; rw [g3] at f; cases f⟩
end
end
end VL
end
section
set_option maxHeartbeats 4000000
namespace VL
open PySem L2
def Gd (K : PySem.W.Frag) (Z : AP) (J : It) (ds : List D) (σ : St) (S : List Sl) (H : Hp) : Prop := ∀ σ2 S2 H2, (∀ p, H2 p = none → NM Z σ2 S2 p) → Step Z σ S H σ2 S2 H2 → ∀ i, (i < ds.length → J.go i H2) ∧ (∀ x H3, J.yld i H2 x H3 → i < ds.length → (∀ a, H2 a ≠ none → H3 a = H2 a) ∧ ∃ d, ds[i]? = some d ∧ Rep K (NM Z σ2 S2) AnyF H3 x d) ∧ (i = ds.length → J.stop i H2)
def SndI (K : PySem.W.Frag) (wi : TI) (vi : VTN) : Prop := ∀ H0 Z σ H S Q C, OK K H0 Z σ H S → vi S Q → (∀ J ds H' S', OK K H0 Z σ H' S' → Step Z σ S H σ S' H' → Gd K Z J ds σ S' H' → Q ds S' → C J H') → wi σ H C
structure VI (K : PySem.W.Frag) (X : Cx) (tg e : Expr) (wi : TI) (vi : VTN) : Prop where
  pi : PI X tg e wi
  snd : SndI K wi vi
section
variable {K : PySem.W.Frag} {X : Cx} {m : Bool} {e a b c tg : Expr} {ta tb tc te ti : TE} {va vb vc : VT} {pos : Pos} {st : Stmt} {rest : List Stmt} {t u : TS} {v w : VTS}
def vItL (va : VT) : VTN := fun S Q => va S fun r S1 => ∃ ds, r = .d (.lst ds) ∧ Q ds S1
def vItT (va : VT) : VTN := fun S Q => va S fun r S1 => ∃ ds, r = .d (.tup ds) ∧ Q ds S1
theorem vi_list (hK : X.K = K) (h : VE K X false e te va) : VI K X tg e (iList K te) (vItL va) := ⟨by subst hK; exact pi_list h.pe, fun H0 Z σ H S Q C k t hc => h.snd H0 Z σ H S _ _ k t fun v H1 r S1 k1 st1 rr zq1 => by
  obtain ⟨ds, e, q⟩ := zq1
  subst e
  have rr : Rep K _ _ H1 v (.lst ds) := rr
  obtain ⟨a, vs, rfl, hq, _⟩ := rr.sqL
  refine ⟨a, rfl, ⟨vs, hq⟩, hc _ ds H1 S1 k1 st1 (fun σ2 S2 H2 _ st2 i => ?_) q⟩
  obtain ⟨a', vs', e, hq2, r2⟩ := (rr.step st2).sqL
  cases e
  refine ⟨fun hi => ?_, fun x H3 hy hi => ?_, fun hi => ⟨vs', hq2, by rw [r2.length]; lia⟩⟩
  · obtain ⟨v, h1, _⟩ := r2.getD (List.getElem?_eq_getElem hi)
    exact ⟨vs', v, hq2, h1⟩
  · obtain ⟨e, h2⟩ := hy
    obtain ⟨d, h3, h4⟩ := r2.get (h2 vs' hq2)
    exact ⟨fun _ _ => by rw [e], d, h3, h4.mono (fun _ n _ => ⟨n, by rw [e]⟩) fun _ _ => trivial⟩⟩
theorem vi_tup (hK : X.K = K) (h : VE K X false e te va) : VI K X tg e (iTup K te) (vItT va) := ⟨by subst hK; exact pi_tup h.pe, fun H0 Z σ H S Q C k t hc => h.snd H0 Z σ H S _ _ k t fun v H1 r S1 k1 st1 rr zq1 => by
  obtain ⟨ds, e, q⟩ := zq1
  subst e
  have rr : Rep K _ _ H1 v (.tup ds) := rr
  obtain ⟨a, vs, rfl, hq, _⟩ := rr.sqT
  refine ⟨a, rfl, ⟨vs, hq⟩, hc _ ds H1 S1 k1 st1 (fun σ2 S2 H2 _ st2 i => ?_) q⟩
  obtain ⟨a', vs', e, hq2, r2⟩ := (rr.step st2).sqT
  cases e
  refine ⟨fun hi => ?_, fun x H3 hy hi => ?_, fun hi => ⟨vs', hq2, by rw [r2.length]; lia⟩⟩
  · obtain ⟨v, h1, _⟩ := r2.getD (List.getElem?_eq_getElem hi)
    exact ⟨vs', v, hq2, h1⟩
  · obtain ⟨e, h2⟩ := hy
    obtain ⟨d, h3, h4⟩ := r2.get (h2 vs' hq2)
    exact ⟨fun _ _ => by rw [e], d, h3, h4.mono (fun _ n _ => ⟨n, by rw [e]⟩) fun _ _ => trivial⟩⟩
def rg (lo : Int) (n : Nat) : List D := (List.range n).map fun (i : Nat) => D.int (lo + (i : Int))
theorem rg_len (lo : Int) (n : Nat) : (rg lo n).length = n := by simp [rg]
theorem rg_at {lo : Int} {n i : Nat} (h : i < n) : (rg lo n)[i]? = some (.int (lo + (i : Int))) := by simp [rg, h]
theorem gd_rng {lo : Int} {n : Nat} {Z : AP} {σ : St} {S : List Sl} {H : Hp} : Gd K Z (Itr lo n) (rg lo n) σ S H := fun σ2 S2 H2 _ st2 i => by
  rw [rg_len]
  refine ⟨fun h => h, fun x H3 ⟨e, hx⟩ hi => ⟨fun _ _ => by rw [e], _, rg_at hi, by rw [hx]; exact .int _⟩, fun h => by rw [h]; exact Nat.le_refl _⟩
section
variable {tr : TA} {vr : VTA} {p : Pos}
def vRg1 (vr : VTA) : VTN := fun S Q => vr S fun rs S1 => ∃ j : Int, rs = [.d (.int j)] ∧ -(2 ^ 62) ≤ j ∧ j < 2 ^ 62 ∧ Q (rg 0 j.toNat) S1
theorem vi_range1 (hg : Gl X "range") (hm : X.mg "range" = none) (ha : VA K X false [a] tr vr) (hs : starEach [a] X.env = [(false, eval a X.env)] := by rfl) : VI K X tg (.Call (.Name "range" p) [a] [] pos) (iRng1 tr) (vRg1 vr) := ⟨pi_range1 hg hm ha.pe hs, fun H0 Z σ H S Q C k t hc =>
  ha.snd H0 Z σ H S _ _ k t fun vs H1 rs S1 k1 st1 rrs zq1 => by
    obtain ⟨j, e, h1, h2, q⟩ := zq1
    subst e
    cases rrs with
    | cons r t =>
      cases t
      cases (show Rep K _ _ H1 _ (.int j) from r)
      exact ⟨j, rfl, h1, h2, hc _ _ H1 S1 k1 st1 gd_rng q⟩⟩
end
def runFor (vg : VG) (vb : VTS) (V : VEnds) : List D → List Sl → Prop
  | [] => V.nx
  | d :: r => fun S => vg d S fun S3 => vb ⟨runFor vg vb V r, V.rt, V.nx, runFor vg vb V r⟩ S3
def vFor (vi : VTN) (vg : VG) (vb : VTS) : VTS := fun V S => vi S fun ds S1 => runFor vg vb V ds S1 ∨ ∃ Iv : Nat → List Sl → Prop, Iv 0 S1 ∧ (∀ i d S2, ds[i]? = some d → Iv i S2 → vg d S2 fun S3 => vb { V with nx := Iv (i + 1), ct := Iv (i + 1), bk := V.nx } S3) ∧ ∀ S2, Iv ds.length S2 → V.nx S2
theorem vs_for {body : List Stmt} {wi : TI} {vi : VTN} {g : TG} {vg : VG} (hp : PassesOwn (model X.prog X.w) X.A X.env X.xe) (hc : X.calm = true) (hi : VI K X tg e wi vi) (hg : VGe K X tg g vg) (hb : VSs K X body t v) (hs : ∀ x, foldedSetIterable e X.env x = pure x := by intro _; rfl) :
    VS K X (.For tg e body [] pos) (tFor wi g t) (vFor vi vg v) := ⟨ps_for hp hc hi.pi hg.pg hb.ps hs, fun H0 Z σ H S V E k t l => hi.snd H0 Z σ H S _ _ k t fun J ds H1 S1 k1 st1 gd hh => by
  rcases hh with hr | ⟨Iv, i0, hs, hd⟩
  · refine ⟨fun i m σ H => m = ds.length - i ∧ i ≤ ds.length ∧ ∃ S2, OK K H0 Z σ H S2 ∧ Step Z _ S1 H1 σ S2 H ∧ runFor vg v V (ds.drop i) S2, ⟨ds.length, by simp, Nat.zero_le _, S1, k1, .refl, by simpa using hr⟩, ?_⟩
    rintro i m σ2 H2 ⟨rfl, hi, S2, k2, st2, p⟩
    obtain ⟨g1, g2, g3⟩ := gd σ2 S2 H2 (fun _ => k2.nm) st2 i
    by_cases hlt : i < ds.length
    · rw [List.drop_eq_getElem_cons hlt] at p
      refine .inr ⟨g1 hlt, fun σ' H' => ∃ S', OK K H0 Z σ' H' S' ∧ Step Z σ S1 H1 σ' S' H' ∧ runFor vg v V (ds.drop (i + 1)) S', fun σ' H' p' => ⟨ds.length - (i + 1), by lia, rfl, hlt, p'⟩, fun x H3 y => ?_⟩
      obtain ⟨hgr, d, hd', rd⟩ := g2 x H3 y hlt
      replace k2 := k2.grow hgr
      replace st2 := st2.trans (.grow hgr)
      rw [List.getElem?_eq_getElem hlt] at hd'
      cases hd'
      refine hg.snd H0 Z σ2 H3 S2 x _ _ _ k2 rd p fun σ4 H4 S4 k4 st4 q4 => ?_
      refine hb.snd H0 Z σ4 H4 S4 _ _ k4 q4 ⟨fun σ' H' S' k' s' q' => ⟨S', k', (st2.trans st4).trans s', q'⟩, fun σ' H' S' k' s' q' => l.nx σ' H' S' k' (((st1.trans st2).trans st4).trans s') q', fun σ' H' S' k' s' q' => ⟨S', k', (st2.trans st4).trans s', q'⟩, fun v d σ' H' S' k' s' r' q' => l.rt v d σ' H' S' k' (((st1.trans st2).trans st4).trans s') r' q'⟩
    · have e : i = ds.length := by lia
      rw [e, List.drop_length] at p
      exact .inl ⟨g3 e, l.nx _ _ _ k2 (st1.trans st2) p⟩
  refine ⟨fun i m σ H => m = ds.length - i ∧ i ≤ ds.length ∧ ∃ S2, OK K H0 Z σ H S2 ∧ Step Z _ S1 H1 σ S2 H ∧ Iv i S2, ⟨ds.length, by simp, Nat.zero_le _, S1, k1, .refl, i0⟩, ?_⟩
  rintro i m σ2 H2 ⟨rfl, hi, S2, k2, st2, p⟩
  obtain ⟨g1, g2, g3⟩ := gd σ2 S2 H2 (fun _ => k2.nm) st2 i
  by_cases hlt : i < ds.length
  · refine .inr ⟨g1 hlt, fun σ' H' => ∃ S', OK K H0 Z σ' H' S' ∧ Step Z σ S1 H1 σ' S' H' ∧ Iv (i + 1) S', fun σ' H' p' => ⟨ds.length - (i + 1), by lia, rfl, hlt, p'⟩, fun x H3 y => ?_⟩
    obtain ⟨hgr, d, hd', rd⟩ := g2 x H3 y hlt
    replace k2 := k2.grow hgr
    replace st2 := st2.trans (.grow hgr)
    refine hg.snd H0 Z σ2 H3 S2 x d _ _ k2 rd (hs i d S2 hd' p) fun σ4 H4 S4 k4 st4 q4 => ?_
    refine hb.snd H0 Z σ4 H4 S4 _ _ k4 q4 ⟨fun σ' H' S' k' s' q' => ⟨S', k', (st2.trans st4).trans s', q'⟩, fun σ' H' S' k' s' q' => l.nx σ' H' S' k' (((st1.trans st2).trans st4).trans s') q', fun σ' H' S' k' s' q' => ⟨S', k', (st2.trans st4).trans s', q'⟩, fun v d σ' H' S' k' s' r' q' => l.rt v d σ' H' S' k' (((st1.trans st2).trans st4).trans s') r' q'⟩
  · have e : i = ds.length := by lia
    exact .inl ⟨g3 e, l.nx _ _ _ k2 (st1.trans st2) (hd S2 (by rw [← e]; exact p))⟩⟩
end
def capS (n : Nat) (ix : List Nat) (S : List Sl) : List Sl := List.replicate n .no ++ ix.map fun i => (S[i]?).getD .no
def back1 (s t : Sl) : Sl := if s.mut then (if t.mut then t else .no) else s
def backFrom (n : Nat) (ix : List Nat) (T : List Sl) : Nat → List Sl → List Sl
  | _, [] => []
  | k, s :: r => (match ix.idxOf? k with | some j => back1 s ((T[n + j]?).getD .no) | none => s) :: backFrom n ix T (k + 1) r
def backS (n : Nat) (ix : List Nat) (S T : List Sl) : List Sl := backFrom n ix T 0 S
def Zin (Z : AP) (ix : List Nat) (σ : St) (S : List Sl) : AP := fun a => Z a ∨ ∃ (i : Nat) (s : Sl), i ∉ ix ∧ S[i]? = some s ∧ s.mut = true ∧ σ[i]? = some (some (V.ref a))
section
variable {K : PySem.W.Frag} {H H' H0 : Hp} {Z : AP} {σ σ' : St} {S T : List Sl} {n : Nat} {ix : List Nat}
theorem back_len (k : Nat) : (backFrom n ix T k S).length = S.length := by
  induction S generalizing k with
  | nil => rfl
  | cons s r ih => simp [backFrom, ih]
theorem back_at (k : Nat) {i : Nat} {s : Sl} (h : S[i]? = some s) : (backFrom n ix T k S)[i]? = some (match ix.idxOf? (k + i) with | some j => back1 s ((T[n + j]?).getD .no) | none => s) := by
  induction S generalizing k i with
  | nil => simp at h
  | cons s' r ih =>
    cases i with
    | zero => simp at h; subst h; rfl
    | succ i =>
      simp at h
      simp only [backFrom, List.getElem?_cons_succ]
      rw [ih (k + 1) h, show k + 1 + i = k + (i + 1) by lia]
theorem cap_at {j : Nat} {s : Sl} (h : (capS n ix S)[j]? = some s) (m : s.mut = true) : ∃ k i, j = n + k ∧ ix[k]? = some i ∧ S[i]? = some s := by
  unfold capS at h
  by_cases hj : j < n
  · rw [List.getElem?_append_left (by simpa using hj)] at h
    simp [hj] at h
    subst h; cases m
  · rw [List.getElem?_append_right (by simp; lia)] at h
    simp only [List.length_replicate, List.getElem?_map] at h
    cases hk : ix[j - n]? with
    | none => rw [hk] at h; cases h
    | some i =>
      rw [hk] at h
      simp at h
      refine ⟨j - n, i, by lia, hk, ?_⟩
      cases hs : S[i]? with
      | none => rw [hs] at h; simp at h; subst h; cases m
      | some s' => rw [hs] at h; simp at h; subst h; rfl
theorem cap_val {j : Nat} {s : Sl} (h : (capS n ix S)[j]? = some s) : s = .no ∨ ∃ k i, j = n + k ∧ ix[k]? = some i ∧ S[i]? = some s := by
  unfold capS at h
  by_cases hj : j < n
  · rw [List.getElem?_append_left (by simpa using hj)] at h
    simp [hj] at h
    exact .inl h.symm
  · rw [List.getElem?_append_right (by simp; lia)] at h
    simp only [List.length_replicate, List.getElem?_map] at h
    cases hk : ix[j - n]? with
    | none => rw [hk] at h; cases h
    | some i =>
      rw [hk] at h
      simp at h
      cases hs : S[i]? with
      | none => rw [hs] at h; simp at h; exact .inl h.symm
      | some s' => rw [hs] at h; simp at h; subst h; exact .inr ⟨j - n, i, by lia, hk, hs⟩
theorem capt_at {k i : Nat} (h : ix[k]? = some i) : (capt n ix σ)[n + k]? = some ((σ[i]?).getD none) := by
  unfold capt
  rw [List.getElem?_append_right (by simp)]
  simp [h]
theorem capS_at {k i : Nat} (h : ix[k]? = some i) : (capS n ix S)[n + k]? = some ((S[i]?).getD .no) := by
  unfold capS
  rw [List.getElem?_append_right (by simp)]
  simp [h]
theorem capt_get {k i : Nat} {v : V} (h : ix[k]? = some i) (e : (capt n ix σ)[n + k]? = some (some v)) : σ[i]? = some (some v) := by
  rw [capt_at h] at e
  cases hs : σ[i]? with
  | none => rw [hs] at e; cases e
  | some o => rw [hs] at e; simp at e; rw [e]
theorem mo_cap {a : Addr} : Mo (Zin Z ix σ S) (capt n ix σ) (capS n ix S) a ↔ Mo Z σ S a := by
  constructor
  · rintro (⟨j, s, h1, h2, h3⟩ | h | ⟨i, s, _, h1, h2, h3⟩)
    · obtain ⟨k, i, rfl, hk, hs⟩ := cap_at h1 h2
      exact .inl ⟨i, s, hs, h2, capt_get hk h3⟩
    · exact .inr h
    · exact .inl ⟨i, s, h1, h2, h3⟩
  · rintro (⟨i, s, h1, h2, h3⟩ | h)
    · by_cases hi : i ∈ ix
      · obtain ⟨k, hk⟩ := List.getElem?_of_mem hi
        refine .inl ⟨n + k, s, ?_, h2, ?_⟩
        · rw [capS_at hk, h1]; rfl
        · rw [capt_at hk, h3]; rfl
      · exact .inr (.inr ⟨i, s, hi, h1, h2, h3⟩)
    · exact .inr (.inl h)
theorem nodup_idx {l : List Nat} (h : l.Nodup) : ∀ {i j x : Nat}, l[i]? = some x → l[j]? = some x → i = j := fun {i j x} h1 h2 => by
  obtain ⟨a, e1⟩ := List.getElem?_eq_some_iff.mp h1
  obtain ⟨b, e2⟩ := List.getElem?_eq_some_iff.mp h2
  have hp := List.pairwise_iff_getElem.mp h
  rcases Nat.lt_trichotomy i j with c | c | c
  · exact (hp i j a b c (by rw [e1, e2])).elim
  · exact c
  · exact (hp j i b a c (by rw [e1, e2])).elim
theorem OK.capt (k : OK K H0 Z σ H S) (hn : ix.Nodup) : OK K H0 (Zin Z ix σ S) (L2.capt n ix σ) H (capS n ix S) where
  len := by simp [L2.capt, capS]
  dom := k.dom
  zl := fun a z => by
    rcases z with z | ⟨i, s, _, h1, h2, h3⟩
    · exact k.zl a z
    · exact k.mo (.inl ⟨i, s, h1, h2, h3⟩)
  nz := fun j s a h1 h2 h3 z => by
    obtain ⟨q, i, rfl, hk, hs⟩ := cap_at h1 h2
    have e := capt_get hk h3
    rcases z with z | ⟨i', s', hi', g1, g2, g3⟩
    · exact k.nz i s a hs h2 e z
    · have := k.inj i i' a s s' hs g1 h2 g2 e g3
      subst this
      exact hi' (List.mem_of_getElem? hk)
  inj := fun j j' a s s' h1 h2 m1 m2 h3 h4 => by
    obtain ⟨q, i, rfl, hk, hs⟩ := cap_at h1 m1
    obtain ⟨q', i', rfl, hk', hs'⟩ := cap_at h2 m2
    have := k.inj i i' a s s' hs hs' m1 m2 (capt_get hk h3) (capt_get hk' h4)
    subst this
    rw [nodup_idx hn hk hk']
  at_ := fun j o s h1 h2 => by
    have hN : ∀ a, NM Z σ S a → NM (Zin Z ix σ S) (L2.capt n ix σ) (capS n ix S) a := fun a x z => x (mo_cap.mp z)
    rcases cap_val h2 with rfl | ⟨q, i, rfl, hk, hs⟩
    · trivial
    · rw [capt_at hk] at h1
      obtain ⟨o', e1, sl⟩ := k.ownAt hs
      rw [e1] at h1
      simp at h1
      subst h1
      cases s with
      | no => trivial
      | val d => obtain ⟨v, e, r⟩ := sl; exact ⟨v, e, r.mono (fun a x _ => ⟨hN a x, rfl⟩) fun _ x => x⟩
      | fre d => obtain ⟨v, e, r⟩ := sl; exact ⟨v, e, r.mono (fun a x _ => ⟨hN a x, rfl⟩) fun _ x => x⟩
      | own ds => obtain ⟨a, vs, e, e', e0, r⟩ := sl; exact ⟨a, vs, e, e', e0, r.mono (fun a x _ => ⟨hN a x, rfl⟩) fun _ x => x⟩
      | pen ad ns => exact sl
      | odi ks ds => obtain ⟨a, vs, e, e', e0, ek, r⟩ := sl; exact ⟨a, vs, e, e', e0, ⟨ek.1, ek.2.mono (fun a x _ => ⟨hN a x, rfl⟩) fun _ x => x⟩, r.mono (fun a x _ => ⟨hN a x, rfl⟩) fun _ x => x⟩
theorem idx_some {i j : Nat} (h : ix.idxOf? i = some j) : ix[j]? = some i := by
  unfold List.idxOf? at h
  obtain ⟨h1, h2, _⟩ := List.findIdx?_eq_some_iff_getElem.mp h
  rw [List.getElem?_eq_getElem h1]
  simpa using h2
theorem idx_none {i : Nat} (h : ix.idxOf? i = none) : i ∉ ix := by
  unfold List.idxOf? at h
  intro hm
  have := List.findIdx?_eq_none_iff.mp h i hm
  simp at this
theorem backS_at {i : Nat} {s : Sl} (h : S[i]? = some s) : (backS n ix S T)[i]? = some (match ix.idxOf? i with | some j => back1 s ((T[n + j]?).getD .no) | none => s) := by
  have := back_at (n := n) (ix := ix) (T := T) 0 h
  rwa [Nat.zero_add] at this
theorem backS_mut {i : Nat} {s' : Sl} (h : (backS n ix S T)[i]? = some s') (m : s'.mut = true) : ∃ s, S[i]? = some s ∧ s.mut = true ∧ ((∃ j, ix[j]? = some i ∧ T[n + j]? = some s') ∨ (i ∉ ix ∧ s = s')) := by
  have hl : i < S.length := by
    have := (List.getElem?_eq_some_iff.mp h).1
    rwa [show (backS n ix S T).length = S.length from back_len 0] at this
  have e := backS_at (n := n) (ix := ix) (T := T) (List.getElem?_eq_getElem hl)
  rw [h] at e
  have e := Option.some.inj e
  refine ⟨_, List.getElem?_eq_getElem hl, ?_⟩
  cases hx : ix.idxOf? i with
  | none =>
    rw [hx] at e
    have e : s' = S[i] := e
    exact ⟨by rw [← e]; exact m, .inr ⟨idx_none hx, e.symm⟩⟩
  | some j =>
    rw [hx] at e
    simp only [back1] at e
    by_cases hm : (S[i]).mut = true
    · rw [if_pos hm] at e
      refine ⟨hm, .inl ⟨j, idx_some hx, ?_⟩⟩
      cases ht : T[n + j]? with
      | none => rw [ht] at e; simp [Sl.mut] at e; subst e; cases m
      | some t =>
        rw [ht] at e
        simp only [Option.getD_some] at e
        by_cases htm : t.mut = true
        · rw [if_pos htm] at e; rw [e]
        · rw [if_neg htm] at e; subst e; cases m
    · rw [if_neg hm] at e; subst e; exact (hm m).elim
theorem backS_val {i : Nat} {s' : Sl} (h : (backS n ix S T)[i]? = some s') (m : s'.mut = false) : s' = .no ∨ S[i]? = some s' := by
  have hl : i < S.length := by
    have := (List.getElem?_eq_some_iff.mp h).1
    rwa [show (backS n ix S T).length = S.length from back_len 0] at this
  have e := backS_at (n := n) (ix := ix) (T := T) (List.getElem?_eq_getElem hl)
  rw [h] at e
  have e := Option.some.inj e
  cases hx : ix.idxOf? i with
  | none => rw [hx] at e; exact .inr (by rw [List.getElem?_eq_getElem hl, e])
  | some j =>
    rw [hx] at e
    simp only [back1] at e
    by_cases hm : (S[i]).mut = true
    · rw [if_pos hm] at e
      by_cases htm : ((T[n + j]?).getD .no).mut = true
      · rw [if_pos htm] at e; rw [e, htm] at m; cases m
      · rw [if_neg htm] at e; exact .inl e
    · rw [if_neg hm] at e; exact .inr (by rw [List.getElem?_eq_getElem hl, e])
theorem OK.back (k : OK K H0 Z σ H S) (k' : OK K H0 (Zin Z ix σ S) σ' H' T) (st : Step (Zin Z ix σ S) (L2.capt n ix σ) (capS n ix S) H σ' T H') (hσ : ∀ (i : Nat) (v : V), (L2.capt n ix σ)[i]? = some (some v) → σ'[i]? = some (some v)) :
    OK K H0 Z σ H' (backS n ix S T) ∧ Step Z σ S H σ (backS n ix S T) H' ∧ ∀ a, NM (Zin Z ix σ S) σ' T a → NM Z σ (backS n ix S T) a := by
  have mo' : ∀ a, Mo Z σ (backS n ix S T) a → Mo (Zin Z ix σ S) σ' T a := fun a z => by
    rcases z with ⟨i, s', h1, h2, h3⟩ | z
    · obtain ⟨s, e, em, ⟨j, hj, ht⟩ | ⟨hi, rfl⟩⟩ := backS_mut h1 h2
      · exact .inl ⟨n + j, s', ht, h2, hσ _ _ (by rw [capt_at hj, h3]; rfl)⟩
      · exact .inr (.inr ⟨i, s, hi, e, em, h3⟩)
    · exact .inr (.inl z)
  have nm' : ∀ a, NM (Zin Z ix σ S) σ' T a → NM Z σ (backS n ix S T) a := fun a x z => x (mo' a z)
  have nm0 : ∀ a, NM Z σ S a → NM (Zin Z ix σ S) (L2.capt n ix σ) (capS n ix S) a := fun a x z => x (mo_cap.mp z)
  have old : ∀ a, NM Z σ S a → H a ≠ none → NM Z σ (backS n ix S T) a ∧ H' a = H a := fun a x e => ⟨nm' a (st.1 a (nm0 a x) e).2, (st.1 a (nm0 a x) e).1⟩
  refine ⟨⟨by rw [show (backS n ix S T).length = S.length from back_len 0]; exact k.len, fun i o s' h1 h2 => ?_, fun i j a s t h1 h2 m1 m2 h3 h4 => ?_, fun a e => k'.dom a e, fun a z => k'.zl a (.inl z), fun i s a h1 m h3 z => ?_⟩, ⟨fun a x e => ⟨(old a x e).2, (old a x e).1⟩, st.2.1, fun a z e => st.2.2 a (.inl z) e⟩, nm'⟩
  · cases hm : s'.mut with
    | true =>
      obtain ⟨s, e, em, ⟨j, hj, ht⟩ | ⟨hi, rfl⟩⟩ := backS_mut h2 hm
      · have eo : ∃ v, o = some v := by
          obtain ⟨o', e1, q⟩ := k.ownAt e
          rw [h1] at e1; cases e1
          cases s with
          | no => cases em
          | val d => cases em
          | fre d => cases em
          | own ds => obtain ⟨a, _, e, _⟩ := q; exact ⟨_, e⟩
          | pen ad ns => obtain ⟨a, e, _⟩ := q; exact ⟨_, e⟩
          | odi ks ds => obtain ⟨a, _, e, _⟩ := q; exact ⟨_, e⟩
        obtain ⟨v, rfl⟩ := eo
        have q := k'.at_ (n + j) (some v) s' (hσ _ _ (by rw [capt_at hj, h1]; rfl)) ht
        cases s' with
        | no => cases hm
        | val d => cases hm
        | fre d => cases hm
        | own ds => obtain ⟨a, vs, e, e', e0, r⟩ := q; exact ⟨a, vs, e, e', e0, r.mono (fun a x _ => ⟨nm' a x, rfl⟩) fun _ x => x⟩
        | pen ad ns => exact q
        | odi ks ds => obtain ⟨a, vs, e, e', e0, ek, r⟩ := q; exact ⟨a, vs, e, e', e0, ⟨ek.1, ek.2.mono (fun a x _ => ⟨nm' a x, rfl⟩) fun _ x => x⟩, r.mono (fun a x _ => ⟨nm' a x, rfl⟩) fun _ x => x⟩
      · obtain ⟨o', e1, q⟩ := k.ownAt e
        rw [h1] at e1; cases e1
        have hz : ∀ a us, o = some (V.ref a) → H a = some us → H' a = H a := fun a us eo ea => st.2.2 a (.inr ⟨i, s, hi, e, em, by rw [h1, eo]⟩) (by simp [ea])
        cases s with
        | no => cases hm
        | val d => cases hm
        | fre d => cases hm
        | own ds => obtain ⟨a, vs, e, e', e0, r⟩ := q; exact ⟨a, vs, e, (hz a _ e e').trans e', e0, r.mono old fun _ x => x⟩
        | pen ad ns => obtain ⟨a, e, e1, e'⟩ := q; exact ⟨a, e, e1, (hz a _ e e').trans e'⟩
        | odi ks ds => obtain ⟨a, vs, e, ⟨ob, e'⟩, e0, ek, r⟩ := q; exact ⟨a, vs, e, ⟨ob, (hz a _ e e').trans e'⟩, e0, ⟨ek.1, ek.2.mono old fun _ x => x⟩, r.mono old fun _ x => x⟩
    | false =>
      rcases backS_val h2 hm with rfl | e
      · trivial
      · have q := k.at_ i o s' h1 e
        cases s' with
        | no => trivial
        | val d => obtain ⟨v, e, r⟩ := q; exact ⟨v, e, r.mono old fun _ x => x⟩
        | fre d => obtain ⟨v, e, r⟩ := q; exact ⟨v, e, r.mono old fun _ x => x⟩
        | own ds => cases hm
        | pen ad ns => cases hm
        | odi ks ds => cases hm
  · obtain ⟨s0, e0, em0, c1⟩ := backS_mut h1 m1
    obtain ⟨t0, f0, fm0, c2⟩ := backS_mut h2 m2
    exact k.inj i j a s0 t0 e0 f0 em0 fm0 h3 h4
  · obtain ⟨s0, e0, em0, c1⟩ := backS_mut h1 m
    exact k.nz i s0 a e0 em0 h3 z
end
section
variable {K : PySem.W.Frag} {X : Cx} {e a b c tg elt iter : Expr} {te : TE} {va : VT} {pos : Pos}
structure VTs (K : PySem.W.Frag) (X : Cx) (ifs : List Expr) (te : TT) (t : VTT) : Prop where
  pe : PTs X ifs te
  snd : SndT K te t
def vTrue : VTT := fun S Q => Q true S
theorem vts_nil : VTs K X [] tTrue vTrue := ⟨pts_nil, fun _ _ _ _ _ _ _ k h q => q _ _ _ k .refl h⟩
theorem vts_one {tA : TT} {wA : VTT} (h : VTe K X c tA wA) : VTs K X [c] tA wA := ⟨pts_one h.pe, h.snd⟩
def vComp (vi : VTN) (n : Nat) (ix : List Nat) (vg : VG) (vt : VTT) (ve : VT) : VTN := fun S Q => vi S fun ds S1 => ds.length ≤ 1000000 ∧ ∃ Iv : Nat → List D → List Sl → Prop, Iv 0 [] S1 ∧
  (∀ i d ys S2, ds[i]? = some d → Iv i ys S2 → vg d (capS n ix S2) fun S3 => vt S3 fun b S4 => if b = true then ve S4 fun r S5 => ∃ x, r = .d x ∧ Iv (i + 1) (ys ++ [x]) (backS n ix S2 S5) else Iv (i + 1) ys (backS n ix S2 S4)) ∧
  ∀ ys S2, Iv ds.length ys S2 → Q ys S2
theorem vn_comp {ifs : List Expr} {scope : Scope} {tg cs : List Str} {ix : List Nat} {target : Expr} {wi : TI} {vi : VTN} {g : TG} {vg : VG} {tc : TT} {vt : VTT} {te : TE} {ve : VT} (Sc : CompScope X scope tg cs ix) (hcalm : X.calm = true) (kg : KeepsG tg.length ix g) (hnd : ix.Nodup)
    (hi : VI K X target iter wi vi) (hg : ∀ C fp s H, VGe K (cxComp X scope (tg ++ cs) C fp s H) target g vg) (hc : ∀ C fp s H, VTs K (cxComp X scope (tg ++ cs) C fp s H) ifs tc vt) (he : ∀ C fp s H, VE K (cxComp X scope (tg ++ cs) C fp s H) true elt te ve)
    (hs : ∀ x, foldedSetIterable iter X.env x = pure x := by intro _; rfl) : VN K X (.ListComp elt [⟨target, iter, ifs, 0⟩] scope pos) (tComp wi tg.length ix g tc te) (vComp vi tg.length ix vg vt ve) := by
  have sg : SndG K g vg := (hg 0 [] X.s₀ (fun _ => none)).snd
  have sc : SndT K tc vt := (hc 0 [] X.s₀ (fun _ => none)).snd
  have se : SndE K true te ve := (he 0 [] X.s₀ (fun _ => none)).snd
  refine ⟨pe_comp Sc hcalm kg hi.pi (fun C fp s H => (hg C fp s H).pg) (fun C fp s H => (hc C fp s H).pe) (fun C fp s H => (he C fp s H).pe) hs, fun H0 Z σ H S Q C k t hq => ?_⟩
  refine hi.snd H0 Z σ H S _ _ k t fun J ds H1 S1 k1 st1 gd ⟨hl, Iv, i0, hs, hd⟩ => ?_
  refine ⟨fun i m ys H => m = ds.length - i ∧ i ≤ ds.length ∧ ys.length ≤ i ∧ ∃ S2 zs, OK K H0 Z σ H S2 ∧ Step Z σ S1 H1 σ S2 H ∧ Reps K (NM Z σ S2) (Fr H0) H ys zs ∧ Iv i zs S2, ⟨ds.length, by simp, Nat.zero_le _, Nat.le_refl _, S1, [], k1, .refl, .nil, i0⟩, ?_⟩
  rintro i m ys H2 ⟨rfl, hi, hy, S2, zs, k2, st2, rz, p⟩
  obtain ⟨g1, g2, g3⟩ := gd σ S2 H2 (fun _ => k2.nm) st2 i
  have hsz : (1000000 : Nat) < sizeLine := by rw [sizeLine_eq]; lia
  by_cases hlt : i < ds.length
  · refine .inr ⟨g1 hlt, by lia, fun ys' H' => ys'.length ≤ i + 1 ∧ ∃ S' zs', OK K H0 Z σ H' S' ∧ Step Z σ S1 H1 σ S' H' ∧ Reps K (NM Z σ S') (Fr H0) H' ys' zs' ∧ Iv (i + 1) zs' S', fun ys' H' ⟨p1, p2⟩ => ⟨ds.length - (i + 1), by lia, rfl, hlt, p1, p2⟩, fun x H3 y => ?_⟩
    obtain ⟨hgr, d, hd', rd⟩ := g2 x H3 y hlt
    replace k2 := k2.grow hgr
    replace st2 := st2.trans (.grow hgr)
    replace rz := rz.step (.grow hgr)
    have kc := k2.capt (n := tg.length) hnd
    have rd' : Rep K (NM (Zin Z ix σ S2) (L2.capt tg.length ix σ) (capS tg.length ix S2)) AnyF H3 x d := rd.mono (fun a n _ => ⟨fun z => n (mo_cap.mp z), rfl⟩) fun _ x => x
    -- the target leaves what the block took over
    have h1 := sg H0 _ _ H3 _ x d _ (fun σ4 H4 => ∃ S4, OK K H0 (Zin Z ix σ S2) σ4 H4 S4 ∧ Step (Zin Z ix σ S2) (L2.capt tg.length ix σ) (capS tg.length ix S2) H3 σ4 S4 H4 ∧ vt S4 fun b S5 => if b = true then ve S5 fun r S6 => ∃ x, r = .d x ∧ Iv (i + 1) (zs ++ [x]) (backS tg.length ix S2 S6) else Iv (i + 1) zs (backS tg.length ix S2 S5)) kc rd' (hs i d zs S2 hd' p) (fun σ4 H4 S4 k4 st4 q4 => ⟨S4, k4, st4, q4⟩)
    have h2 := kg x σ H3 _ h1
    refine (hg 0 [] X.s₀ (fun _ => none)).mono _ _ _ _ _ ?_ h2
    rintro σ4 H4 ⟨⟨hl4, hσ4⟩, S4, k4, st4, q4⟩
    refine sc H0 _ σ4 H4 S4 _ _ k4 q4 fun bb H5 S5 k5 st5 q5 => ?_
    cases bb with
    | false =>
      rw [if_neg Bool.false_ne_true] at q5 ⊢
      obtain ⟨kb, sb, nb⟩ := k2.back k5 (st4.trans st5) hσ4
      exact ⟨by lia, _, zs, kb, st2.trans sb, rz.step sb, q5⟩
    | true =>
      rw [if_pos rfl] at q5 ⊢
      refine se H0 _ σ4 H5 S5 _ _ k5 q5 fun vv H6 r S6 k6 st6 rr ⟨xx, er, q6⟩ => ?_
      subst er
      obtain ⟨kb, sb, nb⟩ := k2.back k6 ((st4.trans st5).trans st6) hσ4
      refine ⟨by simp; lia, _, zs ++ [xx], kb, st2.trans sb, Reps.append (rz.step sb) (.cons (Rep.mono (fun a n _ => ⟨nb a n, rfl⟩) (fun _ x => x rfl) rr) .nil), q6⟩
  · have e : i = ds.length := by lia
    refine .inl ⟨g3 e, by lia, fun l hp => ?_⟩
    exact hq l ys zs H2 _ S2 k2 (st1.trans st2) hp (upd_grow hp) upd_same (reps_new hp (rz.mono (fun _ n _ => ⟨n, rfl⟩) fun _ x _ => x)) (hd zs S2 (by rw [← e]; exact p))
theorem vs_compV {elt iter : Expr} {pos spos py : Pos} {yy : Str} {ii : Nat} {ifs : List Expr} {scope : Scope} {tg cs : List Str} {ix : List Nat} {target : Expr} {wi : TI} {vi : VTN} {g : TG} {vg : VG} {tc : TT} {vt : VTT} {te : TE} {ve : VT} (hN0 : X.N.Nodup) (hi0 : X.N[ii]? = some yy) (hx0 : Loc X.env.scope yy) (hf0 : X.fn yy = true ∨ X.env.scope.names.lookup yy = some .local)
    (Sc : CompScope X scope tg cs ix) (hcalm : X.calm = true) (kg : KeepsG tg.length ix g) (hnd : ix.Nodup)
    (hi : VI K X target iter wi vi) (hg : ∀ C fp s H, VGe K (cxComp X scope (tg ++ cs) C fp s H) target g vg) (hc : ∀ C fp s H, VTs K (cxComp X scope (tg ++ cs) C fp s H) ifs tc vt) (he : ∀ C fp s H, VE K (cxComp X scope (tg ++ cs) C fp s H) true elt te ve)
    (hsw : swapsWith (.ListComp elt [⟨target, iter, ifs, 0⟩] scope pos) (some (.Name yy py)) spos.line X.env = pure true := by rfl) (hs : ∀ x, foldedSetIterable iter X.env x = pure x := by intro _; rfl) : VS K X (.Assign [.Name yy py] (.ListComp elt [⟨target, iter, ifs, 0⟩] scope pos) spos) (tAsg (tComp wi tg.length ix g tc te) (gName ii)) (vAsg (vNew (vComp vi tg.length ix vg vt ve)) (vgN ii)) := by
  have h := vn_comp (pos := pos) Sc hcalm kg hnd hi hg hc he hs
  refine ⟨ps_compU hN0 hi0 hx0 Sc hcalm kg hi.pi (fun C fp s H => (hg C fp s H).pg) (fun C fp s H => (hc C fp s H).pe) (fun C fp s H => (he C fp s H).pe) hf0 hsw hs, sndAsg (ve_new (m := false) h).snd fun H0 Z σ H S v d Q C k r ⟨hi, q⟩ hc => hc _ _ _ (k.setVal hi r).1 (k.setVal hi r).2 q⟩
end
end VL
end
section
set_option maxHeartbeats 4000000
namespace VL
open PySem L2
section
variable {P : Program} {w : World} {K : PySem.W.Frag} {mg : Str → Option Value} {base : Heap}
def slots (n : Nat) (ds : List D) : List Sl := ds.map .val ++ List.replicate (n - ds.length) .no
theorem start_at {N : List Str} {vs : List V} {i : Nat} {v : V} (h : vs[i]? = some v) : (start N vs)[i]? = some (some v) := by
  unfold L2.start
  have hi := (List.getElem?_eq_some_iff.mp h).1
  rw [List.getElem?_append_left (by simpa using hi)]
  simp [h]
theorem slots_at {n : Nat} {ds : List D} {i : Nat} {s : Sl} (h : (slots n ds)[i]? = some s) : s = .no ∨ ∃ d, s = .val d ∧ ds[i]? = some d := by
  unfold slots at h
  by_cases hi : i < ds.length
  · rw [List.getElem?_append_left (by simpa using hi)] at h
    simp [hi] at h
    subst h
    exact .inr ⟨_, rfl, by simp [hi]⟩
  · rw [List.getElem?_append_right (by simpa using hi)] at h
    have := List.mem_of_getElem? h
    exact .inl (List.eq_of_mem_replicate this)
theorem slots_nomut {n : Nat} {ds : List D} {i : Nat} {s : Sl} (h : (slots n ds)[i]? = some s) : s.mut = false := by
  rcases slots_at h with rfl | ⟨d, rfl, _⟩ <;> rfl
theorem ok_start {N : List Str} {vs : List V} {ds : List D} {H : Hp} (r : Reps K Any AnyF H vs ds) : OK K H (fun _ => False) (start N vs) H (slots N.length ds) where
  len := by simp [L2.start, slots, r.length]
  dom := fun _ e => e
  zl := fun _ z => z.elim
  nz := fun i s a h m _ => by rw [slots_nomut h] at m; cases m
  inj := fun i j a s t h1 h2 m1 => by rw [slots_nomut h1] at m1; cases m1
  at_ := fun i o s h1 h2 => by
    rcases slots_at h2 with rfl | ⟨d, rfl, e⟩
    · trivial
    · obtain ⟨v, e1, e2⟩ := r.getD e
      rw [start_at e1] at h1
      cases h1
      refine ⟨v, rfl, e2.mono (fun a _ _ => ⟨?_, rfl⟩) fun _ x => x⟩
      rintro (⟨j, s, g1, g2, _⟩ | z)
      · rw [slots_nomut g1] at g2; cases g2
      · exact z
theorem has_P {x : Str} {st : Stmt} {N ps : List Str} {k : Nat} {p : List D → (D → Prop) → Prop} (S : Src K mg x st) (sc : FnScope N ps (defScope st))
    (hb : ∀ (kV doc pm : Value) (an : Option Addr) (cdv ct : Value) (us : List Value), us.length = ps.length → bindArgs (PySem.W.fnOf x x (defArgs st) (defBody st) (defScope st) .none kV doc pm an cdv ct) ⟨us, []⟩ = pure (ps.zip us))
    (len : ∀ ds R, p ds R → ds.length = ps.length)
    (hbody : ∀ (f : Addr) (cdv : Value) (A : Around) (outer : List Env) (s : Shared) (H : Hp) (E : XK), Room k (A.deeper (PyProof.Rows.envOfC x (defScope st) s.heap.objs.size f cdv)) →
      ∃ ts t, VSs K (cxOf CX0 P w K mg base N x (defScope st) f cdv A outer s H E).nox (defBody st) ts t ∧ ∀ ds R, p ds R → t { nx := fun _ => R .non, rt := fun d _ => R d } (slots N.length ds)) : Has P w K mg base (k + 1) x ps (spP K p) := by
  refine S.has sc hb (fun vs H Q E zq1 => by obtain ⟨ds, R, r, h, _⟩ := zq1; rw [r.length]; exact len ds R h) fun f cdv A outer s H vs Q E hr ⟨ds, R, r, h, fin⟩ => ?_
  obtain ⟨ts, t, vs', q⟩ := hbody f cdv A outer s H E hr
  have k0 := ok_start (N := N) r
  have st0 : ∀ {σ' S' H'}, Step (fun _ => False) (start N vs) (slots N.length ds) H σ' S' H' → ∀ a, H a ≠ none → H' a = H a := fun st a e => (st.1 a (by
    rintro (⟨j, s, g1, g2, _⟩ | z)
    · rw [slots_nomut g1] at g2; cases g2
    · exact z) e).1
  refine ⟨ts, vs'.ps, vs'.snd H _ _ H _ _ _ k0 (q ds R h) ⟨fun σ' H' S' k' st q => fin .non .non H' q (st0 st) .non, fun σ' H' S' k' st q => q.elim, fun σ' H' S' k' st q => q.elim, fun v d σ' H' S' k' st rr q => fin d v H' q (st0 st) (rr.mono (fun _ _ _ => ⟨trivial, rfl⟩) fun _ x => x)⟩⟩
def slotsI (n : Nat) (a : Addr) (ns : List Int) (ds es : List D) : List Sl := ds.map .val ++ .pen (some a) ns :: (es.map .val ++ List.replicate (n - (ds.length + 1 + es.length)) .no)
theorem slotsI_at {n : Nat} {a : Addr} {ns : List Int} {ds es : List D} {i : Nat} {s : Sl} (h : (slotsI n a ns ds es)[i]? = some s) : s = .no ∨ (∃ d, s = .val d ∧ (ds ++ .non :: es)[i]? = some d ∧ i ≠ ds.length) ∨ (i = ds.length ∧ s = .pen (some a) ns) := by
  unfold slotsI at h
  by_cases hi : i < ds.length
  · rw [List.getElem?_append_left (by simpa using hi)] at h
    simp [hi] at h
    subst h
    exact .inr (.inl ⟨_, rfl, by rw [List.getElem?_append_left hi]; simp [hi], by lia⟩)
  · by_cases hi2 : i = ds.length
    · subst hi2
      rw [List.getElem?_append_right (by simp)] at h
      simp at h
      exact .inr (.inr ⟨rfl, h.symm⟩)
    · rw [List.getElem?_append_right (by simp; lia)] at h
      rw [List.length_map] at h
      obtain ⟨j, hj⟩ : ∃ j, i - ds.length = j + 1 := ⟨i - ds.length - 1, by lia⟩
      rw [hj, List.getElem?_cons_succ] at h
      by_cases hj2 : j < es.length
      · rw [List.getElem?_append_left (by simpa using hj2)] at h
        simp [hj2] at h
        subst h
        refine .inr (.inl ⟨_, rfl, ?_, hi2⟩)
        rw [List.getElem?_append_right (by lia), hj, List.getElem?_cons_succ]
        simp [hj2]
      · rw [List.getElem?_append_right (by simpa using hj2)] at h
        exact .inl (List.eq_of_mem_replicate (List.mem_of_getElem? h))
theorem has_I {x : Str} {st : Stmt} {N ps : List Str} {k : Nat} (j : Nat) {p : List Int → List D → (D → List Int → Prop) → Prop} (S : Src K mg x st) (sc : FnScope N ps (defScope st))
    (hb : ∀ (kV doc pm : Value) (an : Option Addr) (cdv ct : Value) (us : List Value), us.length = ps.length → bindArgs (PySem.W.fnOf x x (defArgs st) (defBody st) (defScope st) .none kV doc pm an cdv ct) ⟨us, []⟩ = pure (ps.zip us))
    (len : ∀ ns ds R, p ns ds R → ds.length + 1 = ps.length)
    (hbody : ∀ (f : Addr) (cdv : Value) (A : Around) (outer : List Env) (s : Shared) (H : Hp) (E : XK), Room k (A.deeper (PyProof.Rows.envOfC x (defScope st) s.heap.objs.size f cdv)) →
      ∃ ts t, VSs K (cxOf CX0 P w K mg base N x (defScope st) f cdv A outer s H E).nox (defBody st) ts t ∧ ∀ a ns ds es R, ds.length = j → p ns (ds ++ es) R → t { nx := fun S' => ∃ ns', S'[j]? = some (.pen (some a) ns') ∧ R .non ns', rt := fun d S' => ∃ ns', S'[j]? = some (.pen (some a) ns') ∧ R d ns' } (slotsI N.length a ns ds es)) :
    Has P w K mg base (k + 1) x ps (spI K j p) := by
  refine S.has sc hb (fun vs H Q E zq1 => by
    obtain ⟨a, ws, us, ns, ds, es, R, e, hl, hp, r1, r2, h, _⟩ := zq1
    have := len _ _ _ h
    rw [e, List.length_append, List.length_cons, r1.length, r2.length]
    rw [List.length_append] at this
    lia) fun f cdv A outer s H vs Q E hr ⟨a, ws, us, ns, ds, es, R, e, hl, hp, r1, r2, h, fin⟩ => ?_
  subst e
  obtain ⟨ts, t, vs', q⟩ := hbody f cdv A outer s H E hr
  have hdl : ds.length = j := by rw [← r1.length]; exact hl
  subst hdl
  have hmut : ∀ {i : Nat} {s : Sl}, (slotsI N.length a ns ds es)[i]? = some s → s.mut = true → i = ds.length ∧ s = .pen (some a) ns := fun {i s} h m => by
    rcases slotsI_at h with rfl | ⟨d, rfl, _⟩ | h
    · cases m
    · cases m
    · exact h
  have hpen : (start N (ws ++ .ref a :: us))[ds.length]? = some (some (V.ref a)) := start_at (by rw [← hl]; simp)
  have hmo : ∀ b, Mo (fun _ => False) (start N (ws ++ .ref a :: us)) (slotsI N.length a ns ds es) b → b = a := fun b z => by
    rcases z with ⟨i, s, g1, g2, g3⟩ | z
    · obtain ⟨rfl, _⟩ := hmut g1 g2
      rw [hpen] at g3; cases g3; rfl
    · exact z.elim
  have hll : N.length - (ws.length + (us.length + 1)) = N.length - (ds.length + 1 + es.length) := by rw [r1.length, r2.length]; lia
  have k0 : OK K H (fun _ => False) (start N (ws ++ .ref a :: us)) H (slotsI N.length a ns ds es) := {
    len := by simp [L2.start, slotsI, r1.length, r2.length]; lia
    dom := fun _ e => e
    zl := fun _ z => z.elim
    nz := fun _ _ _ _ _ _ z => z
    inj := fun i j a s t h1 h2 m1 m2 _ _ => by rw [(hmut h1 m1).1, (hmut h2 m2).1]
    at_ := fun i o s h1 h2 => by
      rcases slotsI_at h2 with rfl | ⟨d, rfl, e, hi⟩ | ⟨rfl, rfl⟩
      · trivial
      · have rr : ∃ v, (ws ++ .ref a :: us)[i]? = some v ∧ Rep K (· ≠ a) AnyF H v d := by
          by_cases hi2 : i < ds.length
          · rw [List.getElem?_append_left hi2] at e
            obtain ⟨v, e1, e2⟩ := r1.getD e
            exact ⟨v, by rw [List.getElem?_append_left (by rw [r1.length]; exact hi2)]; exact e1, e2⟩
          · rw [List.getElem?_append_right (by lia)] at e
            obtain ⟨j, hj⟩ : ∃ j, i - ds.length = j + 1 := ⟨i - ds.length - 1, by lia⟩
            rw [hj, List.getElem?_cons_succ] at e
            obtain ⟨v, e1, e2⟩ := r2.getD e
            exact ⟨v, by rw [List.getElem?_append_right (by rw [r1.length]; lia), r1.length, hj, List.getElem?_cons_succ]; exact e1, e2⟩
        obtain ⟨v, e1, e2⟩ := rr
        rw [start_at e1] at h1
        cases h1
        exact ⟨v, rfl, e2.mono (fun b n _ => ⟨fun z => n (hmo b z), rfl⟩) fun _ x => x⟩
      · rw [hpen] at h1
        cases h1
        exact ⟨a, rfl, fun b z => by cases z; rfl, hp⟩ }
  have st0 : ∀ {σ' S' H'}, Step (fun _ => False) (start N (ws ++ .ref a :: us)) (slotsI N.length a ns ds es) H σ' S' H' → ∀ b, b ≠ a → H b ≠ none → H' b = H b := fun st b n e => (st.1 b (fun z => n (hmo b z)) e).1
  have pn : ∀ {σ' S' H' ns'}, OK K H (fun _ => False) σ' H' S' → S'[ds.length]? = some (.pen (some a) ns') → σ'[ds.length]? = some (some (V.ref a)) ∧ H' a = some (.lst (ns'.map .int)) := fun k' e => by
    obtain ⟨o, e1, b, rfl, e2, e3⟩ := k'.ownAt e
    obtain rfl := e2 a rfl
    exact ⟨e1, e3⟩
  refine ⟨ts, vs'.ps, vs'.snd H _ _ H _ _ _ k0 (q a ns ds es R rfl h) ⟨fun σ' H' S' k' st ⟨ns', e, q⟩ => fin .non ns' .non H' q (st0 st) (pn k' e).2 .non, fun σ' H' S' k' st q => q.elim, fun σ' H' S' k' st q => q.elim, fun v d σ' H' S' k' st rr ⟨ns', e, q⟩ => fin d ns' v H' q (st0 st) (pn k' e).2 (rr.mono (fun b n _ => ⟨fun z => ?_, rfl⟩) fun _ x => x)⟩⟩
  subst z
  exact n _ _ _ e (pn k' e).1
end
end VL
end
section
set_option maxHeartbeats 4000000
namespace VL
open PySem L2
section
variable {S : List Sl} {Q : VR → List Sl → Prop} {V : VEnds}
end
end VL
end
section
set_option maxHeartbeats 4000000
namespace VL
open PySem L2
mutual
def pd : D → PyData
  | .int i => .int i
  | .bl b => .bool b
  | .non => .none
  | .str x => .str x
  | .ty _ => .none
  | .dic _ _ => .none
  | .exc _ => .none
  | .tup ds => .tuple (pds ds)
  | .lst ds => .list (pds ds)
def pds : List D → List PyData
  | [] => []
  | d :: r => pd d :: pds r
end
mutual
def noTy : D → Bool
  | .ty _ => false
  | .dic _ _ => false
  | .exc _ => false
  | .tup ds => noTys ds
  | .lst ds => noTys ds
  | _ => true
def noTys : List D → Bool
  | [] => true
  | d :: r => noTy d && noTys r
end
section
variable {K : PySem.W.Frag} {X : Cx} {pins : List (Addr × Obj)} {σ : St} {H : Hp} {s : Shared} {N : AP} {F : FP}
mutual
theorem rep_reads (I : Inv X pins σ H s) (hK : X.K = K) {v : V} {d : D} {u : Value} : Rep K N F H v d → noTy d = true → RelV v u → ∃ as, Reads s.heap u (pd d) as
  | .int i, _, r => by obtain ⟨t, rfl⟩ := r; exact ⟨_, .int i t⟩
  | .bl b, _, r => by cases r; exact ⟨_, .bool b⟩
  | .non, _, r => by cases r; exact ⟨_, .none⟩
  | .str x, _, r => by obtain ⟨t, rfl⟩ := r; exact ⟨_, .str x t⟩
  | .ty x, e, _ => by cases e
  | .dic n f h _ _ rs, e, _ => by simp [noTy] at e
  | .exc n h _, e, _ => by simp [noTy] at e
  | .tup n h rs, e, r => by
    cases r
    obtain ⟨its, rv, ⟨o, ho, hc, n, hd⟩, _⟩ := I.tuple (xs := _) (.inl h)
    obtain ⟨as, ra⟩ := reps_reads I hK rs (by simpa [noTy] using e) rv
    exact ⟨as, .tuple ho hc hd (by simpa using ra)⟩
  | .tupK h rs, e, r => by
    cases r
    obtain ⟨its, rv, ⟨o, ho, hc, n, hd⟩, _⟩ := I.tuple (xs := _) (by rw [hK]; exact sqT_none h)
    obtain ⟨as, ra⟩ := reps_reads I hK rs (by simpa [noTy] using e) rv
    exact ⟨as, .tuple ho hc hd (by simpa using ra)⟩
  | .lst n f h rs, e, r => by
    cases r
    obtain ⟨its, rv, pl, _⟩ := I.list (xs := _) (.inl (.inl h))
    obtain ⟨o, ho, hc, n, hd⟩ := pl.isList
    obtain ⟨as, ra⟩ := reps_reads I hK rs (by simpa [noTy] using e) rv
    exact ⟨_, .list ho hc hd (by simpa using ra)⟩
  | .lstF n f h rs, e, r => by
    cases r
    obtain ⟨its, rv, pl, _⟩ := I.list (xs := _) (.inl (.inr ⟨_, h⟩))
    obtain ⟨o, ho, hc, n, hd⟩ := pl.isList
    obtain ⟨as, ra⟩ := reps_reads I hK rs (by simpa [noTy] using e) rv
    exact ⟨_, .list ho hc hd (by simpa using ra)⟩
  | .lstK f h rs, e, r => by
    cases r
    obtain ⟨its, rv, pl, _⟩ := I.list (xs := _) (by rw [hK]; exact sqL_none h)
    obtain ⟨o, ho, hc, n, hd⟩ := pl.isList
    obtain ⟨as, ra⟩ := reps_reads I hK rs (by simpa [noTy] using e) rv
    exact ⟨_, .list ho hc hd (by simpa using ra)⟩
theorem reps_reads (I : Inv X pins σ H s) (hK : X.K = K) {vs : List V} {ds : List D} {us : List Value} : Reps K N F H vs ds → noTys ds = true → Vals vs us → ∃ as, ReadsAll s.heap us (pds ds) as
  | .nil, _, r => by cases r; exact ⟨_, .nil⟩
  | .cons h t, e, r => by
    simp only [noTys, Bool.and_eq_true] at e
    cases r with
    | cons r1 r2 =>
      obtain ⟨as, ra⟩ := rep_reads I hK h e.1 r1
      obtain ⟨bs, rb⟩ := reps_reads I hK t e.2 r2
      exact ⟨_, .cons ra rb⟩
end
end
structure Okd (d : D) : Prop where
  ty : noTy d = true
  lay : (pd d).canLay0 = true
  dep : (pd d).depth ≤ 40
def rEqD (K : PySem.W.Frag) (neg : Bool) : R2 := fun x y H Q => ∃ d1 d2, Rep K Any AnyF H x d1 ∧ Rep K Any AnyF H y d2 ∧ Okd d1 ∧ Okd d2 ∧ Q (.bl (if neg then !PyData.eqv (pd d1) (pd d2) else PyData.eqv (pd d1) (pd d2))) H
def wEqD (neg : Bool) : D → D → (D → Prop) → Prop := fun d1 d2 q => Okd d1 ∧ Okd d2 ∧ q (.bl (if neg then !PyData.eqv (pd d1) (pd d2) else PyData.eqv (pd d1) (pd d2)))
def rInD (K : PySem.W.Frag) (neg : Bool) : R2 := fun x y H Q => ∃ d ds, Rep K Any AnyF H x d ∧ (Rep K Any AnyF H y (.lst ds) ∨ Rep K Any AnyF H y (.tup ds)) ∧ Okd d ∧ Okd (.lst ds) ∧ Q (.bl (if neg then !(pds ds).any (fun y => PyData.eqv y (pd d)) else (pds ds).any (fun y => PyData.eqv y (pd d)))) H
def wInD (neg : Bool) : D → D → (D → Prop) → Prop := fun d d2 q => ∃ ds, (d2 = .lst ds ∨ d2 = .tup ds) ∧ Okd d ∧ Okd (.lst ds) ∧ q (.bl (if neg then !(pds ds).any (fun y => PyData.eqv y (pd d)) else (pds ds).any (fun y => PyData.eqv y (pd d))))
section
variable {K : PySem.W.Frag} {X : Cx}
theorem op_eqD (hK : X.K = K) (hu : X.A.units + 64 < cLine) : OpR X (compareOp .Eq) (rEqD K false) := by
  intro pins s σ H x y v u Q I rx ry ⟨d1, d2, r1, r2, o1, o2, q⟩
  obtain ⟨as, ra⟩ := rep_reads I hK r1 o1.ty rx
  obtain ⟨bs, rb⟩ := rep_reads I hK r2 o2.ty ry
  exact SeqAt.compareEq_reads ra rb o1.lay o2.lay (by have := o1.dep; lia) ⟨.bl _, H, I, rfl, q⟩
theorem op_neD (hK : X.K = K) (hu : X.A.units + 64 < cLine) : OpR X (compareOp .NotEq) (rEqD K true) := by
  intro pins s σ H x y v u Q I rx ry ⟨d1, d2, r1, r2, o1, o2, q⟩
  obtain ⟨as, ra⟩ := rep_reads I hK r1 o1.ty rx
  obtain ⟨bs, rb⟩ := rep_reads I hK r2 o2.ty ry
  exact SeqAt.compareNe_reads ra rb o1.lay o2.lay (by have := o1.dep; lia) ⟨.bl _, H, I, rfl, q⟩
theorem okd_items {ds : List D} (o : Okd (.lst ds)) : PyData.canLayAll0 (pds ds) = true ∧ PyData.depthAll (pds ds) ≤ 40 ∧ noTy (.tup ds) = true := by
  refine ⟨by simpa [pd, PyData.canLay0] using o.lay, ?_, by simpa [noTy] using o.ty⟩
  have := o.dep
  simp only [pd, PyData.depth] at this
  lia
theorem op_notInD (hK : X.K = K) (hu : X.A.units + 64 < cLine) : OpR X (compareOp .NotIn) (rInD K true) := by
  intro pins s σ H x y v u Q I rx ry ⟨d, ds, r1, r2, o1, o2, q⟩
  obtain ⟨as, ra⟩ := rep_reads I hK r1 o1.ty rx
  obtain ⟨h1, h2, h3⟩ := okd_items o2
  rcases r2 with r2 | r2
  · obtain ⟨bs, rb⟩ := rep_reads I hK r2 o2.ty ry
    exact SeqAt.notIn_list_reads (by simpa [pd] using rb) ra h1 o1.lay (by lia) ⟨.bl _, H, I, rfl, q⟩
  · obtain ⟨bs, rb⟩ := rep_reads I hK r2 h3 ry
    exact SeqAt.notIn_tuple_reads (by simpa [pd] using rb) ra h1 o1.lay (by lia) ⟨.bl _, H, I, rfl, q⟩
theorem l_eqD {neg : Bool} : Lift2 K (rEqD K neg) (wEqD neg) := fun x y H d1 d2 q C r1 r2 ⟨o1, o2, h⟩ hc => ⟨d1, d2, r1, r2, o1, o2, hc _ _ h fun _ _ => .bl _⟩
theorem l_inD {neg : Bool} : Lift2 K (rInD K neg) (wInD neg) := fun x y H d1 d2 q C r1 r2 ⟨ds, e, o1, o2, h⟩ hc => ⟨d1, ds, r1, e.imp (fun e => by rw [← e]; exact r2) (fun e => by rw [← e]; exact r2), o1, o2, hc _ _ h fun _ _ => .bl _⟩
end
theorem pds_map {α : Type} (f : α → D) : ∀ l : List α, pds (l.map f) = l.map fun x => pd (f x)
  | [] => rfl
  | _ :: r => by simp [pds, pds_map f r]
theorem noTys_map {α : Type} {f : α → D} (h : ∀ x, noTy (f x) = true) : ∀ l : List α, noTys (l.map f) = true
  | [] => rfl
  | _ :: r => by simp [noTys, h, noTys_map h r]
theorem lays_map {α : Type} {f : α → PyData} (h : ∀ x, (f x).canLay0 = true) : ∀ l : List α, PyData.canLayAll0 (l.map f) = true
  | [] => rfl
  | _ :: r => by simp [PyData.canLayAll0, h, lays_map h r]
theorem deps_map {α : Type} {f : α → PyData} {n : Nat} (h : ∀ x, (f x).depth ≤ n) : ∀ l : List α, PyData.depthAll (l.map f) ≤ n
  | [] => by simp [PyData.depthAll]
  | x :: r => by simp only [List.map_cons, PyData.depthAll]; exact Nat.max_le.mpr ⟨h x, deps_map h r⟩
structure Enc {α : Type} (n : Nat) (f : α → D) : Prop where
  ty : ∀ x, noTy (f x) = true
  lay : ∀ x, (pd (f x)).canLay0 = true
  dep : ∀ x, (pd (f x)).depth ≤ n
  eq : ∀ x y, PyData.eqv (pd (f x)) (pd (f y)) = true ↔ x = y
theorem eqvAll_map {α : Type} {f : α → PyData} (h : ∀ x y, PyData.eqv (f x) (f y) = true ↔ x = y) : ∀ l m : List α, PyData.eqvAll (l.map f) (m.map f) = true ↔ l = m
  | [], [] => by simp [PyData.eqvAll]
  | [], _ :: _ => by simp [PyData.eqvAll]
  | _ :: _, [] => by simp [PyData.eqvAll]
  | x :: r, y :: t => by simp [PyData.eqvAll, h, eqvAll_map h r t]
theorem enc_int : Enc 0 D.int := ⟨fun _ => rfl, fun _ => rfl, fun _ => Nat.le_refl _, fun x y => by simp [pd, PyData.eqv]⟩
theorem Enc.tup {α : Type} {n : Nat} {f : α → D} (e : Enc n f) : Enc (n + 1) (fun l : List α => D.tup (l.map f)) where
  ty := fun l => by simp only [noTy]; exact noTys_map e.ty l
  lay := fun l => by simp only [pd, PyData.canLay0, pds_map]; exact lays_map e.lay l
  dep := fun l => by simp only [pd, PyData.depth, pds_map]; exact Nat.succ_le_succ (deps_map e.dep l)
  eq := fun l m => by simp only [pd, PyData.eqv, pds_map]; exact eqvAll_map e.eq l m
theorem Enc.lst {α : Type} {n : Nat} {f : α → D} (e : Enc n f) : Enc (n + 1) (fun l : List α => D.lst (l.map f)) where
  ty := fun l => by simp only [noTy]; exact noTys_map e.ty l
  lay := fun l => by simp only [pd, PyData.canLay0, pds_map]; exact lays_map e.lay l
  dep := fun l => by simp only [pd, PyData.depth, pds_map]; exact Nat.succ_le_succ (deps_map e.dep l)
  eq := fun l m => by simp only [pd, PyData.eqv, pds_map]; exact eqvAll_map e.eq l m
theorem enc_eT : Enc 1 eT := enc_int.tup
theorem Enc.okd {α : Type} {n : Nat} {f : α → D} (e : Enc n f) (hn : n ≤ 40) (x : α) : Okd (f x) := ⟨e.ty x, e.lay x, Nat.le_trans (e.dep x) hn⟩
theorem Enc.eqv {α : Type} [DecidableEq α] {n : Nat} {f : α → D} (e : Enc n f) (x y : α) : PyData.eqv (pd (f x)) (pd (f y)) = decide (x = y) := by
  rw [Bool.eq_iff_iff, e.eq, decide_eq_true_iff]
theorem Enc.any {α : Type} [DecidableEq α] {n : Nat} {f : α → D} (e : Enc n f) (x : α) (l : List α) : (pds (l.map f)).any (fun y => PyData.eqv y (pd (f x))) = decide (x ∈ l) := by
  rw [pds_map, List.any_map]
  induction l with
  | nil => simp
  | cons a r ih =>
    rw [List.any_cons, ih]
    simp only [Function.comp, e.eqv]
    rw [Bool.eq_iff_iff]
    simp only [Bool.or_eq_true, decide_eq_true_eq, List.mem_cons]
    exact ⟨fun z => z.elim (fun z => .inl z.symm) .inr, fun z => z.elim (fun z => .inl z.symm) .inr⟩
theorem i_eqE {α : Type} [DecidableEq α] {n : Nat} {f : α → D} (e : Enc n f) {x y : α} {q : D → Prop} (h : q (.bl (decide (x = y)))) (hn : n ≤ 40 := by decide) : wEqD false (f x) (f y) q := ⟨e.okd hn x, e.okd hn y, by simpa [e.eqv] using h⟩
theorem i_neE {α : Type} [DecidableEq α] {n : Nat} {f : α → D} (e : Enc n f) {x y : α} {q : D → Prop} (h : q (.bl (!decide (x = y)))) (hn : n ≤ 40 := by decide) : wEqD true (f x) (f y) q := ⟨e.okd hn x, e.okd hn y, by simpa [e.eqv] using h⟩
end VL
namespace VL
open PySem L2
section
variable {K : PySem.W.Frag} {X : Cx}
theorem c_len (hK : X.K = K) : CallR X (.builtin "len") (fun xs H Q => ∃ p ys, xs = [.ref p] ∧ (SqL K H p ys ∨ SqT K H p ys) ∧ Q (.int ys.length) H) := by subst hK; exact call_len_seq
theorem c_isi (hK : X.K = K) : CallR X (.builtin "isinstance") (rIsi K) := by subst hK; exact call_isi
theorem bt_sorted : bootBuiltins "sorted" = some (.builtin "sorted") := by decide +kernel
theorem bt_all : bootBuiltins "all" = some (.builtin "all") := by decide +kernel
theorem bt_set : bootBuiltins "set" = some (.type "set") := by decide +kernel
theorem bt_str : bootBuiltins "str" = some (.type "str") := by decide +kernel
end
end VL
end
section
set_option maxHeartbeats 4000000
namespace VL
open PySem L2
section
variable {S S1 : List Sl} {Q : VR → List Sl → Prop} {QT : Bool → List Sl → Prop} {QN : List D → List Sl → Prop} {QA : List VR → List Sl → Prop} {W : VEnds} {va vb : VT} {vr : VTA} {vt vu : VTT} {vn : VTN} {s t : VTS} {g : VG}
def kSeq (u : VTS) (W : VEnds) : List Sl → Prop := fun S' => ∃ S'', Wk S' S'' ∧ u W S''
theorem i_seq {u : VTS} (h : t ⟨kSeq u W, W.rt, W.bk, W.ct⟩ S) : vSeq t u W S := h
theorem i_kSeq {u : VTS} (h : u W S) : kSeq u W S := ⟨S, Wk.refl S, h⟩
def kAsg (g : VG) (W : VEnds) : VR → List Sl → Prop := fun r S1 => ∃ d, r = .d d ∧ g d S1 W.nx
theorem i_asg (h : va S (kAsg g W)) : vAsg va g W S := h
theorem i_kAsg {d : D} (h : g d S W.nx) : kAsg g W (.d d) S := ⟨d, rfl, h⟩
theorem i_gN {i : Nat} {d : D} {q : List Sl → Prop} (e : Nat.ble (i + 1) S.length = true) (h : q (S.set i (.val d))) : vgN i d S q := ⟨Nat.le_of_ble_eq_true e, h⟩
theorem i_gT {n : Nat} {ds : List D} {u : List D → List Sl → (List Sl → Prop) → Prop} {q : List Sl → Prop} (e : ds.length = n) (h : u ds S q) : vgT n u (.tup ds) S q := ⟨ds, rfl, e, h⟩
theorem i_gNil {q : List Sl → Prop} (h : q S) : vgNil [] S q := ⟨rfl, h⟩
theorem i_gCons {d : D} {r : List D} {u : List D → List Sl → (List Sl → Prop) → Prop} {q : List Sl → Prop} (h : g d S fun S1 => u r S1 q) : vgCons g u (d :: r) S q := ⟨d, r, rfl, h⟩
def kSetN (i : Nat) (W : VEnds) : List D → List Sl → Prop := fun ds S1 => i < S1.length ∧ W.nx (S1.set i (.own ds))
theorem i_setN {i : Nat} (h : vn S (kSetN i W)) : vSetN i vn W S := h
theorem i_kSetN {i : Nat} {ds : List D} (e : Nat.ble (i + 1) S.length = true) (h : W.nx (S.set i (.own ds))) : kSetN i W ds S := ⟨Nat.le_of_ble_eq_true e, h⟩
def kSetP (i : Nat) (W : VEnds) : List D → List Sl → Prop := fun ds S1 => ∃ ns : List Int, ds = ns.map .int ∧ i < S1.length ∧ W.nx (S1.set i (.pen none ns))
theorem i_setP {i : Nat} (h : vn S (kSetP i W)) : vSetP i vn W S := h
theorem i_kSetP {i : Nat} {ns : List Int} (e : Nat.ble (i + 1) S.length = true) (h : W.nx (S.set i (.pen none ns))) : kSetP i W (ns.map .int) S := ⟨ns, rfl, Nat.le_of_ble_eq_true e, h⟩
def kRet (W : VEnds) : VR → List Sl → Prop := fun r S1 => ∃ d, retD S1 r = some d ∧ W.rt d S1
theorem i_ret (h : va S (kRet W)) : vRet va W S := h
theorem i_kRet {r : VR} {d : D} (e : retD S r = some d) (h : W.rt d S) : kRet W r S := ⟨d, e, h⟩
def kIf (t u : VTS) (W : VEnds) : Bool → List Sl → Prop := fun b S1 => if b = true then t W S1 else u W S1
theorem i_ifS {u : VTS} (h : vt S (kIf t u W)) : vIfS vt t u W S := h
theorem i_kIf {u : VTS} {b : Bool} (h1 : b = true → t W S) (h2 : b = false → u W S) : kIf t u W b S := by
  cases b with
  | true => show (if true = true then _ else _); rw [if_pos rfl]; exact h1 rfl
  | false => show (if false = true then _ else _); rw [if_neg Bool.false_ne_true]; exact h2 rfl
theorem i_kIfT {u : VTS} (h : t W S) : kIf t u W true S := by show (if true = true then _ else _); rw [if_pos rfl]; exact h
theorem i_kIfF {u : VTS} (h : u W S) : kIf t u W false S := by show (if false = true then _ else _); rw [if_neg Bool.false_ne_true]; exact h
theorem i_kIfd {u : VTS} {p : Prop} [Decidable p] (h1 : p → t W S) (h2 : ¬p → u W S) : kIf t u W (decide p) S := i_kIf (fun e => h1 (of_decide_eq_true e)) (fun e => h2 (of_decide_eq_false e))
def kDrop (W : VEnds) : VR → List Sl → Prop := fun _ S1 => W.nx S1
theorem i_drop (h : va S (kDrop W)) : vDrop va W S := h
theorem i_kDrop {r : VR} (h : W.nx S) : kDrop W r S := h
theorem i_next (h : W.nx S) : vNext W S := h
theorem j_c {d : D} (h : Q (.d d) S) : vC d S Q := h
theorem j_var {i : Nat} {r : VR} (e : rdO i S[i]? = some r) (h : Q r S) : vVar i S Q := ⟨r, e, h⟩
def kFlat (Q : VR → List Sl → Prop) : VR → List Sl → Prop := fun r S' => (match r with | .d d => flat d = true | .own _ => True) ∧ Q r S'
theorem j_flat (h : va S (kFlat Q)) : vFlat va S Q := h
theorem j_kFlat {d : D} (e : flat d = true) (h : Q (.d d) S) : kFlat Q (.d d) S := ⟨e, h⟩
def k2a (w : D → D → (D → Prop) → Prop) (vb : VT) (Q : VR → List Sl → Prop) : VR → List Sl → Prop := fun ra S1 => vb S1 fun rb S2 => ∃ d1 d2, get S2 ra = some d1 ∧ get S2 rb = some d2 ∧ w d1 d2 fun d => Q (.d d) S2
def k2b (w : D → D → (D → Prop) → Prop) (Q : VR → List Sl → Prop) (ra : VR) : VR → List Sl → Prop := fun rb S2 => ∃ d1 d2, get S2 ra = some d1 ∧ get S2 rb = some d2 ∧ w d1 d2 fun d => Q (.d d) S2
theorem j_2 {w : D → D → (D → Prop) → Prop} (h : va S (k2a w vb Q)) : v2 w va vb S Q := h
theorem j_2a {w : D → D → (D → Prop) → Prop} {ra : VR} (h : vb S (k2b w Q ra)) : k2a w vb Q ra S := h
theorem j_2b {w : D → D → (D → Prop) → Prop} {ra rb : VR} {d1 d2 : D} (e1 : get S ra = some d1) (e2 : get S rb = some d2) (h : w d1 d2 fun d => Q (.d d) S) : k2b w Q ra rb S := ⟨d1, d2, e1, e2, h⟩
theorem j_wI0 {f : Int → Int → L2.V} {i j : Int} {q : D → Prop} (h : q (ofV (f i j))) : wI0 f (.int i) (.int j) q := ⟨i, j, rfl, rfl, h⟩
theorem j_wI {C : Int → Int → Prop} {f : Int → Int → L2.V} {i j : Int} {q : D → Prop} (c : C i j) (h : q (ofV (f i j))) : wI C f (.int i) (.int j) q := ⟨i, j, rfl, rfl, c, h⟩
theorem j_isN {d : D} {q : D → Prop} {neg : Bool} (h : q (.bl (if neg then !isNo d else isNo d))) : wIsN neg d .non q := ⟨rfl, h⟩
def kIx1 (vb : VT) (Q : VR → List Sl → Prop) : VR → List Sl → Prop := fun ra S1 => vb S1 fun rb S2 => ∃ ds i d, (get S2 ra = some (.lst ds) ∨ get S2 ra = some (.tup ds)) ∧ get S2 rb = some (.int i) ∧ atI ds i = some d ∧ Q (.d d) S2
def kIx2 (Q : VR → List Sl → Prop) (ra : VR) : VR → List Sl → Prop := fun rb S2 => ∃ ds i d, (get S2 ra = some (.lst ds) ∨ get S2 ra = some (.tup ds)) ∧ get S2 rb = some (.int i) ∧ atI ds i = some d ∧ Q (.d d) S2
theorem j_ix (h : va S (kIx1 vb Q)) : vIx va vb S Q := h
theorem j_ix1 {ra : VR} (h : vb S (kIx2 Q ra)) : kIx1 vb Q ra S := h
theorem j_ixL {ra rb : VR} {ds : List D} {i : Int} {d : D} (e1 : get S ra = some (.lst ds)) (e2 : get S rb = some (.int i)) (e3 : atI ds i = some d) (h : Q (.d d) S) : kIx2 Q ra rb S := ⟨ds, i, d, .inl e1, e2, e3, h⟩
def kTest (QT : Bool → List Sl → Prop) : VR → List Sl → Prop := fun r S' => ∃ k, r = .d (.bl k) ∧ QT k S'
theorem j_test (h : va S (kTest QT)) : vTest va S QT := h
theorem j_kTest {k : Bool} (h : QT k S) : kTest QT (.d (.bl k)) S := ⟨k, rfl, h⟩
def kAnd (u : VTT) (QT : Bool → List Sl → Prop) : Bool → List Sl → Prop := fun c S1 => if c = true then u S1 QT else QT false S1
def kOr (u : VTT) (QT : Bool → List Sl → Prop) : Bool → List Sl → Prop := fun c S1 => if c = true then QT true S1 else u S1 QT
def kNot (QT : Bool → List Sl → Prop) : Bool → List Sl → Prop := fun c S1 => QT (!c) S1
theorem j_and (h : vt S (kAnd vu QT)) : vAnd vt vu S QT := h
theorem j_or (h : vt S (kOr vu QT)) : vOr vt vu S QT := h
theorem j_not (h : vt S (kNot QT)) : vNot vt S QT := h
theorem j_kNot {b : Bool} (h : QT (!b) S) : kNot QT b S := h
theorem j_kAnd {b : Bool} (h1 : b = true → vu S QT) (h2 : b = false → QT false S) : kAnd vu QT b S := by
  cases b with
  | true => show (if true = true then _ else _); rw [if_pos rfl]; exact h1 rfl
  | false => show (if false = true then _ else _); rw [if_neg Bool.false_ne_true]; exact h2 rfl
theorem j_kOr {b : Bool} (h1 : b = true → QT true S) (h2 : b = false → vu S QT) : kOr vu QT b S := by
  cases b with
  | true => show (if true = true then _ else _); rw [if_pos rfl]; exact h1 rfl
  | false => show (if false = true then _ else _); rw [if_neg Bool.false_ne_true]; exact h2 rfl
theorem j_kOrF (h : vu S QT) : kOr vu QT false S := j_kOr (fun e => nomatch e) fun _ => h
theorem j_kOrT (h : QT true S) : kOr vu QT true S := j_kOr (fun _ => h) fun e => nomatch e
theorem j_kAndT (h : vu S QT) : kAnd vu QT true S := j_kAnd (fun _ => h) fun e => nomatch e
theorem j_kAndF (h : QT false S) : kAnd vu QT false S := j_kAnd (fun e => nomatch e) fun _ => h
def kAndV (vb : VT) (Q : VR → List Sl → Prop) : VR → List Sl → Prop := fun r S1 => ∃ c, r = .d (.bl c) ∧ if c = true then vb S1 Q else Q (.d (.bl false)) S1
def kNotV (Q : VR → List Sl → Prop) : VR → List Sl → Prop := fun r S1 => ∃ c, r = .d (.bl c) ∧ Q (.d (.bl (!c))) S1
theorem j_andV (h : va S (kAndV vb Q)) : vAndV va vb S Q := h
theorem j_notV (h : va S (kNotV Q)) : vNotV va S Q := h
theorem j_kNotV {c : Bool} (h : Q (.d (.bl (!c))) S) : kNotV Q (.d (.bl c)) S := ⟨c, rfl, h⟩
theorem j_kAndV {c : Bool} (h1 : c = true → vb S Q) (h2 : c = false → Q (.d (.bl false)) S) : kAndV vb Q (.d (.bl c)) S := ⟨c, rfl, by
  cases c with
  | true => rw [if_pos rfl]; exact h1 rfl
  | false => rw [if_neg Bool.false_ne_true]; exact h2 rfl⟩
theorem j_nil (h : QA [] S) : vNil S QA := h
def kCons1 (vr : VTA) (QA : List VR → List Sl → Prop) : VR → List Sl → Prop := fun r S1 => vr S1 fun rs S2 => QA (r :: rs) S2
theorem j_cons (h : va S (kCons1 vr QA)) : vCons va vr S QA := h
theorem j_kCons {r : VR} (h : vr S fun rs S2 => QA (r :: rs) S2) : kCons1 vr QA r S := h
def kTup (Q : VR → List Sl → Prop) : List VR → List Sl → Prop := fun rs S1 => ∃ ds, allD rs = some ds ∧ ds.length ≤ 1000 ∧ Q (.d (.tup ds)) S1
theorem j_tup (h : vr S (kTup Q)) : vTup vr S Q := h
theorem j_kTup {rs : List VR} {ds : List D} (e : allD rs = some ds) (e2 : Nat.ble ds.length 1000 = true) (h : Q (.d (.tup ds)) S) : kTup Q rs S := ⟨ds, e, Nat.le_of_ble_eq_true e2, h⟩
def kLst (QN : List D → List Sl → Prop) : List VR → List Sl → Prop := fun rs S1 => ∃ ds, allD rs = some ds ∧ ds.length ≤ 1000 ∧ QN ds S1
theorem j_lst (h : vr S (kLst QN)) : vLst vr S QN := h
theorem j_kLst {rs : List VR} {ds : List D} (e : allD rs = some ds) (e2 : Nat.ble ds.length 1000 = true) (h : QN ds S) : kLst QN rs S := ⟨ds, e, Nat.le_of_ble_eq_true e2, h⟩
def kNew (Q : VR → List Sl → Prop) : List D → List Sl → Prop := fun ds S1 => Q (.d (.lst ds)) S1
theorem j_new (h : vn S (kNew Q)) : vNew vn S Q := h
theorem j_kNew {ds : List D} (h : Q (.d (.lst ds)) S) : kNew Q ds S := h
def kCB (w : List D → (D → Prop) → Prop) (Q : VR → List Sl → Prop) : List VR → List Sl → Prop := fun rs S1 => ∃ ds, gets S1 rs = some ds ∧ w ds fun d => Q (.d d) S1
theorem j_cb {w : List D → (D → Prop) → Prop} (h : vr S (kCB w Q)) : vCB w vr S Q := h
theorem j_kCB {w : List D → (D → Prop) → Prop} {rs : List VR} {ds : List D} (e : gets S rs = some ds) (h : w ds fun d => Q (.d d) S) : kCB w Q rs S := ⟨ds, e, h⟩
theorem j_lenL {es : List D} {q : D → Prop} (h : q (.int es.length)) : wLen [.lst es] q := ⟨es, .inl rfl, h⟩
theorem j_lenT {es : List D} {q : D → Prop} (h : q (.int es.length)) : wLen [.tup es] q := ⟨es, .inr rfl, h⟩
theorem j_fn {p : List D → (D → Prop) → Prop} (h : vr S (kCB p Q)) : vFn p vr S Q := h
def kFnN (p : List D → (D → Prop) → Prop) (QN : List D → List Sl → Prop) : List VR → List Sl → Prop := fun rs S1 => ∃ ds, gets S1 rs = some ds ∧ p ds fun d => ∃ es, d = .lst es ∧ flats es = true ∧ QN es S1
theorem j_fnN {p : List D → (D → Prop) → Prop} (h : vr S (kFnN p QN)) : vFnN p vr S QN := h
theorem j_kFnN {p : List D → (D → Prop) → Prop} {rs : List VR} {ds : List D} (e : gets S rs = some ds) (h : p ds fun d => ∃ es, d = .lst es ∧ flats es = true ∧ QN es S) : kFnN p QN rs S := ⟨ds, e, h⟩
def kFnI (j : Nat) (p : List Int → List D → (D → List Int → Prop) → Prop) (Q : VR → List Sl → Prop) : List VR → List Sl → Prop := fun rs S1 => ∃ i rs' ad ns ds, pick rs j = some (i, rs') ∧ S1[i]? = some (.pen ad ns) ∧ allD rs' = some ds ∧ p ns ds fun d ns' => Q (.d d) (S1.set i (.pen ad ns'))
theorem j_fnI {j : Nat} {p : List Int → List D → (D → List Int → Prop) → Prop} (h : vr S (kFnI j p Q)) : vFnI j p vr S Q := h
theorem j_kFnI {j : Nat} {p : List Int → List D → (D → List Int → Prop) → Prop} {rs rs' : List VR} {i : Nat} {ad : Option Addr} {ns : List Int} {ds : List D} (e1 : pick rs j = some (i, rs')) (e2 : S[i]? = some (.pen ad ns)) (e3 : allD rs' = some ds) (h : p ns ds fun d ns' => Q (.d d) (S.set i (.pen ad ns'))) : kFnI j p Q rs S := ⟨i, rs', ad, ns, ds, e1, e2, e3, h⟩
def kTupOf (Q : VR → List Sl → Prop) : List VR → List Sl → Prop := fun rs S1 => ∃ r ds, rs = [r] ∧ (get S1 r = some (.lst ds) ∨ r = .d (.tup ds)) ∧ flats ds = true ∧ Q (.d (.tup ds)) S1
theorem j_tupOf (h : vr S (kTupOf Q)) : vTupOf vr S Q := h
theorem j_kTupL {r : VR} {ds : List D} (e : get S r = some (.lst ds)) (f : flats ds = true) (h : Q (.d (.tup ds)) S) : kTupOf Q [r] S := ⟨r, ds, rfl, .inl e, f, h⟩
def kApp (i : Nat) (Q : VR → List Sl → Prop) : VR → List Sl → Prop := fun r S1 => ∃ d ds, r = .d d ∧ S1[i]? = some (.own ds) ∧ ds.length ≤ 1000000 ∧ Q (.d .non) (S1.set i (.own (ds ++ [d])))
theorem j_app {i : Nat} {ds : List D} (e : S[i]? = some (.own ds)) (h : va S (kApp i Q)) : vApp i va S Q := ⟨⟨ds, e⟩, h⟩
theorem j_kApp {i : Nat} {d : D} {ds : List D} (e : S[i]? = some (.own ds)) (e2 : ds.length ≤ 1000000) (h : Q (.d .non) (S.set i (.own (ds ++ [d])))) : kApp i Q (.d d) S := ⟨d, ds, rfl, e, e2, h⟩
def kSetIx1 (i : Nat) (vi : VT) (W : VEnds) : VR → List Sl → Prop := fun r S1 => (∃ s, S1[i]? = some s ∧ s.mut = true) ∧ vi S1 fun ri S2 => ∃ j, get S2 ri = some (.int j) ∧
  ((∃ ad ns k n, S2[i]? = some (.pen ad ns) ∧ ixN ns.length j = some k ∧ r = .d (.int n) ∧ W.nx (S2.set i (.pen ad (ns.set k n)))) ∨
   (∃ ds k d, S2[i]? = some (.own ds) ∧ ixN ds.length j = some k ∧ r = .d d ∧ W.nx (S2.set i (.own (ds.set k d)))))
def kSetIx2 (i : Nat) (W : VEnds) (r : VR) : VR → List Sl → Prop := fun ri S2 => ∃ j, get S2 ri = some (.int j) ∧
  ((∃ ad ns k n, S2[i]? = some (.pen ad ns) ∧ ixN ns.length j = some k ∧ r = .d (.int n) ∧ W.nx (S2.set i (.pen ad (ns.set k n)))) ∨
   (∃ ds k d, S2[i]? = some (.own ds) ∧ ixN ds.length j = some k ∧ r = .d d ∧ W.nx (S2.set i (.own (ds.set k d)))))
theorem i_setIx {i : Nat} (h : va S (kSetIx1 i vb W)) : vSetIx i va vb W S := h
theorem i_kSetIx {i : Nat} {r : VR} {s : Sl} (e : S[i]? = some s) (m : s.mut = true) (h : vb S (kSetIx2 i W r)) : kSetIx1 i vb W r S := ⟨⟨s, e, m⟩, h⟩
theorem i_kSetIxP {i : Nat} {ri : VR} {j n : Int} {ad : Option Addr} {ns : List Int} {k : Nat} (e1 : get S ri = some (.int j)) (e2 : S[i]? = some (.pen ad ns)) (e3 : ixN ns.length j = some k) (h : W.nx (S.set i (.pen ad (ns.set k n)))) : kSetIx2 i W (.d (.int n)) ri S := ⟨j, e1, .inl ⟨ad, ns, k, n, e2, e3, rfl, h⟩⟩
def kFor (g : VG) (b : VTS) (W : VEnds) : List D → List Sl → Prop := fun ds S1 => runFor g b W ds S1 ∨ ∃ Iv : Nat → List Sl → Prop, Iv 0 S1 ∧ (∀ i d S2, ds[i]? = some d → Iv i S2 → g d S2 fun S3 => b { W with nx := Iv (i + 1), ct := Iv (i + 1), bk := W.nx } S3) ∧ ∀ S2, Iv ds.length S2 → W.nx S2
theorem i_for {b : VTS} (h : vn S (kFor g b W)) : vFor vn g b W S := h
theorem i_kFor {b : VTS} {ds : List D} (Iv : Nat → List Sl → Prop) (h0 : Iv 0 S) (h1 : ∀ i d S2, ds[i]? = some d → Iv i S2 → g d S2 fun S3 => b ⟨Iv (i + 1), W.rt, W.nx, Iv (i + 1)⟩ S3) (h2 : ∀ S2, Iv ds.length S2 → W.nx S2) : kFor g b W ds S := .inr ⟨Iv, h0, h1, h2⟩
theorem i_kForU {b : VTS} {ds : List D} (h : runFor g b W ds S) : kFor g b W ds S := .inl h
theorem i_runN {b : VTS} (h : W.nx S) : runFor g b W [] S := h
theorem i_runC {b : VTS} {d : D} {r : List D} (h : g d S fun S3 => b ⟨runFor g b W r, W.rt, W.nx, runFor g b W r⟩ S3) : runFor g b W (d :: r) S := h
theorem i_kForR {b : VTS} {lo : Int} {n : Nat} (Iv : Nat → List Sl → Prop) (h0 : Iv 0 S) (h1 : ∀ i S2, i < n → Iv i S2 → g (.int (lo + (i : Int))) S2 fun S3 => b ⟨Iv (i + 1), W.rt, W.nx, Iv (i + 1)⟩ S3) (h2 : ∀ S2, Iv n S2 → W.nx S2) : kFor g b W (rg lo n) S :=
  .inr ⟨Iv, h0, fun i d S2 e p => by
    have hi : i < n := by have := (List.getElem?_eq_some_iff.mp e).1; rwa [rg_len] at this
    rw [rg_at hi] at e
    cases e
    exact h1 i S2 hi p, fun S2 p => h2 S2 (by rwa [rg_len] at p)⟩
def kItL (QN : List D → List Sl → Prop) : VR → List Sl → Prop := fun r S1 => ∃ ds, r = .d (.lst ds) ∧ QN ds S1
def kItT (QN : List D → List Sl → Prop) : VR → List Sl → Prop := fun r S1 => ∃ ds, r = .d (.tup ds) ∧ QN ds S1
theorem j_itL (h : va S (kItL QN)) : vItL va S QN := h
theorem j_itT (h : va S (kItT QN)) : vItT va S QN := h
theorem j_kItL {ds : List D} (h : QN ds S) : kItL QN (.d (.lst ds)) S := ⟨ds, rfl, h⟩
theorem j_kItT {ds : List D} (h : QN ds S) : kItT QN (.d (.tup ds)) S := ⟨ds, rfl, h⟩
def kRg1 (QN : List D → List Sl → Prop) : List VR → List Sl → Prop := fun rs S1 => ∃ j : Int, rs = [.d (.int j)] ∧ -(2 ^ 62) ≤ j ∧ j < 2 ^ 62 ∧ QN (rg 0 j.toNat) S1
theorem j_rg1 (h : vr S (kRg1 QN)) : vRg1 vr S QN := h
theorem j_kRg1 {j : Int} (h1 : 0 ≤ j ∧ j < 1000000) (h : QN (rg 0 j.toNat) S) : kRg1 QN [.d (.int j)] S := ⟨j, rfl, by lia, by lia, h⟩
def kComp (n : Nat) (ix : List Nat) (g : VG) (vt : VTT) (ve : VT) (QN : List D → List Sl → Prop) : List D → List Sl → Prop := fun ds S1 => ds.length ≤ 1000000 ∧ ∃ Iv : Nat → List D → List Sl → Prop, Iv 0 [] S1 ∧
  (∀ i d ys S2, ds[i]? = some d → Iv i ys S2 → g d (capS n ix S2) fun S3 => vt S3 fun b S4 => if b = true then ve S4 fun r S5 => ∃ x, r = .d x ∧ Iv (i + 1) (ys ++ [x]) (backS n ix S2 S5) else Iv (i + 1) ys (backS n ix S2 S4)) ∧
  ∀ ys S2, Iv ds.length ys S2 → QN ys S2
theorem j_comp {n : Nat} {ix : List Nat} {ve : VT} (h : vn S (kComp n ix g vt ve QN)) : vComp vn n ix g vt ve S QN := h
def kCompT (ve : VT) (A : D → List Sl → Prop) (B : List Sl → Prop) : Bool → List Sl → Prop := fun b S4 => if b = true then ve S4 fun r S5 => ∃ x, r = .d x ∧ A x S5 else B S4
def kCompE (A : D → List Sl → Prop) : VR → List Sl → Prop := fun r S5 => ∃ x, r = .d x ∧ A x S5
theorem j_kComp {n : Nat} {ix : List Nat} {ve : VT} {ds : List D} (Iv : Nat → List D → List Sl → Prop) (hl : ds.length ≤ 1000000) (h0 : Iv 0 [] S)
    (h1 : ∀ i d ys S2, ds[i]? = some d → Iv i ys S2 → g d (capS n ix S2) fun S3 => vt S3 (kCompT ve (fun x S5 => Iv (i + 1) (ys ++ [x]) (backS n ix S2 S5)) (fun S4 => Iv (i + 1) ys (backS n ix S2 S4)))) (h2 : ∀ ys S2, Iv ds.length ys S2 → QN ys S2) : kComp n ix g vt ve QN ds S := ⟨hl, Iv, h0, h1, h2⟩
theorem j_kCompR {n : Nat} {ix : List Nat} {ve : VT} {lo : Int} {m : Nat} (Iv : Nat → List D → List Sl → Prop) (hl : m ≤ 1000000) (h0 : Iv 0 [] S)
    (h1 : ∀ i ys S2, i < m → Iv i ys S2 → g (.int (lo + (i : Int))) (capS n ix S2) fun S3 => vt S3 (kCompT ve (fun x S5 => Iv (i + 1) (ys ++ [x]) (backS n ix S2 S5)) (fun S4 => Iv (i + 1) ys (backS n ix S2 S4)))) (h2 : ∀ ys S2, Iv m ys S2 → QN ys S2) : kComp n ix g vt ve QN (rg lo m) S :=
  ⟨by rw [rg_len]; exact hl, Iv, h0, fun i d ys S2 e p => by
    have hi : i < m := by have := (List.getElem?_eq_some_iff.mp e).1; rwa [rg_len] at this
    rw [rg_at hi] at e
    cases e
    exact h1 i ys S2 hi p, fun ys S2 p => h2 ys S2 (by rwa [rg_len] at p)⟩
theorem j_true (h : QT true S) : vTrue S QT := h
theorem j_kCompT {ve : VT} {A : D → List Sl → Prop} {B : List Sl → Prop} {b : Bool} (h1 : b = true → ve S (kCompE A)) (h2 : b = false → B S) : kCompT ve A B b S := by
  cases b with
  | true => show (if true = true then _ else _); rw [if_pos rfl]; exact h1 rfl
  | false => show (if false = true then _ else _); rw [if_neg Bool.false_ne_true]; exact h2 rfl
theorem j_kCompTT {ve : VT} {A : D → List Sl → Prop} {B : List Sl → Prop} (h : ve S (kCompE A)) : kCompT ve A B true S := j_kCompT (fun _ => h) fun e => nomatch e
theorem j_kCompE {A : D → List Sl → Prop} {x : D} (h : A x S) : kCompE A (.d x) S := ⟨x, rfl, h⟩
theorem j_eqI {i j : Int} {q : D → Prop} (h : q (.bl (decide (i = j)))) : wEq (.int i) (.int j) q := ⟨.int i, .int j, rfl, rfl, rfl, by simpa using h⟩
theorem j_neI {i j : Int} {q : D → Prop} (h : q (.bl (!decide (i = j)))) : wNe (.int i) (.int j) q := ⟨.int i, .int j, rfl, rfl, rfl, by simpa using h⟩
theorem j_isi {d : D} {c : String} {b : Bool} {q : D → Prop} (hn : ∀ n, d ≠ .ty n) (e : isiB (tyD d) c = some b) (h : q (.bl b)) (hE : isE d = false := by with_unfolding_all rfl) : wIsi [d, .ty c] q := ⟨d, c, b, rfl, hn, hE, e, h⟩
end
end VL
end
section
set_option maxHeartbeats 4000000
namespace VL
open PySem L2
section
variable {K : PySem.W.Frag} {X : Cx} {m : Bool} {e a b c o : Expr} {ta tb tc te : TE} {va vb vc : VT} {pos : Pos}
def vChain (w w' : D → D → (D → Prop) → Prop) (va vb vc : VT) : VT := fun S Q => va S fun ra S1 => vb S1 fun rb S2 => ∃ d1 d2, get S2 ra = some d1 ∧ get S2 rb = some d2 ∧ w d1 d2 fun d => ∃ k, d = .bl k ∧
  if k = true then vc S2 fun rc S3 => ∃ d2' d3, get S3 rb = some d2' ∧ get S3 rc = some d3 ∧ w' d2' d3 fun d => Q (.d d) S3 else Q (.d (.bl false)) S2
theorem sndChain {r r' : R2} {w w' : D → D → (D → Prop) → Prop} (L : Lift2 K r w) (L' : Lift2 K r' w') (ha : SndE K false ta va) (hb : SndE K false tb vb) (hc : SndE K false tc vc) : SndE K m (tChain r r' ta tb tc) (vChain w w' va vb vc) := by
  intro H0 Z σ H S Q C k t hq
  refine ha H0 Z σ H S _ _ k t fun x H1 ra S1 k1 st1 r1 t1 => ?_
  refine hb H0 Z σ H1 S1 _ _ k1 t1 fun y H2 rb S2 k2 st2 r2 ⟨d1, d2, e1, e2, t2⟩ => ?_
  refine L x y H2 d1 d2 _ _ ((r1.step st2).get k2 e1) (r2.get k2 e2) t2 fun z dz ⟨b, eb, q⟩ rz => ?_
  subst eb
  cases rz Any AnyF
  refine ⟨b, rfl, ?_⟩
  cases b with
  | false => rw [if_neg Bool.false_ne_true] at q ⊢; exact hq _ H2 (.d (.bl false)) S2 k2 (st1.trans st2) (Rep.bl false) q
  | true =>
    rw [if_pos rfl] at q ⊢
    refine hc H0 Z σ H2 S2 _ _ k2 q fun u H3 rc S3 k3 st3 r3 ⟨d2', d3, g1, g2, t3⟩ => ?_
    exact L' y u H3 d2' d3 _ _ ((r2.step st3).get k3 g1) (r3.get k3 g2) t3 fun z dz q rz => hq z H3 (.d dz) S3 k3 ((st1.trans st2).trans st3) (rz _ _) q
theorem ve_chain {op op' : CmpOp} {r r' : R2} {w w' : D → D → (D → Prop) → Prop} (ho : OpR X (compareOp op) r) (L : Lift2 K r w) (ho' : OpR X (compareOp op') r') (L' : Lift2 K r' w') (ha : VE K X false a ta va) (hb : VE K X false b tb vb) (hc : VE K X false c tc vc)
    (hm : lastMarks [op, op'] [b, c] = false := by with_unfolding_all rfl) : VE K X m (.Compare a [op, op'] [b, c] pos) (tChain r r' ta tb tc) (vChain w w' va vb vc) := ⟨pe_chain ho ho' ha.pe hb.pe hc.pe hm, sndChain L L' ha.snd hb.snd hc.snd⟩
end
section
variable {S : List Sl} {Q : VR → List Sl → Prop} {QT : Bool → List Sl → Prop} {W : VEnds} {va vb : VT} {vt vu : VTT} {t u : VTS} {b : Bool}
theorem c_orT (e : b = true) (h : QT true S) : kOr vu QT b S := by subst e; exact j_kOrT h
theorem c_orF (e : b = false) (h : vu S QT) : kOr vu QT b S := by subst e; exact j_kOrF h
theorem c_ifT (e : b = true) (h : t W S) : kIf t u W b S := by subst e; exact i_kIfT h
theorem c_ifF (e : b = false) (h : u W S) : kIf t u W b S := by subst e; exact i_kIfF h
theorem c_avT {c : Bool} (e : c = true) (h : vb S Q) : kAndV vb Q (.d (.bl c)) S := by subst e; exact j_kAndV (fun _ => h) fun e => nomatch e
end
section
variable {α : Type} {S : List Sl} {QN : List D → List Sl → Prop} {g : VG} {vt : VTT} {ve : VT} {n : Nat} {ix : List Nat}
theorem take_succ_map {β : Type} {xs : List α} {en : α → β} {i : Nat} {d : β} (h : (xs.map en)[i]? = some d) : ∃ x, xs[i]? = some x ∧ d = en x ∧ x ∈ xs ∧ xs.take (i + 1) = xs.take i ++ [x] := by
  rw [List.getElem?_map] at h
  obtain ⟨x, h1, h2⟩ := Option.map_eq_some_iff.mp h
  refine ⟨x, h1, h2.symm, List.mem_of_getElem? h1, ?_⟩
  rw [List.take_add_one, h1]
  rfl
theorem comp_filter {xs : List α} {en f : α → D} {p : α → Bool} (hl : xs.length ≤ 1000000)
    (h : ∀ x ∈ xs, ∀ (A : D → List Sl → Prop) (B : List Sl → Prop), (∀ S5, backS n ix S S5 = S → p x = true → A (f x) S5) → (∀ S5, backS n ix S S5 = S → p x = false → B S5) → g (en x) (capS n ix S) fun S3 => vt S3 (kCompT ve A B))
    (h2 : QN ((xs.filter p).map f) S) : kComp n ix g vt ve QN (xs.map en) S := by
  refine j_kComp (fun i ys S' => S' = S ∧ ys = ((xs.take i).filter p).map f) (by simpa using hl) ⟨rfl, by simp⟩ ?_ ?_
  · rintro i d ys S2 e ⟨rfl, rfl⟩
    obtain ⟨x, h1, rfl, hm, ht⟩ := take_succ_map e
    refine h x hm _ _ (fun S5 e5 hp => ⟨e5, ?_⟩) (fun S5 e5 hp => ⟨e5, ?_⟩)
    · rw [ht, List.filter_append, List.map_append]
      simp [hp]
    · rw [ht, List.filter_append, List.map_append]
      simp [hp]
  · rintro ys S2 ⟨rfl, rfl⟩
    rw [List.length_map, List.take_length]
    exact h2
theorem comp_map {xs : List α} {en f : α → D} (hl : xs.length ≤ 1000000)
    (h : ∀ x ∈ xs, ∀ (A : D → List Sl → Prop) (B : List Sl → Prop), (∀ S5, backS n ix S S5 = S → A (f x) S5) → g (en x) (capS n ix S) fun S3 => vt S3 (kCompT ve A B))
    (h2 : QN (xs.map f) S) : kComp n ix g vt ve QN (xs.map en) S := by
  refine comp_filter (p := fun _ => true) hl (fun x hx A B hA _ => h x hx A B fun S5 e => hA S5 e rfl) ?_
  rwa [List.filter_eq_self.mpr (by intros; rfl)]
end
section
variable {α : Type} [DecidableEq α] {n : Nat} {f : α → D} {x y : α} {l : List α} {q : D → Prop}
theorem i_eqT (e : Enc n f) (hx : x = y) (h : q (.bl true)) (hn : n ≤ 40 := by decide) : wEqD false (f x) (f y) q := i_eqE e (by rw [decide_eq_true hx]; exact h) hn
theorem i_neT (e : Enc n f) (hx : x ≠ y) (h : q (.bl true)) (hn : n ≤ 40 := by decide) : wEqD true (f x) (f y) q := i_neE e (by rw [decide_eq_false hx]; exact h) hn
theorem i_neF (e : Enc n f) (hx : x = y) (h : q (.bl false)) (hn : n ≤ 40 := by decide) : wEqD true (f x) (f y) q := i_neE e (by rw [decide_eq_true hx]; exact h) hn
end
end VL
end
section
set_option maxHeartbeats 4000000
namespace L2
open PySem PySem.Spec PyProof.Rows
open PySem.SeqAt PySem.MeetsSeq PySem.MeetsSeq2 PySem.MeetsSeq3
open PySem.AutoSeq1 (wpAny_loadPart')
section
variable {prog : Program} {w : World} {A : Around} {E : Value → Shared → Prop}
end
end L2
end
section
set_option maxHeartbeats 4000000
namespace VL
open PySem L2 PySem.SeqAt PySem.Spec PyProof.Rows
section
variable {X : Cx} {pins : List (Addr × Obj)} {σ : L2.St} {H : Hp} {s : Shared} {K : PySem.W.Frag}
def rAll (K : PySem.W.Frag) (g : List Bool → Bool) : List V → Hp → VK → Prop := fun xs H Q => ∃ (l : Addr) (bs : List Bool), xs = [.ref l] ∧ SqL K H l (bs.map V.bl) ∧ Q (.bl (g bs)) H
theorem bools_of : ∀ {bs : List Bool} {us : List Value}, Vals (bs.map V.bl) us → PyProof.Rows.LSm.BoolsAre us bs
  | [], _, .nil => .nil
  | _ :: r, _, .cons h t => by cases h; exact .cons _ (bools_of (bs := r) t)
theorem c_all (hK : X.K = K) (hc : X.calm = true) : CallR X (.builtin "all") (rAll K (·.all id)) := by
  intro pins s σ H xs us Q I r ⟨l, bs, e, hq, q⟩
  subst e hK
  obtain ⟨u, rfl, rx⟩ := Vals.one r
  cases rx
  obtain ⟨vs, rv, pl, _⟩ := I.list hq
  obtain ⟨m, F⟩ := I.fr
  exact PyProof.Rows.LSm.all_bools F news_all (I.ok.hd hc) pl.isList (bools_of rv) fun h' tk F' N' => ⟨.bl _, H, I.led (t' := tk) F.ns F' N', rfl, q⟩
theorem reps_bls {N : AP} {F : FP} {H : Hp} : ∀ {vs : List V} {bs : List Bool}, Reps K N F H vs (bs.map D.bl) → vs = bs.map V.bl
  | _, [], .nil => rfl
  | _, b :: bs, .cons h t => by cases h; rw [reps_bls t]; rfl
def wAll (g : List Bool → Bool) : List D → (D → Prop) → Prop := fun ds q => ∃ bs : List Bool, ds = [.lst (bs.map .bl)] ∧ q (.bl (g bs))
theorem l_all {g : List Bool → Bool} : LiftC K (rAll K g) (wAll g) := by
  rintro xs H ds q C r ⟨bs, rfl, h⟩ hc
  obtain ⟨v, rfl, rv⟩ := rep1 r
  obtain ⟨a, vs, rfl, hq, rr⟩ := rv.sqL
  cases reps_bls rr
  exact ⟨a, bs, rfl, hq, hc _ _ h fun _ _ => .bl _⟩
end
section
variable {K : PySem.W.Frag} {X : Cx} {m : Bool} {e a b : Expr} {ta tb te : TE} {va vb : VT} {tr : TA} {vr : VTA} {pos p : Pos}
def vCat (i : Nat) (t : VTN) : VTN := fun S Q => (∃ ds, S[i]? = some (.own ds)) ∧ t S fun es S1 => ∃ ds, S1[i]? = some (.own ds) ∧ ds.length + es.length ≤ 1000000 ∧ Q (ds ++ es) S1
theorem vn_cat {t : VTN} (i : Nat) (ho : PE X a (tVar i)) (h : VN K X b tb t) : VN K X (.BinOp a .Add b pos) (tOp rCat (tVar i) tb) (vCat i t) := ⟨pe_op op_cat ho h.pe, fun H0 Z σ H S Q C k zq1 hc => by
  obtain ⟨⟨ds0, e0⟩, t⟩ := zq1
  obtain ⟨o, g1, c, us, rfl, g2, g3, g4⟩ := k.ownAt e0
  refine ⟨.ref c, g1, h.snd H0 Z σ H S _ _ k t fun a' vs es H1 H' S1 k1 st1 ha hg hl rr ⟨ds, e1, hlen, q⟩ => ?_⟩
  obtain ⟨o', g1', c', us', rfl, g2', g3', g4'⟩ := k1.ownAt e1
  rw [g1] at g1'; cases g1'
  have k2 := k1.grow hg
  have g2'' : H' c = some (.lst us') := by rw [hg c (by simp [g2'])]; exact g2'
  refine ⟨c, a', us', vs, rfl, rfl, g2'', hl, by rw [g4'.length, rr.length, sizeLine_eq]; lia, fun p hp => ?_⟩
  refine hc p _ _ H' _ S1 k2 (st1.trans (.grow hg)) hp (upd_grow hp) upd_same (Reps.append ?_ ?_) q
  · exact reps_new hp ((g4'.mono (fun b n e => ⟨n, hg b e⟩) fun _ x => x).mono (fun _ n _ => ⟨n, rfl⟩) fun _ x _ => x)
  · exact reps_new hp (rr.mono (fun _ n _ => ⟨n.1, rfl⟩) fun _ x _ => x)⟩
abbrev VO := List Sl → (Option Int → List Sl → Prop) → Prop
def SndO (K : PySem.W.Frag) (te : TO) (t : VO) : Prop := ∀ H0 Z σ H S Q C, OK K H0 Z σ H S → t S Q → (∀ o H' S', OK K H0 Z σ H' S' → Step Z σ S H σ S' H' → Q o S' → C o H') → te σ H C
structure VOe (K : PySem.W.Frag) (X : Cx) (e : Option Expr) (te : TO) (t : VO) : Prop where
  pe : PO X e te
  snd : SndO K te t
def voNo : VO := fun S Q => Q none S
def voSome (va : VT) : VO := fun S Q => va S fun r S1 => ∃ i, r = .d (.int i) ∧ Q (some i) S1
theorem vo_none : VOe K X none tNoPart voNo := ⟨po_none, fun _ _ _ _ _ _ _ k h q => q _ _ _ k .refl h⟩
theorem vo_some (h : VE K X false e te va) : VOe K X (some e) (tPart te) (voSome va) := ⟨po_some h.pe, fun H0 Z σ H S Q C k t hc => h.snd H0 Z σ H S _ _ k t fun v H1 r S1 k1 st1 rr zq1 => by
  obtain ⟨i, e, q⟩ := zq1
  subst e
  cases (show Rep K _ _ H1 v (.int i) from rr)
  exact ⟨i, rfl, hc _ H1 S1 k1 st1 q⟩⟩
end
end VL
end
section
set_option maxHeartbeats 4000000
namespace VL
open PySem L2
section
variable {K : PySem.W.Frag} {X : Cx} {m : Bool} {e a b : Expr} {ta tb te : TE} {va vb : VT} {tr : TA} {vr : VTA} {pos p : Pos}
end
section
variable {S : List Sl} {Q : VR → List Sl → Prop} {QT : Bool → List Sl → Prop} {QN : List D → List Sl → Prop} {W : VEnds} {va vb : VT} {vr : VTA} {vn : VTN} {vl vh : VO}
@[irreducible] def kCat (i : Nat) (QN : List D → List Sl → Prop) : List D → List Sl → Prop := fun es S1 => ∃ ds, S1[i]? = some (.own ds) ∧ ds.length + es.length ≤ 1000000 ∧ QN (ds ++ es) S1
theorem j_cat {i : Nat} {ds : List D} (e : S[i]? = some (.own ds)) (h : vn S (kCat i QN)) : vCat i vn S QN := by unfold kCat at h; exact ⟨⟨ds, e⟩, h⟩
theorem j_kCat {i : Nat} {es ds : List D} (e : S[i]? = some (.own ds)) (hl : ds.length + es.length ≤ 1000000) (h : QN (ds ++ es) S) : kCat i QN es S := by unfold kCat; exact ⟨ds, e, hl, h⟩
variable {QO : Option Int → List Sl → Prop}
theorem j_voNo (h : QO none S) : voNo S QO := h
@[irreducible] def kVo (QO : Option Int → List Sl → Prop) : VR → List Sl → Prop := fun r S1 => ∃ i, r = .d (.int i) ∧ QO (some i) S1
theorem j_voSome (h : va S (kVo QO)) : voSome va S QO := by unfold kVo at h; exact h
theorem j_kVo {i : Int} (h : QO (some i) S) : kVo QO (.d (.int i)) S := by unfold kVo; exact ⟨i, rfl, h⟩
end
end VL
end
section
set_option maxHeartbeats 4000000
namespace VL
open PySem L2
section
variable {X : Cx} {K : PySem.W.Frag}
end
section
variable {K : PySem.W.Frag} {X : Cx} {m : Bool} {e a b : Expr} {es : List Expr} {ta tb te : TE} {va vb : VT} {tr : TA} {vr : VTA} {pos p : Pos} {stm : Stmt} {ts : TS} {t : VTS}
end
section
variable {P : Program} {w : World} {K : PySem.W.Frag} {mg : Str → Option Value} {base : Heap}
end
section
variable {K : PySem.W.Frag} {X : Cx} {m : Bool} {e e0 : Expr} {te : TE} {pos p0 : Pos} {x : Str} {j k : Nat} {ps : List Str} {t : VTN} {p : List Int → List D → (D → List Int → Prop) → Prop}
end
end VL
end
section
set_option maxHeartbeats 4000000
namespace L2
open PySem PySem.Spec PyProof.Rows
theorem vals_of_ints : ∀ {vs : List Value} {ns : List Int}, IntsAre vs ns → Vals (ns.map V.int) vs
  | _, _, .nil => .nil
  | _, _, .cons n t r => .cons ⟨t, rfl⟩ (vals_of_ints r)
theorem Inv.made_list {X : Cx} {pins : List (Addr × Obj)} {σ : St} {H : Hp} {s : Shared} {m : Str → Option Value} {h' : Heap} {D : Addr} {vs' : List Value} {c : Nat} {ws : List V} (hex : X.ex = []) (I : Inv X pins σ H s) (Fn : s.heap.Ns X.env.locals m) (F' : Fr X.base X.env.locals h' m)
    (N' : News X.base X.env.locals h' ((D, PySem.W.listOf vs'.toArray c) :: allNews X.base s.heap X.env.locals)) (hlt : ∀ q ∈ allNews X.base s.heap X.env.locals, q.1 < D) (r : Vals ws vs') (hz : ws.length ≤ sizeLine) :
    H D = none ∧ Inv X pins σ (upd H D (.lst ws)) { s with heap := h' } := by
  have N1 : News X.base X.env.locals h' (allNews X.base s.heap X.env.locals) := fun p hp => N' p (List.mem_cons_of_mem _ hp)
  have I1 : Inv X pins σ H { s with heap := h' } := I.led (t' := s.toks) Fn F' N1
  have ND := N' (D, _) List.mem_cons_self
  have young : ∀ b o, s.heap.get? b = some o → b ≠ D := fun b o e z => by
    by_cases hb : b = X.env.locals
    · exact ND.2.1 (z ▸ hb)
    · cases q : X.base.get? b with
      | some u => rw [z, ND.2.2] at q; cases q
      | none => exact absurd (hlt (b, o) (mem_allNews hb q e)) (by rw [z]; exact Nat.lt_irrefl _)
  have hDn : H D = none := by
    cases z : H D with
    | none => rfl
    | some u =>
      obtain ⟨ob, eo⟩ := ObjOk.there (I.hok D u z)
      exact absurd rfl (young D ob eo)
  have s0D : X.s₀.heap.get? D = none := by
    cases z : X.s₀.heap.get? D with
    | none => rfl
    | some ob =>
      obtain ⟨o', e'⟩ := I.base.there D ob z (by rw [hex]; simp)
      exact absurd rfl (young D o' e')
  refine ⟨hDn, I1.trackN hDn s0D ND.2.1 (fun x c e z => ?_) (fun p hp z => ?_) ⟨hz, vs', c, r, ND.1⟩⟩
  · obtain ⟨v, o, ho, _⟩ := I.cell x c e
    exact young c o ho z
  · exact young p.1 p.2 (I.pin p hp).1 z
def rSortI (K : PySem.W.Frag) : List V → Hp → VK → Prop := fun xs H Q => ∃ (l : Addr) (ns : List Int), xs = [.ref l] ∧ SqL K H l (ns.map V.int) ∧ ns.length < 64 ∧
  ∀ (D : Addr) (ns' : List Int), H D = none → ns'.Perm ns → ns'.Pairwise (· ≤ ·) → Q (.ref D) (upd H D (.lst (ns'.map V.int)))
theorem call_sortI {X : Cx} (hex : X.ex = []) : CallR X (.builtin "sorted") (rSortI X.K) := by
  intro pins s σ H xs us Q I r h
  obtain ⟨l, ns, rfl, hl, h64, q⟩ := h
  obtain ⟨u, rfl, rx⟩ := vals1 r
  cases rx
  obtain ⟨vs, rv, pl, hz⟩ := I.list hl
  obtain ⟨m, F⟩ := I.fr
  refine PySem.W.kso_sorted F news_all pl.isList (intsAre_of rv) h64 fun D vs' ns' c h' F' N' hlt hi hlen hp hs _ => ?_
  obtain ⟨hD, I2⟩ := I.made_list hex F.ns F' N' hlt (vals_of_ints hi) (by rw [List.length_map, hlen, sizeLine_eq]; lia)
  exact ⟨.ref D, _, I2, rfl, q D ns' hD hp hs⟩
end L2
namespace VL
open PySem L2
section
variable {K : PySem.W.Frag} {X : Cx} {m : Bool} {e : Expr} {te ta : TE} {va vb : VT} {tr : TA} {vr : VTA} {pos p : Pos}
def vSortI (vr : VTA) : VTN := fun S Q => vr S fun rs S1 => ∃ r ns, rs = [r] ∧ get S1 r = some (.lst (ns.map .int)) ∧ ns.length < 64 ∧ ∀ ns' : List Int, ns'.Perm ns → ns'.Pairwise (· ≤ ·) → Q (ns'.map .int) S1
theorem vn_sortI (hK : X.K = K) (hex : X.ex = []) (hg : Gl X "sorted") (hm : X.mg "sorted" = none) (hb : bootBuiltins "sorted" = some (.builtin "sorted")) (ha : VA K X false [e] tr vr) (he : starEach [e] X.env = [(false, eval e X.env)] := by rfl) :
    VN K X (.Call (.Name "sorted" p) [e] [] pos) (tCB (rSortI K) tr) (vSortI vr) :=
  ⟨by subst hK; exact pe_callB (call_sortI hex) hg hm hb ha.pe (by decide) (by decide) he rfl, fun H0 Z σ H S Q C k t hc => ha.snd H0 Z σ H S _ _ k t fun vs H1 rs S1 k1 st1 rrs zq1 => by
    obtain ⟨r, ns, e1, e2, h2, q⟩ := zq1
    subst e1
    obtain ⟨v, rfl, rv⟩ := rrs.one
    obtain ⟨a, ys, rfl, hq, rr⟩ := rv.elems k1 e2
    cases Reps.toInts rr
    exact ⟨a, ns, rfl, hq, h2, fun D ns' hD hp hs => hc D _ _ H1 _ S1 k1 st1 hD (upd_grow hD) upd_same Reps.ints (q ns' hp hs)⟩⟩
end
end VL
end
section
set_option maxHeartbeats 4000000
namespace VL
open PySem L2
section
variable {K : PySem.W.Frag} {X : Cx} {m : Bool} {e o : Expr} {te : TE} {vb : VT} {pos : Pos}
end
section
variable {S : List Sl} {Q : VR → List Sl → Prop} {vb : VT}
end
end VL
end
section
set_option maxHeartbeats 4000000
namespace L2
open PySem PySem.Spec PyProof.Rows
section
variable {X : Cx} {pins : List (Addr × Obj)} {σ : St} {H : Hp} {s : Shared}
end
section
variable {X : Cx}
end
end L2
namespace L2
open PySem PySem.Spec PyProof.Rows
section
variable {X : Cx} {o i value : Expr} {pos pos' : Pos} {td ty tv : TE}
theorem big_of {pins : List (Addr × Obj)} {σ : St} {H : Hp} {s : Shared} (I : Inv X pins σ H s) : sysModules < s.heap.objs.size := by
  have h : mainGlobals < s.heap.objs.size := (I.mod.glob.keeps I.bk).lt
  exact Nat.lt_trans (by decide) h
def tNewE : TE := fun _ H Q => ∀ p ob, H p = none → Q (.ref p) (upd H p (DctO p ob []))
theorem pe_newE : PE X (.Dict [] [] pos) tNewE := fun pins s σ H Q I h =>
  wpAny_Dict_empty ⟨.ref s.heap.objs.size, _, I.laid (a := s.heap.objs.size) (o := DctO s.heap.objs.size _ []) (t' := s.toks) (fun _ _ q => Heap.get?_push_of_some _ q) (Nat.le_refl _)
    (DctP.ok ⟨Nat.zero_le _, beq_eq_false_iff_ne.mpr (Ne.symm (Nat.ne_of_lt (big_of I))), List.nodup_nil, [], .nil, _, #[], 0, Heap.get?_push_size _ rfl, ⟨rfl, rfl, rfl⟩, rfl, rfl⟩ (Heap.get?_push_size _ rfl)), rfl, h _ _ (I.hok.fresh (Nat.le_refl _))⟩
end
end L2
namespace VL
open PySem L2
def dc (kvs : List (List Int × D)) : D := .dic (kvs.map (·.1)) (kvs.map (·.2))
section
variable {K : PySem.W.Frag} {N : AP} {F : FP} {H : Hp}
end
section
variable {K : PySem.W.Frag} {X : Cx} {m : Bool} {e o ie : Expr} {te ti : TE} {va vi : VT} {pos posS : Pos}
abbrev VTD := List Sl → (List (List Int × D) → List Sl → Prop) → Prop
def SndD (K : PySem.W.Frag) (te : TE) (t : VTD) : Prop := ∀ H0 Z σ H S Q C, OK K H0 Z σ H S → t S Q → (∀ a es kvs H1 H' S', OK K H0 Z σ H1 S' → Step Z σ S H σ S' H1 → H1 a = none → (∀ b, H1 b ≠ none → H' b = H1 b) → (∃ ob, H' a = some (DctO a ob es)) →
  es.map (·.1) = kvs.map (·.1) → Reps K (fun b => NM Z σ S' b ∧ b ≠ a) AnyF H' (es.map fun x => V.ref x.2.1) ((kvs.map (·.1)).map kT) → Reps K (fun b => NM Z σ S' b ∧ b ≠ a) (Fr H0) H' (es.map (·.2.2)) (kvs.map (·.2)) → Q kvs S' → C (.ref a) H') → te σ H C
structure VDe (K : PySem.W.Frag) (X : Cx) (e : Expr) (te : TE) (t : VTD) : Prop where
  pe : PE X e te
  snd : SndD K te t
def vDNil : VTD := fun S Q => Q [] S
theorem vd_nil : VDe K X (.Dict [] [] pos) tNewE vDNil := ⟨pe_newE, fun H0 Z σ H S Q C k t hc => fun p ob hp => hc p [] [] H _ S k .refl hp (upd_grow hp) ⟨ob, upd_same⟩ rfl .nil .nil t⟩
def vNewD (t : VTD) : VT := fun S Q => t S fun kvs S1 => Q (.d (dc kvs)) S1
theorem ve_newD {t : VTD} (h : VDe K X e te t) : VE K X m e te (vNewD t) := ⟨h.pe, fun H0 Z σ H S Q C k t hc => h.snd H0 Z σ H S _ _ k t fun a es kvs H1 H' S1 k1 st1 ha hg zq1 ek rk rr q => by
  obtain ⟨ob, hl⟩ := zq1
  refine hc _ H' (.d (dc kvs)) S1 (k1.grow hg) (st1.trans (.grow hg)) (Rep.dic (k1.nm ha) (fun _ => ⟨a, rfl, k1.dom a ha⟩) hl ek (Reps.flat (rk.mono (fun b n e => ⟨n.1, rfl⟩) fun _ x => x) (flats_kT _)) (rr.mono (fun b n e => ⟨n.1, rfl⟩) fun _ x _ => x)) q⟩
end
end VL
end
section
set_option maxHeartbeats 4000000
namespace L2
open PySem PySem.Spec PyProof.Rows
section
variable {prog : Program} {w : World} {A : Around} {E : Value → Shared → Prop} {s : Shared}
theorem sortedHeap_keeps {h : Heap} {a b : Addr} {vs : List Value} {out : Array Value} {o : Obj} (hb : b ≠ a) (e : h.get? b = some o) : (sortedHeap h a vs out).get? b = some o := by
  exact (Heap.get?_update_other _ _ hb.symm).trans (Heap.get?_push_of_some _ (Heap.get?_push_of_some _ ((Heap.get?_update_other _ _ hb.symm).trans e)))
theorem sortedHeap_here {h : Heap} {vs : List Value} {out : Array Value} : ∃ c, (sortedHeap (h.push (seqObj "list" vs.toArray 0)) h.objs.size vs out).get? h.objs.size = some (seqObj "list" out c) := by
  obtain ⟨c, hc⟩ : ∃ c, ((h.push (seqObj "list" vs.toArray 0)).update h.objs.size (Obj.mapSeq fun _ => #[])).get? h.objs.size = some (seqObj "list" #[] c) := ⟨_, get?_update_seq (Heap.get?_push_size _ rfl) _⟩
  exact ⟨_, get?_update_seq (Heap.get?_push_of_some _ (Heap.get?_push_of_some _ hc)) _⟩
theorem sort_tup {t : Addr} {vs : List Value} {ns : List Int} {Q : Value → Shared → Prop} (ht : s.heap.IsTuple t vs.toArray) (hI : IntsAre vs ns) (h64 : vs.length < 64)
    (h : ∀ (h1 h2 : Heap) (out : Array Value) (ns' : List Int) (c : Nat), (∀ b o, s.heap.get? b = some o → h1.get? b = some o) → (∀ b o, h1.get? b = some o → h2.get? b = some o) → h2.get? h1.objs.size = some (seqObj "list" out c) →
      IntsAre out.toList ns' → ns'.Perm ns → ns'.Pairwise (· ≤ ·) → Q (.ref h1.objs.size) { s with heap := h2 }) :
    wpAny (model prog w) A (call (.builtin "sorted") [.ref t]) Q E s :=
  Calls.call_function_entry kind_sorted plain_sorted entry_sorted (args_sorted1 _) <| by
    obtain ⟨o, h1, h2, n, h3⟩ := ht
    simp only [Builtin.«sorted», List.headD_cons]
    wp_walk using wpAny_collect_seq (s := s) (A := A.in1) t (.inr rfl) h1 h2 h3
    intro h' old
    have hD : (h'.push (seqObj "list" vs.toArray 0)).get? h'.objs.size = some (seqObj "list" vs.toArray 0) := Heap.get?_push_size _ rfl
    have ty : Shared.TypeIs { s with heap := h'.push (seqObj "list" vs.toArray 0) } (.ref h'.objs.size) "list" := ⟨_, hD, rfl⟩
    have run : wpAny (model prog w) A.in1 (call (.builtin "list.sort") [.ref h'.objs.size]) (fun _ s' => Q (.ref h'.objs.size) s') E { s with heap := h'.push (seqObj "list" vs.toArray 0) } := by
      refine wpAny_call_entry slot_list_sort ty entry_list_sort ?_ (args_list_sort _)
      refine list_sort_tree hD hI h64 fun out ns' i1 i2 i3 => ⟨_, rfl, ?_⟩
      obtain ⟨c, hc⟩ := sortedHeap_here (h := h') (vs := vs) (out := out)
      exact h h' _ out ns' c old (fun b o e => sortedHeap_keeps (Nat.ne_of_lt (Heap.lt_size e)) (Heap.get?_push_of_some _ e)) hc i1 i2 i3
    exact wpAny_bind (wpAny_newList (wpAny_bind (wpAny_holding (wpAny_mono run (fun _ s' q => wpAny_pure ⟨_, rfl, q⟩) fun _ _ z => z))))
theorem set_tup_init {t S : Addr} {items : Array Value} {ns : List Int} {led : Bool} {R : Result → Shared → Prop} (hh : A.handled = none) (ht : s.heap.IsTuple t items) (hi : IntsAre items.toList ns) (hb : items.size + 1 < scanBound)
    (hS : s.heap.get? S = some { cls := .type "set", dict := none, data := .set #[] 0 (.fresh 0 0 led) })
    (h : ∀ s', Moved [S, s.heap.objs.size] (fun a b => b = a) { s with heap := s.heap.push { cls := .type "tuple_iterator", data := .fields #[.ref t, .int 0 0] } } s' →
      s'.heap.SetOf (intKind prog w) S (fun k => (firstMet (fun i => ns.getD i 0) items.size).any (· == k)) (firstMet (fun i => ns.getD i 0) items.size).length → R (.ok (.ret .none)) s') :
    wpAny (model prog w) A.in1 (Builtin.«set.__init__» ⟨[.ref S, .ref t], []⟩) (fun fin s' => match fin with | .done f => R (.ok f) s' | .again c' => c'.quiet = true ∧ codeAny (model prog w) A c' R s') (fun e s' => R (.error e) s') s := by
  have ty : s.TypeIs (.ref S) "set" := ⟨_, hS, rfl⟩
  have tt : s.TypeIs (.ref t) "tuple" := ht.typeIs
  have n1 : isSubtype (.type "tuple") (.type "set") = pure false := by rw [isSubtype_type]; kernel_rfl
  have n2 : isSubtype (.type "tuple") (.type "frozenset") = pure false := by rw [isSubtype_type]; kernel_rfl
  simp only [Builtin.«set.__init__», noKeywords, Builtin.Frozenset.updateFrom]
  wp_walk using wpAny_pyIter_tuple ht
  have tlt : t < s.heap.objs.size := by obtain ⟨o, e, _⟩ := ht; exact Heap.lt_size e
  have W := Walks.tuple (prog := prog) (w := w) (A := A.in1.in1) (by simp [hh]) s.heap.objs.size t (Nat.ne_of_lt tlt) items
  have zero : Heap.SetOf (intKind prog w) (s.heap.push { cls := .type "tuple_iterator", data := .fields #[.ref t, .int 0 0] }) S (fun k => (firstMet (fun i => ns.getD i 0) 0).any (· == k)) (firstMet (fun i => ns.getD i 0) 0).length :=
    (setObjOf_fresh (knd := intKind prog w) led).setOf (Heap.get?_push_of_some _ hS) (by decide)
  refine codeAny_set_update_loopS W.toS S ?_ _ (fun i v e => hi.int_at i v (by rwa [Array.getElem?_toList])) hb _ 0 _ rfl (Nat.zero_le _) ⟨⟨_, Heap.get?_push_size _ rfl, rfl, rfl⟩, ht.push _⟩ zero fun s' mv so => wpAny_pure (wpAny_pure (h s' mv so))
  intro z
  rcases List.mem_cons.mp z with e | e
  · exact absurd e (Nat.ne_of_lt (Heap.lt_size hS))
  · obtain ⟨o, e1, e2, _⟩ := ht
    rw [List.mem_singleton.mp e, e1] at hS
    cases hS
    exact absurd e2 (by simp)
theorem code_out {c : Code} {Q : Value → Shared → Prop} {R : Result → Shared → Prop} (h : codeAny (model prog w) A c (wants Q E) s) (ok : ∀ v s', Q v s' → R (.ok (.ret v)) s') (no : ∀ e s', E e s' → R (.error e) s') : codeAny (model prog w) A c R s :=
  codeAny_mono h fun r s' z => match r, z with
    | .error e, z => no e s' z
    | .ok (.ret v), z => ok v s' z
theorem type_called {T newId initId : String} {args : List Value} {Q Q1 : Value → Shared → Prop} (ft : TypeCalled T newId initId) (ct : checkTypeCall T ⟨args, []⟩ = pure ())
    (new : codeAny (model prog w) A.in1 (.call (.builtin newId) ⟨.type T :: args, []⟩) (wants Q1 E) s)
    (init : ∀ v s1, Q1 v s1 → s1.TypeIs v T ∧ codeAny (model prog w) A.in1 (.call (.builtin initId) ⟨v :: args, []⟩) (wants (fun r s2 => r = .none ∧ Q v s2) E) s1) : wpAny (model prog w) A (call (.type T) args) Q E s := by
  have f1 := ft.notType
  have f2 := ft.canCreate
  have f3 := ft.made
  have f4 := ft.sub
  have f5 := ft.init.lookup
  have f6 := fun v => ft.init.bind v
  have ⟨_, _, f7⟩ := ft.mro
  apply wpAny_call
  apply codeAny_of_tree
  wp_walk
  constructor
  · exact Code.quiet_builtin _ (by decide +kernel)
  apply codeAny_builtin F.entry_type_call
  rw [Around.under_plain (weight_type_call_type ..) rfl]
  repeat' (first | assumption | wp_step)
  refine code_out new (fun v s1 hv => ?_) fun e s' he => he
  obtain ⟨g1, g2⟩ := init v s1 hv
  have f8 := f6 v
  repeat' (first | assumption | wp_step)
  refine code_out g2 (fun u s2 hu => ?_) fun e s' he => he
  obtain ⟨rfl, q⟩ := hu
  repeat' (first | assumption | wp_step)
theorem set_tup {t : Addr} {items : Array Value} {ns : List Int} {Q : Value → Shared → Prop} (hh : A.handled = none) (ht : s.heap.IsTuple t items) (hi : IntsAre items.toList ns) (hb : items.size + 1 < scanBound)
    (h : ∀ (h' : Heap) (tk : Nat), (∀ b o, s.heap.get? b = some o → h'.get? b = some o) →
      h'.SetOf (intKind prog w) s.heap.objs.size (fun k => (firstMet (fun i => ns.getD i 0) items.size).any (· == k)) (firstMet (fun i => ns.getD i 0) items.size).length → Q (.ref s.heap.objs.size) { s with heap := h', toks := tk }) :
    wpAny (model prog w) A (call (.type "set") [.ref t]) Q E s := by
  refine type_called F.called_set (F.typeCall_set_1 _) (code_set_new_1 (Q₁ := fun v s1 => ∃ led, v = .ref s.heap.objs.size ∧ s1 = { s with heap := s.heap.push { cls := .type "set", dict := none, data := .set #[] 0 (.fresh 0 0 led) } }) _ fun led => ⟨led, rfl, rfl⟩) ?_
  rintro v s1 ⟨led, rfl, rfl⟩
  have e0 : (s.heap.push { cls := .type "set", dict := none, data := .set #[] 0 (.fresh 0 0 led) }).get? s.heap.objs.size = some { cls := .type "set", dict := none, data := .set #[] 0 (.fresh 0 0 led) } := Heap.get?_push_size _ rfl
  refine ⟨⟨_, e0, rfl⟩, codeAny_call_builtin F.called_set.init.plain F.entry_set_init (check_set_init_1 ⟨_, e0, rfl⟩ ?_)⟩
  refine set_tup_init (A := A.in1) hh (ht.push _) hi hb e0 fun s' mv so => ⟨rfl, ?_⟩
  rw [mv.eq_with] at so ⊢
  refine h s'.heap s'.toks (fun b o e => ?_) so
  have lt := Heap.lt_size e
  refine mv.heap b o ?_ (Heap.get?_push_of_some _ (Heap.get?_push_of_some _ e))
  simp only [List.mem_cons, List.not_mem_nil, or_false, Heap.size_push]
  exact fun z => z.elim (fun q => Nat.ne_of_lt lt q) fun q => Nat.ne_of_lt (Nat.lt_succ_of_lt lt) q
end
end L2
end
section
set_option maxHeartbeats 4000000
namespace L2
open PySem PySem.Spec PyProof.Rows
section
variable {prog : Program} {w : World} {A : Around} {E : Value → Shared → Prop} {s : Shared}
end
def rgI (lo : Int) (n : Nat) : List Int := (List.range n).map fun (i : Nat) => lo + (i : Int)
theorem vals_range {lo : Int} {n : Nat} {acc : Array Value} (h : ItemsOf (fun i v => ∃ t, v = .int (lo + i * 1) t) acc n) : Vals ((rgI lo n).map V.int) acc.toList := by
  have hl : acc.toList.length = n := by simpa using h.1
  have key : ∀ (k : Nat) (l : List Value) (j : Nat), l.length = k → (∀ i v, l[i]? = some v → ∃ t, v = Value.int (lo + ((j + i : Nat) : Int)) t) → Vals ((List.range' j k).map fun (i : Nat) => V.int (lo + (i : Int))) l := by
    intro k
    induction k with
    | zero => intro l j e _; rw [List.eq_nil_of_length_eq_zero e]; exact .nil
    | succ k ih =>
      intro l j e hv
      match l, e with
      | v :: l, e =>
        rw [List.range'_succ, List.map_cons]
        obtain ⟨t, rfl⟩ := hv 0 v rfl
        refine .cons ⟨t, by simp⟩ (ih l (j + 1) (by simpa using e) fun i u hu => ?_)
        obtain ⟨t', e'⟩ := hv (i + 1) u (by simpa using hu)
        exact ⟨t', by rw [e']; simp only [Value.int.injEq, and_true]; lia⟩
  unfold rgI
  rw [List.map_map, List.range_eq_range']
  refine key n acc.toList 0 hl fun i v hv => ?_
  obtain ⟨t, e⟩ := h.2 i v (by simpa using hv)
  exact ⟨t, by rw [e]; simp only [Value.int.injEq, and_true]; lia⟩
section
variable {X : Cx} {p pr pos posr : Pos} {e : Expr} {tr : TA}
theorem range_ok {pins : List (Addr × Obj)} {σ : St} {H : Hp} {s : Shared} {n : Int} (hc : X.calm = true) (h1 : -(2 ^ 62) ≤ n) (h2 : n ≤ 1000000) : Builtin.Range.small 0 n 1 = true ∧ Builtin.Range.rangeSize 0 n 1 = (n.toNat : Int) ∧ n.toNat ≤ 2 ^ 24 := by
  refine ⟨small_one (by decide) (by decide) h1 (by lia), ?_, by lia⟩
  rw [rangeSize_one]
  split <;> lia
def rRng : List V → Hp → VK → Prop := fun xs H Q => ∃ n : Int, xs = [.int n] ∧ ∀ r, H r = none → Q (.ref r) (upd H r (.rng 0 n))
theorem call_rng : CallR X (.type "range") rRng := by
  intro pins s σ H xs us Q I r ⟨n, e, q⟩
  subst e
  obtain ⟨u, rfl, rx⟩ := vals1 r
  obtain ⟨t, rfl⟩ := rx
  refine call_range_1 ⟨.ref s.heap.objs.size, _, I.laid (a := s.heap.objs.size) (o := .rng 0 n) (fun _ _ q => Heap.get?_push_of_some _ q) (Nat.le_refl _) ⟨_, _, _, Heap.get?_push_size _ rfl⟩, rfl, q _ (I.hok.fresh (Nat.le_refl _))⟩
def rLR (mk : List V → HO) : List V → Hp → VK → Prop := fun xs H Q => ∃ (r : Addr) (n : Int), xs = [.ref r] ∧ H r = some (.rng 0 n) ∧ -(2 ^ 62) ≤ n ∧ n ≤ 1000000 ∧ ∀ l, H l = none → Q (.ref l) (upd H l (mk ((rgI 0 n.toNat).map V.int)))
theorem call_listRng (hc : X.calm = true) : CallR X (.type "list") (rLR .lst) := by
  intro pins s σ H xs us Q I rr ⟨r, n, e, hr, h1, h2, q⟩
  subst e
  obtain ⟨u, rfl, rx⟩ := vals1 rr
  cases rx
  obtain ⟨t, u, v, ho⟩ := (show ObjOk X.prog X.w H s.heap r (.rng 0 n) from I.hok r _ hr)
  obtain ⟨g1, g2, g3⟩ := range_ok (X := X) (pins := pins) (σ := σ) (H := H) (s := s) hc h1 h2
  refine call_list_range (I.ok.hd hc) ho g1 g2 g3 fun h' tk acc c' hk hS hacc => ?_
  refine ⟨.ref s.heap.objs.size, _, I.laid (t' := tk) hk (Nat.le_refl _) (show ObjOk X.prog X.w _ h' _ (.lst ((rgI 0 n.toNat).map V.int)) from ⟨?_, acc.toList, c', vals_range hacc, by simpa using hS⟩), rfl, q _ (I.hok.fresh (Nat.le_refl _))⟩
  rw [List.length_map, rgI, List.length_map, List.length_range, sizeLine_eq]; lia
theorem bt_range : bootBuiltins "range" = some (.type "range") := by decide +kernel
end
end L2
end
section
set_option maxHeartbeats 4000000
namespace VL
open PySem L2
section
variable {K : PySem.W.Frag} {X : Cx} {m : Bool} {e : Expr} {te : TE} {va vb : VT} {tr : TA} {vr : VTA} {pos p pr posr : Pos}
def vLR (vr : VTA) : VTN := fun S Q => vr S fun rs S1 => ∃ n : Int, rs = [.d (.int n)] ∧ -(2 ^ 62) ≤ n ∧ n ≤ 1000000 ∧ Q (rg 0 n.toNat) S1
theorem rg_rgI (lo : Int) (n : Nat) : rg lo n = (rgI lo n).map D.int := by unfold rg rgI; rw [List.map_map]; rfl
theorem vn_listR (hc : X.calm = true) (hg : Gl X "list") (hm : X.mg "list" = none) (hgr : Gl X "range") (hmr : X.mg "range" = none) (ha : VA K X false [e] tr vr) (he : starEach [e] X.env = [(false, eval e X.env)] := by rfl)
    (hs : starEach [.Call (.Name "range" pr) [e] [] posr] X.env = [(false, eval (.Call (.Name "range" pr) [e] [] posr) X.env)] := by rfl) :
    VN K X (.Call (.Name "list" p) [.Call (.Name "range" pr) [e] [] posr] [] pos) (tCB (rLR .lst) (tCons (tCB rRng tr) tNil)) (vLR vr) :=
  ⟨pe_callTy (call_listRng hc) hg hm bt_list (pa_cons (pe_callTy call_rng hgr hmr bt_range ha.pe (by decide) (by decide) he rfl) pa_nil hs) (by decide) (by decide) hs rfl, fun H0 Z σ H S Q C k t hcc => ha.snd H0 Z σ H S _ _ k t fun vs H1 rs S1 k1 st1 rrs zq1 => by
    obtain ⟨n, e1, h1, h2, q⟩ := zq1
    subst e1
    obtain ⟨v, rfl, rv⟩ := rrs.one
    cases (show Rep K _ _ H1 v (.int n) from rv)
    refine ⟨n, rfl, fun r hr => ?_⟩
    refine ⟨r, n, rfl, upd_same, h1, h2, fun l hl => ?_⟩
    have g := upd_grow (o := .rng 0 n) hr
    refine hcc l _ (rg 0 n.toNat) (upd H1 r (.rng 0 n)) _ S1 (k1.grow g) (st1.trans (.grow g)) hl (upd_grow hl) upd_same ?_ q
    rw [rg_rgI]
    exact Reps.ints⟩
end
section
variable {S : List Sl} {Q : VR → List Sl → Prop} {QN : List D → List Sl → Prop} {QD : List (List Int × D) → List Sl → Prop} {W : VEnds} {va vb : VT} {vr : VTA} {vd : VTD}
@[irreducible] def kLR (QN : List D → List Sl → Prop) : List VR → List Sl → Prop := fun rs S1 => ∃ n : Int, rs = [.d (.int n)] ∧ -(2 ^ 62) ≤ n ∧ n ≤ 1000000 ∧ QN (rg 0 n.toNat) S1
theorem j_lr (h : vr S (kLR QN)) : vLR vr S QN := by unfold kLR at h; exact h
theorem j_kLR {n : Int} (h : -(2 ^ 62) ≤ n ∧ n ≤ 1000000) (q : QN (rg 0 n.toNat) S) : kLR QN [.d (.int n)] S := by unfold kLR; exact ⟨n, rfl, h.1, h.2, q⟩
theorem j_dnil (h : QD [] S) : vDNil S QD := h
@[irreducible] def kNewD (Q : VR → List Sl → Prop) : List (List Int × D) → List Sl → Prop := fun kvs S1 => Q (.d (dc kvs)) S1
theorem j_newD (h : vd S (kNewD Q)) : vNewD vd S Q := by unfold kNewD at h; exact h
theorem j_kNewD {kvs : List (List Int × D)} (h : Q (.d (dc kvs)) S) : kNewD Q kvs S := by unfold kNewD; exact h
end
theorem i_notInET {α : Type} [DecidableEq α] {n : Nat} {f : α → D} (e : Enc n f) {x : α} {l : List α} {q : D → Prop} (h : q (.bl (!decide (x ∈ l)))) (hn : n + 1 ≤ 40 := by decide) : wInD true (f x) (.tup (l.map f)) q := ⟨_, .inr rfl, e.okd (by lia) x, e.lst.okd hn l, by simpa only [e.any, if_true] using h⟩
section
variable {K : PySem.W.Frag} {X : Cx} {m : Bool} {e : Expr} {te : TE} {pos : Pos}
variable {S : List Sl} {Q : VR → List Sl → Prop} {vn : VTN}
end
section
variable {K : PySem.W.Frag} {X : Cx} {e : Expr} {te : TE} {va : VT} {pos pos' : Pos} {x : Str}
theorem vs_set1 {i : Nat} (hN : X.N.Nodup) (hi : X.N[i]? = some x) (hx : Loc X.env.scope x) (h : VE K X false e te va) (hs : swapsWith e (some (.Name x pos')) pos.line X.env = pure false := by rfl)
    (hf : X.fn x = true ∨ X.env.scope.names.lookup x = some .local := by first | exact .inl rfl | exact .inr rfl | assumption) : VS K X (.Assign [.Name x pos'] e pos) (tAsg te (gName i)) (vAsg va (vgN i)) := vs_set (fun _ h => ps_set hN hi hx h hs hf) h
end
end VL
end
section
set_option maxHeartbeats 4000000
namespace L2
open PySem PySem.Spec PyProof.Rows
section
variable {X : Cx} {tg : Expr}
end
end L2
namespace VL
open PySem L2
section
variable {K : PySem.W.Frag} {X : Cx} {a b c tg : Expr} {tr : TA} {vr : VTA} {p pos : Pos}
variable {S : List Sl} {QN : List D → List Sl → Prop}
end
end VL
end
section
set_option maxHeartbeats 4000000
namespace L2
open PySem PySem.Spec PyProof.Rows
end L2
namespace VL
open PySem L2
section
variable {K : PySem.W.Frag} {X : Cx} {m : Bool} {e a b o : Expr} {te ta tb : TE} {va vb : VT} {pos apos : Pos}
def vIxO (i : Nat) (vb : VT) : VT := fun S Q => (∃ ds, S[i]? = some (.own ds)) ∧ vb S fun rb S1 => ∃ ds j d, S1[i]? = some (.own ds) ∧ get S1 rb = some (.int j) ∧ atI ds j = some d ∧ Q (.d d) S1
theorem ve_ixO (i : Nat) (hK : X.K = K) (ho : PE X o (tVar i)) (hb : VE K X false b tb vb) (hs : PlainIx b) : VE K X m (.Subscript o b pos) (tOp (rIx K) (tVar i) tb) (vIxO i vb) := ⟨by subst hK; exact pe_ix ix_seq ho hb.pe hs, fun H0 Z σ H S Q C k zq1 hc => by
  obtain ⟨⟨ds0, e0⟩, t⟩ := zq1
  obtain ⟨o0, g0, p, vs0, rfl, _⟩ := k.ownAt e0
  refine ⟨.ref p, g0, hb.snd H0 Z σ H S _ _ k t fun y H2 rb S2 k2 st2 r2 ⟨ds, j, d, e1, e2, e3, q⟩ => ?_⟩
  cases r2.get k2 e2
  obtain ⟨o1, g1, p', vs, e4, h1, h2, rr⟩ := k2.ownAt e1
  rw [g0] at g1; cases g1; cases e4
  obtain ⟨v, h3, h4⟩ := atI_reps rr e3
  exact .inl ⟨p, vs, j, v, rfl, rfl, .inl (.inl h1), h3, hc v H2 (.d d) S2 k2 st2 (show Rep K _ _ H2 v d from h4.mono (fun _ n _ => ⟨n, rfl⟩) fun _ x _ => x) q⟩⟩
def wStrI : List D → (D → Prop) → Prop := fun ds q => ∃ i : Int, ds = [.int i] ∧ i.natAbs.log2 < 1920 ∧ q (.str (toString i))
theorem l_strI : LiftC K (fun xs H Q => ∃ i : Int, xs = [.int i] ∧ i.natAbs.log2 < 1920 ∧ Q (.str (toString i)) H) wStrI := by
  rintro xs H ds q C r ⟨i, rfl, hb, h⟩ hc
  obtain ⟨v, rfl, rv⟩ := rep1 r
  cases rv
  exact ⟨i, rfl, hb, hc _ _ h fun _ _ => .str _⟩
end
section
variable {S : List Sl} {Q : VR → List Sl → Prop} {va vb : VT} {vn : VTN}
@[irreducible] def kIxO (i : Nat) (Q : VR → List Sl → Prop) : VR → List Sl → Prop := fun rb S1 => ∃ ds j d, S1[i]? = some (.own ds) ∧ get S1 rb = some (.int j) ∧ atI ds j = some d ∧ Q (.d d) S1
theorem j_ixO {i : Nat} {ds : List D} (e : S[i]? = some (.own ds)) (h : vb S (kIxO i Q)) : vIxO i vb S Q := by unfold kIxO at h; exact ⟨⟨ds, e⟩, h⟩
theorem j_kIxO {i : Nat} {r : VR} {ds : List D} {j : Int} {d : D} (e1 : S[i]? = some (.own ds)) (e2 : get S r = some (.int j)) (e3 : atI ds j = some d) (h : Q (.d d) S) : kIxO i Q r S := by unfold kIxO; exact ⟨ds, j, d, e1, e2, e3, h⟩
theorem j_strI {i : Int} {q : D → Prop} (hb : i.natAbs.log2 < 1920) (h : q (.str (toString i))) : wStrI [.int i] q := ⟨i, rfl, hb, h⟩
theorem j_neS {x y : Str} {q : D → Prop} (h : q (.bl (!decide (x = y)))) : wNe (.str x) (.str y) q := ⟨.str x, .str y, rfl, rfl, rfl, by simpa using h⟩
end
end VL
namespace L2
open PySem
end L2
end
section
set_option maxHeartbeats 4000000
namespace VL
open PySem L2
section
variable {K : PySem.W.Frag} {X : Cx} {e : Expr} {te : TE} {pos pos' : Pos} {x : Str}
end
end VL
end
section
set_option maxHeartbeats 4000000
namespace L2
open PySem PySem.Spec PyProof.Rows
def rSortIT (K : PySem.W.Frag) : List V → Hp → VK → Prop := fun xs H Q => ∃ (l : Addr) (ns : List Int), xs = [.ref l] ∧ SqT K H l (ns.map V.int) ∧ ns.length < 64 ∧
  ∀ (D : Addr) (ns' : List Int), H D = none → ns'.Perm ns → ns'.Pairwise (· ≤ ·) → Q (.ref D) (upd H D (.lst (ns'.map V.int)))
theorem call_sortIT {X : Cx} : CallR X (.builtin "sorted") (rSortIT X.K) := by
  intro pins s σ H xs us Q I r ⟨l, ns, e, hl, h64, q⟩
  subst e
  obtain ⟨u, rfl, rx⟩ := vals1 r
  cases rx
  obtain ⟨vs, rv, pl, hz⟩ := I.tuple hl
  have hv : vs.length = ns.length := by rw [← rv.length, List.length_map]
  refine sort_tup pl (intsAre_of rv) (by lia) fun h1 h2 out ns' c o1 o2 e i1 i2 i3 => ?_
  have I1 : Inv X pins σ H { s with heap := h1 } := I.kept o1
  refine ⟨.ref h1.objs.size, _, I1.laid (t' := s.toks) o2 (Nat.le_refl _) (show ObjOk X.prog X.w _ h2 _ (.lst (ns'.map V.int)) from ⟨?_, out.toList, c, vals_of_ints i1, by simpa using e⟩), rfl, q _ ns' (I1.hok.fresh (Nat.le_refl _)) i2 i3⟩
  rw [List.length_map, i2.length_eq, sizeLine_eq]
  lia
def SetP (a : Addr) (n : Nat) (h : Heap) : Prop := ∃ o es ep t, h.get? a = some o ∧ o.ExactSet ∧ o.data = .set es ep t ∧ t.fits es.size = true ∧ es.size = n ∧ n < scanBound
def SetO (a : Addr) (n : Nat) : HO := .ext (SetP a n)
theorem SetP.ok {P : Program} {w : World} {H : Hp} {h : Heap} {a : Addr} {n : Nat} (d : SetP a n h) : ObjOk P w H h a (SetO a n) :=
  ⟨d, let ⟨o, _, _, _, e, _⟩ := d; ⟨o, e⟩, fun h1 h2 ⟨o, es, ep, t, e, r⟩ k => ⟨o, es, ep, t, k o e, r⟩⟩
theorem setP_of {X : Cx} {pins : List (Addr × Obj)} {σ : St} {H : Hp} {s : Shared} {a : Addr} {n : Nat} (I : Inv X pins σ H s) (e : H a = some (SetO a n)) : SetP a n s.heap :=
  (show ObjOk X.prog X.w H s.heap a (.ext (SetP a n)) from I.hok a _ e).1
def rLenS : List V → Hp → VK → Prop := fun xs H Q => ∃ a n, xs = [.ref a] ∧ H a = some (SetO a n) ∧ Q (.int n) H
theorem call_lenS {X : Cx} : CallR X (.builtin "len") rLenS := by
  intro pins s σ H xs us Q I r ⟨a, n, e, ha, q⟩
  subst e
  obtain ⟨u, rfl, rx⟩ := vals1 r
  cases rx
  obtain ⟨o, es, ep, t, h1, h2, h3, h4, h5, h6⟩ := setP_of I ha
  subst h5
  refine call_len_set h1 h2 h3 h4 ?_ ⟨.int es.size, H, I.tok _, ⟨_, rfl⟩, q⟩
  unfold scanBound at h6
  lia
section
variable {X : Cx}
theorem dedup_nodup : ∀ (ns acc : List Int), (acc ++ ns).Nodup → ns.foldl step_dedup acc = acc ++ ns
  | [], acc, _ => by simp
  | n :: r, acc, h => by
    have hn : acc.any (· == n) = false := by
      rw [List.any_eq_false]
      intro x hx z
      have e : x = n := by simpa using z
      subst e
      have := (List.nodup_append.mp h).2.2 x hx x (List.mem_cons_self ..)
      exact this rfl
    rw [List.foldl_cons, show step_dedup acc n = acc ++ [n] by unfold step_dedup; rw [hn]; rfl, dedup_nodup r (acc ++ [n]) (by simpa using h)]
    simp
def rRev (K : PySem.W.Frag) : V → Hp → VK → Prop := fun x H Q => ∃ a xs, x = .ref a ∧ SqL K H a xs ∧ ∀ p, H p = none → Q (.ref p) (upd H p (.lst xs.reverse))
variable {e st : Expr} {te ts : TE} {p2 pos : Pos}
theorem pe_rev {j : Nat} {q1 q2 : Pos} (he : PE X e te) (hst : PE X (.UnaryOp .USub (.Constant (.int 1) j q1) q2) (fun _ H Q => Q (.int (-1)) H)) : PE X (.Subscript e (.Slice none none (some (.UnaryOp .USub (.Constant (.int 1) j q1) q2)) p2) pos) (fun σ H Q => te σ H fun x H1 => rRev X.K x H1 Q) := by
  intro pins s σ H Q I h
  refine Subscript_ (thn (he pins s σ H _ I h) fun v s1 ⟨x, H1, I1, r1, q1⟩ => ?_)
  refine wpAny_Slice ?_
  rw [evalPart_none]
  apply wpAny_pure
  apply wpAny_pure
  rw [evalPart_some]
  refine thn (hst pins s1 σ H1 (fun y H2 => y = .int (-1) ∧ H2 = H1) I1 ⟨rfl, rfl⟩) fun vk s3 ⟨y, H3, I3, r3, e3, e4⟩ => ?_
  subst e3; subst e4
  obtain ⟨t, rfl⟩ := r3
  obtain ⟨a, xs, rfl, hx, q⟩ := q1
  cases r1
  have I4 : Inv X pins σ H3 { s3 with heap := s3.heap.push { cls := .type "slice", data := .fields #[.none, .none, .int (-1) t] } } := I3.kept (t' := s3.toks) fun b ob q => Heap.get?_push_of_some _ q
  obtain ⟨its, r, ht, hz⟩ := I4.list hx
  have hlen := r.length
  show wpAny (model X.prog X.w) X.A (subscriptTail e (.Slice none none (some (.UnaryOp .USub (.Constant (.int 1) j q1) q2)) p2) (.ref a) (.ref s3.heap.objs.size)) (EP X pins σ Q) X.xe { s3 with heap := s3.heap.push { cls := .type "slice", data := .fields #[.none, .none, .int (-1) t] } }
  refine tail_any (ops := [.ref a, .ref s3.heap.objs.size]) ht.isList.typeIs slot_list_getitem.lookup ?_ (by with_unfolding_all rfl)
  refine wpAny_getItem_list_slice ht.isList (Heap.IsSliceOf.new ..) .none .none (.int (-1) t) (by simp) ?_ (by rw [List.size_toArray] <;> lia)
  rw [PySem.W.krv_pick]
  refine ⟨.ref _, _, I4.laid (t' := s3.toks) (o := .lst xs.reverse) (fun b ob q => Heap.get?_push_of_some _ q) (Nat.le_refl _) ?_, rfl, q _ (I4.hok.fresh (Nat.le_refl _))⟩
  refine ⟨by rw [List.length_reverse]; exact hz, its.reverse, 0, r.reverse, ?_⟩
  exact Heap.get?_push_size _ rfl
theorem pe_m1 {p q : Pos} {j : Nat} : PE X (.UnaryOp .USub (.Constant (.int 1) j p) q) (fun _ H Q => Q (.int (-1)) H) :=
  fun pins s σ H Q I h => (pe_un un_neg pe_int) pins s σ H Q I ⟨1, rfl, h⟩
end
end L2
namespace VL
open PySem L2
section
variable {K : PySem.W.Frag} {X : Cx} {m : Bool} {e st : Expr} {te ta : TE} {va vb : VT} {tr : TA} {vr : VTA} {pos p p1 p2 pos2 : Pos}
def vSortIT (vr : VTA) : VTN := fun S Q => vr S fun rs S1 => ∃ (r : VR) (ns : List Int), rs = [r] ∧ get S1 r = some (.tup (ns.map .int)) ∧ ns.length < 64 ∧ ∀ ns' : List Int, ns'.Perm ns → ns'.Pairwise (· ≤ ·) → Q (ns'.map .int) S1
theorem vn_sortIT (hK : X.K = K) (hex : X.ex = []) (hg : Gl X "sorted") (hm : X.mg "sorted" = none) (hb : bootBuiltins "sorted" = some (.builtin "sorted")) (ha : VA K X false [e] tr vr) (he : starEach [e] X.env = [(false, eval e X.env)] := by rfl) :
    VN K X (.Call (.Name "sorted" p) [e] [] pos) (tCB (rSortIT K) tr) (vSortIT vr) :=
  ⟨by subst hK; exact pe_callB call_sortIT hg hm hb ha.pe (by decide) (by decide) he rfl, fun H0 Z σ H S Q C k t hc => ha.snd H0 Z σ H S _ _ k t fun vs H1 rs S1 k1 st1 rrs zq1 => by
    obtain ⟨r, ns, e1, e2, h2, q⟩ := zq1
    subst e1
    obtain ⟨v, rfl, rv⟩ := rrs.one
    obtain ⟨a, ys, rfl, hq, rr⟩ := rv.elemsT k1 e2
    cases Reps.toInts rr
    exact ⟨a, ns, rfl, hq, h2, fun D ns' hD hp hs => hc D _ _ H1 _ S1 k1 st1 hD (upd_grow hD) upd_same Reps.ints (q ns' hp hs)⟩⟩
def vRev (va : VT) : VTN := fun S Q => va S fun r S1 => ∃ ds, get S1 r = some (.lst ds) ∧ flats ds = true ∧ Q ds.reverse S1
theorem flats_app : ∀ {ds es : List D}, flats ds = true → flats es = true → flats (ds ++ es) = true
  | [], _, _, h => h
  | d :: r, es, h, h2 => by simp only [flats, Bool.and_eq_true, List.cons_append] at h ⊢; exact ⟨h.1, flats_app h.2 h2⟩
theorem flats_rev : ∀ {ds : List D}, flats ds = true → flats ds.reverse = true
  | [], _ => rfl
  | d :: r, h => by
    simp only [flats, Bool.and_eq_true] at h
    rw [List.reverse_cons]
    exact flats_app (flats_rev h.2) (by simp [flats, h.1])
theorem vn_rev {j : Nat} {q1 q2 : Pos} (hK : X.K = K) (h : VE K X false e te va) : VN K X (.Subscript e (.Slice none none (some (.UnaryOp .USub (.Constant (.int 1) j q1) q2)) p2) pos) (fun σ H Q => te σ H fun x H1 => rRev K x H1 Q) (vRev va) :=
  ⟨by subst hK; exact pe_rev h.pe pe_m1, fun H0 Z σ H S Q C k t hc => h.snd H0 Z σ H S _ _ k t fun v H1 r S1 k1 st1 rr zq1 => by
    obtain ⟨ds, e, f, q⟩ := zq1
    obtain ⟨a, vs, rfl, hq, rs⟩ := rr.elems k1 e
    exact ⟨a, vs, rfl, hq, fun p hp => hc p _ _ H1 _ S1 k1 st1 hp (upd_grow hp) upd_same (flats_new hp rs.rev (flats_rev f)) q⟩⟩
end
section
variable {S : List Sl} {Q : VR → List Sl → Prop} {QN : List D → List Sl → Prop} {va vb : VT} {vr : VTA}
@[irreducible] def kSortIT (QN : List D → List Sl → Prop) : List VR → List Sl → Prop := fun rs S1 => ∃ (r : VR) (ns : List Int), rs = [r] ∧ get S1 r = some (.tup (ns.map .int)) ∧ ns.length < 64 ∧ ∀ ns' : List Int, ns'.Perm ns → ns'.Pairwise (· ≤ ·) → QN (ns'.map .int) S1
theorem j_sortIT (h : vr S (kSortIT QN)) : vSortIT vr S QN := by unfold kSortIT at h; exact h
theorem j_kSortIT {r : VR} {ns : List Int} (e : get S r = some (.tup (ns.map .int))) (hl : ns.length < 64) (h : ∀ ns' : List Int, ns'.Perm ns → ns'.Pairwise (· ≤ ·) → QN (ns'.map .int) S) : kSortIT QN [r] S := by unfold kSortIT; exact ⟨r, ns, rfl, e, hl, h⟩
@[irreducible] def kSortI (QN : List D → List Sl → Prop) : List VR → List Sl → Prop := fun rs S1 => ∃ (r : VR) (ns : List Int), rs = [r] ∧ get S1 r = some (.lst (ns.map .int)) ∧ ns.length < 64 ∧ ∀ ns' : List Int, ns'.Perm ns → ns'.Pairwise (· ≤ ·) → QN (ns'.map .int) S1
theorem j_sortI (h : vr S (kSortI QN)) : vSortI vr S QN := by unfold kSortI at h; exact h
theorem j_kSortI {r : VR} {ns : List Int} (e : get S r = some (.lst (ns.map .int))) (hl : ns.length < 64) (h : ∀ ns' : List Int, ns'.Perm ns → ns'.Pairwise (· ≤ ·) → QN (ns'.map .int) S) : kSortI QN [r] S := by unfold kSortI; exact ⟨r, ns, rfl, e, hl, h⟩
@[irreducible] def kRev (QN : List D → List Sl → Prop) : VR → List Sl → Prop := fun r S1 => ∃ ds, get S1 r = some (.lst ds) ∧ flats ds = true ∧ QN ds.reverse S1
theorem j_rev (h : va S (kRev QN)) : vRev va S QN := by unfold kRev at h; exact h
theorem j_kRev {r : VR} {ds : List D} (e : get S r = some (.lst ds)) (f : flats ds = true) (h : QN ds.reverse S) : kRev QN r S := by unfold kRev; exact ⟨ds, e, f, h⟩
theorem kitL : PySem.W.kitAny [] (.type "list") [.type "list", .type "tuple"] = some true := by decide +kernel
theorem kitT : PySem.W.kitAny [] (.type "tuple") [.type "list", .type "tuple"] = some true := by decide +kernel
end
end VL
end
section
set_option maxHeartbeats 4000000
namespace L2
open PySem PySem.Spec PyProof.Rows PySem.W
structure Flies (P : Program) (w : World) (outer : List Env) (H : Hp) (s : Shared) (x : Addr) (cls a0 : Value) (B : Heap) (H' : Hp) (s' : Shared) : Prop where
  os : s'.os = s.os
  bare : AllBare s'.gens
  fly : Heap.FlyingW B outer x cls a0 s'.heap
  frm : ∀ b ∈ frs outer, ∀ o, s.heap.get? b = some o → ∃ sl, s'.heap.get? b = some { o with slots := sl }
  hok : HOk P w H' B
  cov : ∀ b o, s.heap.get? b = some o → H b = none → b ∉ frs outer → B.get? b = some o
  same : ∀ b, H b ≠ none → H' b = H b
  free : ∀ b o, s.heap.get? b = some o → H b = none → H' b = none
  new : s.heap.get? x = none
def CX1 (P : Program) (w : World) : CXT := fun outer H s E e s' => ∃ x cls a0 B H', e = .ref x ∧ Flies P w outer H s x cls a0 B H' s' ∧ E cls none H'
section
variable {P : Program} {w : World} {outer : List Env} {H H' : Hp} {s s' : Shared} {x : Addr} {cls a0 : Value} {B : Heap}
theorem Flies.hok' (f : Flies P w outer H s x cls a0 B H' s') : HOk P w H' s'.heap := f.hok.kept f.fly.1
theorem Flies.un (f : Flies P w outer H s x cls a0 B H' s') : Un (frs outer) [] H H' s.heap s'.heap where
  keep := fun b o e n nb _ => f.fly.1 b o (f.cov b o e n nb)
  slot := fun b o e _ hb _ => f.frm b hb o e
  free := fun b o e n _ => f.free b o e n
  there := fun b o e _ => by
    cases n : H b with
    | none =>
      by_cases hb : b ∈ frs outer
      · obtain ⟨sl, q⟩ := f.frm b hb o e
        exact ⟨_, q⟩
      · exact ⟨o, f.fly.1 b o (f.cov b o e n hb)⟩
    | some u => exact ObjOk.there (f.hok' b u (by rw [f.same b (by rw [n]; simp)]; exact n))
  tups := fun b xs e => by rw [f.same b (by rw [e]; simp)]; exact e
  frzs := fun b o u e => by rw [f.same b (by rw [e]; simp)]; exact e
  tbls := fun b ps e => ⟨#[], by rw [f.same b (by rw [e]; simp), e]; simp⟩
theorem Flies.noX (f : Flies P w outer H s x cls a0 B H' s') : H' x = none := by
  cases n : H' x with
  | none => rfl
  | some u =>
    obtain ⟨o, e⟩ := ObjOk.there (f.hok x u n)
    rw [f.fly.2.1] at e
    cases e
theorem hok_hide {h : Heap} {as : List Addr} (k : HOk P w H h) (hf : ∀ a ∈ as, H a = none) : HOk P w H (hideAll h as) := fun b u e => by
  have nb : ∀ c v, H c = some v → c ∉ as := fun c v q z => by rw [hf c z] at q; cases q
  refine (k b u e).stay (fun c v hc q => hideAll_get _ q ?_) (fun c q => q) fun c xs q => q
  rcases hc with rfl | hc
  · exact nb c u e
  · exact nb c _ hc
end
structure ThrowsTo (X : Cx) (Hin : Hp) (E : XK) : Prop where
  first : ∀ pins σ H s h1 x cls args, Inv X pins σ H s → Heap.MadeExcOf s.heap h1 x cls args → (∀ b, Hin b ≠ none → H b = Hin b) → E cls none H → ∀ tk, X.xe (.ref x) { s with heap := h1, toks := tk }
  next : ∀ pins σ H s e s', Inv X pins σ H s → CX1 X.prog X.w X.stack H s (fun c _ H' => (∀ b, Hin b ≠ none → H' b = Hin b) ∧ E c none H') e s' → X.xe e s'
section
variable {P : Program} {w : World} {K : PySem.W.Frag} {mg : Str → Option Value} {base : Heap} {N : List Str} {qual : Str} {scope : Scope} {f : Addr} {cd : Value} {A : Around} {outer : List Env} {s : Shared} {H : Hp} {E : XK}
theorem throws_of : ThrowsTo (cxOf (CX1 P w) P w K mg base N qual scope f cd A outer s H E) H E where
  first := fun pins σ Hc sr h1 x cls args I hx fr he tk => by
    have nf : ∀ b ∈ frs outer, ∀ o, s.heap.get? b = some o → ∀ vs, o.data ≠ .fields vs := fun b hb o e => by
      obtain ⟨_, o', e', n⟩ := I.ok.funs.mem hb
      have e' : s.heap.get? b = some o' := e'
      rw [e] at e'; cases e'
      exact n
    refine wpAny_leaves_madeW (base := hideAll sr.heap (frs (envOfC qual scope s.heap.objs.size f cd :: outer))) I.ok.frames rfl (fun b o q => of_hideAll _ q) (funFrames_hide I.stack fun env he a ha => List.mem_filterMap.mpr ⟨env, he, ha⟩) hx fun h' t fl _ _ up => ?_
    refine ⟨x, cls, .ref t, _, Hc, rfl, ⟨I.os, I.bare, fl, fun b hb o e => ?_, hok_hide I.hok I.stkFree, fun b o e n nb => ?_, fr, fun b o e n => ?_, ?_⟩, he⟩
    · obtain ⟨sl, q⟩ := I.base.slot b o e (I.ok.frf b hb) hb (by intro z; cases z)
      obtain ⟨sl', q'⟩ := up b _ (hx.keeps _ _ q) (nf b hb o e)
      exact ⟨sl', q'⟩
    · refine hideAll_get _ (I.base.keep b o e n nb (by intro z; cases z)) fun z => ?_
      rcases List.mem_cons.mp (I.stkSub b z) with e' | z
      · have lt := Heap.lt_size e
        have ab : s.heap.objs.size ≤ b := e' ▸ I.ok.above
        exact absurd lt (Nat.not_lt.mpr ab)
      · exact nb z
    · exact I.base.free b o e n (by intro z; cases z)
    · cases q : s.heap.get? x with
      | none => rfl
      | some o =>
        obtain ⟨o', e'⟩ := I.base.there x o q (by intro z; cases z)
        rw [hx.new] at e'
        cases e'
  next := fun pins σ Hc sr e s' I h => by
    obtain ⟨x, cls, a0, B, H', rfl, F, fr, he⟩ := h
    have nf : ∀ b ∈ frs outer, ∀ o, s.heap.get? b = some o → ∀ vs, o.data ≠ .fields vs := fun b hb o e => by
      obtain ⟨_, o', e', n⟩ := I.ok.funs.mem hb
      have e' : s.heap.get? b = some o' := e'
      rw [e] at e'; cases e'
      exact n
    refine wpAny_leaves_onW I.ok.frames rfl F.fly fun h' fl up => ?_
    have sub : ∀ b ∈ frs outer, b ∈ frs (envOfC qual scope s.heap.objs.size f cd :: outer) := fun b hb => by
      obtain ⟨env, h1, h2⟩ := List.mem_filterMap.mp hb
      exact List.mem_filterMap.mpr ⟨env, List.mem_cons_of_mem _ h1, h2⟩
    refine ⟨x, cls, a0, B, H', rfl, ⟨F.os.trans I.os, F.bare, fl, fun b hb o e => ?_, F.hok, fun b o e n nb => ?_, fr, fun b o e n => ?_, ?_⟩, he⟩
    · obtain ⟨sl, q⟩ := I.base.slot b o e (I.ok.frf b hb) hb (by intro z; cases z)
      obtain ⟨sl1, q1⟩ := F.frm b (sub b hb) _ q
      obtain ⟨sl2, q2⟩ := up b _ q1 (nf b hb o e)
      exact ⟨sl2, q2⟩
    · refine F.cov b o (I.base.keep b o e n nb (by intro z; cases z)) (I.base.free b o e n (by intro z; cases z)) fun z => ?_
      rcases List.mem_cons.mp (I.stkSub b z) with e' | z
      · have lt := Heap.lt_size e
        have ab : s.heap.objs.size ≤ b := e' ▸ I.ok.above
        exact absurd lt (Nat.not_lt.mpr ab)
      · exact nb z
    · obtain ⟨o', e'⟩ := I.base.there b o e (by intro z; cases z)
      exact F.free b o' e' (I.base.free b o e n (by intro z; cases z))
    · cases q : s.heap.get? x with
      | none => rfl
      | some o =>
        obtain ⟨o', e'⟩ := I.base.there x o q (by intro z; cases z)
        rw [F.new] at e'
        cases e'
end
theorem own_at {K : Frag} {h : Heap} {mg : Str → Option Value} {x : Str} {C : Addr} {bmB : List Value} {newId : String} (X : K.In h) (hm : mg x = some (.ref C)) (q : excIn K C bmB newId = true) : OwnCls x C bmB newId mg h := by
  unfold excIn at q
  cases hl : K.lookup C with
  | none => rw [hl] at q; cases q
  | some o =>
    rw [hl] at q
    split at q
    case h_2 => cases q
    case h_1 dd cd sl e =>
    cases e
    split at q
    case h_2 => cases q
    case h_1 C' bm k0 k1 k2 k3 n k5 hm' hs =>
    have hh := X _ _ hl
    simp only [Bool.and_eq_true, beq_iff_eq, Bool.not_eq_true'] at q
    obtain ⟨⟨⟨⟨⟨q1, q2⟩, q3⟩, q4⟩, q5⟩, q6⟩ := q
    cases cd
    cases q1; cases q2
    simp only at hm' q3 q5 q6
    cases hm'; cases q3
    rw [show sl = #[k0, k1, k2, k3, some (.builtin _), k5] from Array.toList_inj.mp hs] at hh
    exact ⟨hm, _, _, _, _, _, _, _, _, _, _, _, _, _, _, _, _, _, hh, .of_isNs (isNs_of_in X q5), nsMap_none_of_in X q5 q6, tail_of_in X q4⟩
section
variable {X : Cx} {Hin : Hp} {E : XK} {C : Addr} {bmB : List Value} {B newId initId : String} {x : Str} {z : Str} {j : Nat} {np p cpos pos : Pos}
def tRaise (Hin : Hp) (E : XK) (C : Addr) : TS := fun _ _ H => (∀ b, Hin b ≠ none → H b = Hin b) ∧ E (.ref C) none H
theorem ps_raise (T : ThrowsTo X Hin E) (FB : ExcBaseFacts B newId initId bmB) (ec : excIn X.K C bmB newId = true) (hm : X.mg x = some (.ref C)) (hc : X.calm = true) (hg : Gl X x := by rfl) (hd : (x == ("__debug__" : Str)) = false := by decide)
    (he : starEach [.Constant (.str z) j p] X.env = [(false, eval (.Constant (.str z) j p) X.env)] := by rfl) :
    PS X (.Raise (some (.Call (.Name x np) [.Constant (.str z) j p] [] cpos)) none pos) (tRaise Hin E C) := by
  intro pins s σ H D I ⟨fr, ec'⟩
  have O : OwnCls x C bmB newId X.mg s.heap := own_at I.kIn hm ec
  obtain ⟨tl, N, nm, q, bs, hdct, sn, sub, ab, col, dd, k0, k1, k2, k3, k5, mN, hC, hN, hni, TL⟩ := O.obj
  refine wpAny_Raise_call_subT (mN := mN) (nm := nm) (q := q) (C := C) (N := N) (bs := bs) (bm := tl) (hdct := hdct) (sn := sn) (sub := sub) (ab := ab) (col := col) (dd := dd) (k0 := k0) (k1 := k1) (k2 := k2) (k3 := k3) (k5 := k5) FB (TL.hasType FB.hasBase) (I.ok.hd hc) (by rw [he]; rfl) hni (ld_glob I hg hm ⟨rfl, ?_⟩ hd)
  rw [he]
  refine Calls.evalArgs_plain ?_
  refine Calls.spliced_cons (Calls.Constant_str (k := j) (pos := p) (Calls.spliced_nil ⟨rfl, ?_, hC, hN, TL, fun h' e mk => ?_⟩))
  · show 1 ≤ sizeLine
    rw [sizeLine_eq]; lia
  · exact T.first pins σ H s h' e (.ref C) _ I mk fr ec' _
end
section
open Builtin Builtin.ObjectAttr Builtin.Getset_descriptor
def clsTold (K : Frag) (C : Addr) : Bool := (findIn K (.ref C) "__getattribute__" == some (some (.builtin "BaseException.__getattribute__"))) && (findIn K (.ref C) "__getattr__" == some none) && (findIn K (.ref C) "__class__" == some (some (.builtin "object.__class__"))) &&
  (specialIn K (.builtin "object.__class__") "__get__" == some (some (.builtin "getset_descriptor.__get__"))) && (takesIn K (.builtin "object.__class__") == some true) && (mroIn K C (.type "object") == some true) && (mroIn K C (.type "BaseException") == some true)
section
variable {prog : Program} {w : World} {A : Around} {E : Value → Shared → Prop} {s : Shared} {K : Frag} {x C : Addr} {o : Obj}
theorem class_told {Q : Option Value → Shared → Prop} (X : K.In s.heap) (ho : s.heap.get? x = some o) (hc : o.cls = .ref C) (ok : clsTold K C = true) (h : Q (some (.ref C)) { s with toks := s.toks + 1 }) : wpAny (model prog w) A (getAttr? (.ref x) "__class__") Q E s := by
  obtain ⟨hp, g, d, tk, os⟩ := s
  simp only [clsTold, Bool.and_eq_true, beq_iff_eq] at ok
  obtain ⟨⟨⟨⟨⟨⟨o1, o2⟩, o3⟩, o4⟩, o5⟩, o6⟩, o7⟩ := ok
  have T0 : Looks (model prog w) hp (typeOf (.ref x)) (.ref C) := hc ▸ (Looks.ld ho).andThen .now
  have T1 := looks_findIn (M := model prog w) X o1
  have T2 := looks_findIn (M := model prog w) X o2
  have T3 : Looks (model prog w) hp (find (.ref x) (.ref C) "__class__") (.bind (.builtin "getset_descriptor.__get__") (.builtin "object.__class__")) :=
    (looks_findIn X o3).andThen ((show Looks (model prog w) hp (getOf (some (.builtin "object.__class__"))) _ from looks_specialIn X o4).andThen
      ((show Looks (model prog w) hp (dataDescriptor? (some (.builtin "object.__class__")) (some (.builtin "getset_descriptor.__get__"))) (some (.builtin "getset_descriptor.__get__", .builtin "object.__class__")) from (looks_takesIn X o5).andThen .now).andThen (Looks.tag .now)))
  have T6 := looks_mroIn (M := model prog w) X o6
  have T7 : Looks (model prog w) hp (isInstance (.ref x) (.type "BaseException")) true := T0.andThen (looks_mroIn X o7)
  have gets : ∀ (A : Around) (tk : Nat), wpAny (model prog w) A (call (.builtin "getset_descriptor.__get__") [.builtin "object.__class__", .ref x, .ref C]) (fun v s' => v = .ref C ∧ s' = ⟨hp, g, d, tk, os⟩) (fun _ _ => False) ⟨hp, g, d, tk, os⟩ := fun A tk => by
    refine wpAny_call (codeAny_call_builtin KF.slot_gs.plain KF.entry_gs (KF.slot_gs.check _ _ _ _ _ _ _ _ KF.type_class (KF.args_gs _ _ _) ?_))
    simp only [Builtin.«getset_descriptor.__get__», descrGet, dga_obj]
    refine wpAny_bind (wpAny_pure ?_)
    simp only [descrGetter, descrCheckInstance, descrNameAndClass, isInstance, KF.owner_class]
    repeat lk
    exact ⟨Code.quiet_builtin _ (by decide +kernel), codeAny_builtin KF.entry_class (by simp only [Builtin.«object.__class__», shownTypeOf]; (repeat lk); exact ⟨rfl, rfl⟩)⟩
  have asks : ∀ (A : Around) (tk : Nat) (nt : Tok), wpAny (model prog w) A (call (.builtin "BaseException.__getattribute__") [.ref x, .str "__class__" nt]) (fun v s' => v = .ref C ∧ s' = ⟨hp, g, d, tk, os⟩) (fun _ _ => False) ⟨hp, g, d, tk, os⟩ := fun A tk nt => by
    have kd : builtinKind "BaseException.__getattribute__" = some .slot := by decide +kernel
    have sp : splitId "BaseException.__getattribute__" = some ("BaseException", "__getattribute__") := by decide +kernel
    refine wpAny_call (codeAny_call_builtin (by decide +kernel) F.entry_bexc_ga ?_)
    simp only [checkBuiltinCall, kd, sp]
    refine wpAny_bind (T7.at ?_)
    have fits : (match Manifest.signature? "BaseException.__getattribute__" with
      | some sig => Bind.checkArgs "BaseException.__getattribute__" sig { pos := [Value.ref x, Value.str "__class__" nt] }
      | _ => pure ()) = pure () := F.args_bexc_ga (.ref x) (.str "__class__" nt)
    simp only [Bool.not_true, Bool.false_eq_true, if_false]
    refine (show _ = _ from fits) ▸ wpAny_pure ?_
    refine wpAny_bind (wpAny_pure (wpAny_bind (wpAny_pure (wpAny_bind (T0.at (wpAny_bind (T3.at ?_)))))))
    exact wpAny_bind (wpAny_mono (gets _ tk) (fun v s' ⟨a, b⟩ => wpAny_pure ⟨a, b⟩) fun _ _ z => z.elim)
  have no : (Value.builtin "BaseException.__getattribute__" == Value.builtin "object.__getattribute__") = false := by decide +kernel
  simp only [getAttr?, getAttrBy?, getAttrBy]
  refine wpAny_bind (wpAny_mkText (wpAny_bind (wpAny_attempt (wpAny_holding (wpAny_bind (T0.at (wpAny_bind (T1.at ?_))))))))
  simp only [no, Bool.and_false, Bool.false_eq_true, if_false, getAttrByItsOwn, hookBefore, onTheHeap, if_true]
  refine wpAny_bind (T2.at (wpAny_bind (wpAny_attempt (wpAny_holding ?_))))
  simp only [callGetattribute, Bool.false_and, Bool.false_eq_true, if_false, boundAndCalled, F.attr_ValueError.ga.bind]
  refine wpAny_bind (wpAny_pure (wpAny_mono (asks A (tk + 1) tk) (fun v s' ⟨a, b⟩ => ?_) fun _ _ z => z.elim))
  subst a b
  exact handed_on rfl (wpAny_pure h)
def ExcAt (x C : Addr) (h : Heap) : Prop := ∃ o, h.get? x = some o ∧ o.cls = .ref C
theorem cls_obj {cd : ClassData} (e : clsIn K C = some cd) : ∃ o, K.lookup C = some o ∧ o.data = .cls cd := by
  unfold clsIn at e
  split at e
  · next c d cd' sl q => cases e; exact ⟨_, q, rfl⟩
  · cases e
theorem kitx_exc (hk : kitCls K (.ref C) (.ref C) = some true) (ok : clsTold K C = true) (hc : (clsIn K C).isSome = true) : KitX K (.ref x) (.ref C) (ExcAt x C) where
  ty := fun M h _ ⟨o, e, c⟩ => c ▸ (Looks.ld e).andThen .now
  it := fun M h X _ => (kit_cls X hk).2.1
  ne := fun h tp dd its n sl X htp => by
    obtain ⟨cd, hcd⟩ := Option.isSome_iff_exists.mp hc
    obtain ⟨o, e, d⟩ := cls_obj hcd
    refine Bool.eq_false_iff.mpr fun q => ?_
    cases beq_iff_eq.mp q
    have z := X _ _ e
    rw [htp] at z
    cases z
    cases d
  ca := fun X ⟨o, e, c⟩ k => class_told X e c ok k
end
end
section
variable {X : Cx} {pins : List (Addr × Obj)} {σ : St} {H H' : Hp} {s s' : Shared} {x : Addr} {cls a0 : Value} {B : Heap}
theorem Flies.on {h' : Heap} {tk : Nat} (I : Inv X pins σ H s) (f : Flies X.prog X.w X.stack H s x cls a0 B H' s') (fl : Heap.FlyingW B X.stack x cls a0 h') (up : s'.heap.UpToSlots h') : Flies X.prog X.w X.stack H s x cls a0 B H' { s' with heap := h', toks := tk } where
  os := f.os
  bare := f.bare
  fly := fl
  frm := fun b hb o e => by
    obtain ⟨sl, q⟩ := f.frm b hb o e
    obtain ⟨_, o', e', n⟩ := I.stack.mem hb
    rw [e] at e'; cases e'
    obtain ⟨sl', q'⟩ := up b _ q n
    exact ⟨sl', q'⟩
  hok := f.hok
  cov := f.cov
  same := f.same
  free := f.free
  new := f.new
theorem Inv.lands (I : Inv X pins σ H s) (f : Flies X.prog X.w X.stack H s x cls a0 B H' s') : Inv X pins σ H' s' :=
  I.call' (ch := []) f.os f.un f.hok' f.bare fun b z => by cases z
abbrev Cx.caught (X : Cx) (x : Addr) : Cx := { X with A := X.A.mark (some (.ref x)), calm := false }
theorem Inv.caught (I : Inv X pins σ H s) (x : Addr) : Inv (X.caught x) pins σ H s :=
  ⟨⟨I.ok.mod, I.ok.kind, I.ok.glob, I.ok.blt, I.ok.above, I.ok.inj, I.ok.has, I.ok.cab, fun z => Bool.noConfusion z, I.ok.frames, I.ok.stk, I.ok.exf, I.ok.bs, I.ok.bsz, I.ok.noex, I.ok.exfs, I.ok.funs, I.ok.frf⟩, I.os, I.bare, I.base, I.loc, I.cell, I.free, I.freeC, I.pin, I.hok, I.len⟩
theorem Inv.uncaught {x : Addr} (J : Inv (X.caught x) pins σ H s) (ok : X.Ok) : Inv X pins σ H s := ⟨ok, J.os, J.bare, J.base, J.loc, J.cell, J.free, J.freeC, J.pin, J.hok, J.len⟩
theorem drop_ok {M : Model} {A : Around} {E : Value → Shared → Prop} {i : Nat} {n : Str} {v : V} {Q : Unit → Shared → Prop} (I : Inv X pins σ H s) (hN : X.N.Nodup) (hi : X.N[i]? = some n) (hk : X.env.scope.names.lookup n = some .local) (hv : σ[i]? = some (some v))
    (h : ∀ s', Inv X pins (σ.set i none) H s' → Q () s') : wpAny M A (unbindName X.env n) Q E s := by
  obtain ⟨m, hn, hl⟩ := id I.loc
  obtain ⟨u, _, q⟩ := hl i n v hi hv (.inl hk)
  have hm : m n = some u := by
    rcases q with ⟨_, e⟩ | ⟨z, _⟩
    · exact e
    · have hk' : X.env.kindOf n = some .local := hk
      rw [hk'] at z
      rcases z with z | z <;> cases z
  have hcls : (X.env.scope.kind == .class || (X.env.scope.kind == .module && X.env.locals != X.env.globals)) = false := by rw [I.ok.kind]; rfl
  have hiσ : i < σ.length := by rw [I.len]; exact (List.getElem?_eq_some_iff.mp hi).1
  refine wpAny_unbindName_local hk hn hm hcls fun h' u' hn' hs => ?_
  have far : ∀ b o, X.s₀.heap.get? b = some o → b ≠ X.env.locals := fun b o e => Nat.ne_of_lt (Nat.lt_of_lt_of_le (Heap.lt_size e) I.ok.above)
  refine h _ ⟨I.ok, I.os, I.bare, ⟨fun b o e n hb hx => (hs.2 b (far b o e)).trans (I.base.keep b o e n hb hx), fun b o e n hb hx => ?_, I.base.free, fun b o e hx => ?_, I.base.tups, I.base.frzs, I.base.tbls⟩, ⟨_, hn', fun j y v' e1 e2 e3 => ?_⟩, fun y c e => ?_, I.free, I.freeC, fun p hp => ?_, fun b ob e => ?_, by simpa using I.len⟩
  · obtain ⟨sl, q⟩ := I.base.slot b o e n hb hx
    exact ⟨sl, (hs.2 b (far b o e)).trans q⟩
  · obtain ⟨o', q⟩ := I.base.there b o e hx
    exact ⟨o', (hs.2 b (far b o e)).trans q⟩
  · have hj : j ≠ i := fun z => by
      rw [z, List.getElem?_set_self hiσ] at e2
      cases e2
    rw [List.getElem?_set_ne (Ne.symm hj)] at e2
    obtain ⟨w', r', q⟩ := hl j y v' e1 e2 e3
    refine ⟨w', r', ?_⟩
    rcases q with ⟨k, e⟩ | ⟨k, c, e, z⟩
    · have : y ≠ n := fun e => hj (nodup_ix hN e1 (e ▸ hi))
      exact .inl ⟨k, by simp [this, e]⟩
    · exact .inr ⟨k, c, e, z.sameBut hs (I.cne y c e)⟩
  · obtain ⟨w', z⟩ := I.cell y c e
    exact ⟨w', z.sameBut hs (I.cne y c e)⟩
  · obtain ⟨e, n, ne, nf, d⟩ := I.pin p hp
    exact ⟨(hs.2 p.1 ne).trans e, n, ne, nf, d⟩
  · refine (I.hok b ob e).stay (fun c w' hc q => (hs.2 c ?_).trans q) (fun _ q => q) fun _ _ q => q
    rintro rfl
    rcases hc with rfl | hc
    · rw [I.free] at e; cases e
    · rw [I.free] at hc; cases hc
end
section
variable {X : Cx} {k i : Nat} {f CB : Addr} {fd : FuncData} {ps : List Str} {sp : Sp} {e0 : Expr} {es : List Expr} {ta : TA} {x cb en : Str} {b0 : Stmt} {suite : List Stmt} {th : TS} {p pos pe np hp tp : Pos}
def unE (D : Ends) (i : Nat) : Ends := { nx := fun σ H => D.nx (σ.set i none) H, rt := D.rt, bk := fun σ H => D.bk (σ.set i none) H, ct := fun σ H => D.ct (σ.set i none) H }
def tTry (K : Frag) (CB : Addr) (sp : Sp) (ta : TA) (i : Nat) (th : TS) : TS := fun D σ H => ta σ H fun vs H1 => sp vs H1 (fun _ _ => False) fun c _ H' => ∃ C, c = .ref C ∧ exmOne K (.ref C) (.ref CB) = some true ∧
  ∀ y o, H' y = none → o.cls = .ref C → th (unE D i) (σ.set i (some (.ref y))) (upd H' y (.frz o (.own y)))
end
def excOk (K : Frag) (C : Addr) : Bool := (kitCls K (.ref C) (.ref C) == some true) && clsTold K C && (clsIn K C).isSome
theorem excOk.kit {K : Frag} {x C : Addr} (h : excOk K C = true) : KitX K (.ref x) (.ref C) (ExcAt x C) := by
  simp only [excOk, Bool.and_eq_true, beq_iff_eq] at h
  exact kitx_exc h.1.1 h.1.2 h.2
def clsV : Value → V
  | .ref C => .ref C
  | .type T => .ty T
  | _ => .non
def isC : Value → Bool
  | .ref _ => true
  | .type _ => true
  | _ => false
theorem clsV_rel {c u : Value} (h : isC c = true) (r : RelV (clsV c) u) : u = c := by
  match c, h, r with
  | .ref _, _, r => exact r
  | .type _, _, r => exact r
theorem clsV_vals : ∀ {cs us : List Value}, cs.all isC = true → Vals (cs.map clsV) us → us = cs
  | [], _, _, .nil => rfl
  | c :: cs, _, h, .cons r t => by
    simp only [List.all_cons, Bool.and_eq_true] at h
    rw [clsV_rel h.1 r, clsV_vals h.2 t]
def rIsiE (K : PySem.W.Frag) : List V → Hp → VK → Prop := fun xs H Q => ∃ y o C c b, xs = [.ref y, c] ∧ H y = some (.frz o (.own y)) ∧ o.cls = .ref C ∧ excOk K C = true ∧
  ((∃ cv, c = clsV cv ∧ isC cv = true ∧ kitOne K (.ref C) cv = some b) ∨ (∃ t cs, c = .ref t ∧ SqT K H t (cs.map clsV) ∧ cs.all isC = true ∧ kitAny K (.ref C) cs = some b)) ∧ Q (.bl b) H
theorem call_isiE {X : Cx} : CallR X (.builtin "isinstance") (rIsiE X.K) := by
  intro pins s σ H xs us Q I r ⟨y, o, C, c, b, e, hy, hc, ok, h, q⟩
  subst e
  obtain ⟨u, w', rfl, rx, rc⟩ := vals2 r
  cases rx
  have at_ : ExcAt y C s.heap := ⟨o, (show ObjOk X.prog X.w H s.heap y (.frz o (.own y)) from I.hok y _ hy).1, hc⟩
  have fin : ∀ tk, EP X pins σ Q (.bool b) { s with toks := tk } := fun tk => ⟨.bl b, H, I.tok tk, rfl, q⟩
  rcases h with ⟨cv, rfl, hi, e⟩ | ⟨t, cs, rfl, hq, hi, e⟩
  · rw [clsV_rel hi rc]
    exact PySem.W.kia_one (excOk.kit ok) I.kIn at_ e (fun z => nomatch z) fin
  · cases rc
    obtain ⟨its, r2, tp, _⟩ := I.tuple hq
    cases clsV_vals hi r2
    obtain ⟨o2, h1, h2, n, h3⟩ := tp
    obtain ⟨oc, od, odt, osl⟩ := o2
    simp only at h2 h3
    subst h2; subst h3
    exact PySem.W.kia_tup (excOk.kit ok) I.kIn at_ h1 e (fun z => nomatch z) fin
end L2
namespace VL
open PySem L2 PySem.W
section
variable {K : PySem.W.Frag} {X : Cx} {m : Bool} {i : Nat} {en cn : Str} {p1 p2 p3 p4 pos : Pos} {es : List Expr} {cs : List Addr} {c : Value}
theorem repE {H0 H : Hp} {Z : AP} {σ : St} {S : List Sl} {C : Addr} (k : OK K H0 Z σ H S) (h : S[i]? = some (.val (.exc (.ref C)))) : ∃ y o, σ[i]? = some (some (.ref y)) ∧ H y = some (.frz o (.own y)) ∧ o.cls = .ref C := by
  obtain ⟨o, e, v, rfl, r⟩ := k.ownAt h
  cases r with | exc n hh hc => exact ⟨_, _, e, hh, hc⟩
def vIsiE (K : Frag) (i : Nat) (c : Value) : VT := fun S Q => ∃ C b, S[i]? = some (.val (.exc (.ref C))) ∧ excOk K C = true ∧ kitOne K (.ref C) c = some b ∧ Q (.d (.bl b)) S
theorem ve_isiE (hK : X.K = K) (hc : isC c = true) (hcn : PE X (.Name cn p3) (tC (clsV c))) (hi : X.N[i]? = some en) (hv : Vis X.env.scope en) (hg : Gl X "isinstance") (hm : X.mg "isinstance" = none) (hd : (en == ("__debug__" : Str)) = false := by decide) (hcd : (en == ("__classdict__" : Str)) = false := by decide)
    (he : starEach [.Name en p2, .Name cn p3] X.env = [(false, eval (.Name en p2) X.env), (false, eval (.Name cn p3) X.env)] := by rfl) :
    VE K X m (.Call (.Name "isinstance" p1) [.Name en p2, .Name cn p3] [] pos) (tCB (rIsiE K) (tCons (tVar i) (tCons (tC (clsV c)) tNil))) (vIsiE K i c) :=
  ⟨by subst hK; exact pe_callB call_isiE hg hm bt_isinstance (pa_cons (pe_var hi hv hd hcd) (pa_cons hcn pa_nil)), fun H0 Z σ H S Q C k t hcc => by
    obtain ⟨C0, b, h1, h2, h3, q⟩ := t
    obtain ⟨y, o, e1, e2, e3⟩ := repE k h1
    exact ⟨_, e1, y, o, C0, _, b, rfl, e2, e3, h2, .inl ⟨c, rfl, hc, h3⟩, hcc _ _ (.d (.bl b)) S k .refl (Rep.bl b) q⟩⟩
end
end VL
namespace VL
open PySem L2 PySem.W
def spX (K : PySem.W.Frag) (bad : List D → Addr → Prop) : Sp := fun vs H _ E => ∃ ds C, Reps K Any AnyF H vs ds ∧ bad ds C ∧ ∀ H', (∀ a, H a ≠ none → H' a = H a) → E (.ref C) none H'
def HasX (P : Program) (w : World) (K : PySem.W.Frag) (mg : Str → Option Value) (base : Heap) (k : Nat) (x : Str) (ps : List Str) (bad : List D → Addr → Prop) : Prop :=
  ∃ (f : Addr) (fd : FuncData), FnOk P w K mg base (CX1 P w) k f fd ps (spX K bad) ∧ mg x = some (.ref f) ∧ PySem.W.keepIn K (.ref f) = true ∧ Binds K fd ps []
def Fz (Hin : Hp) (Z : AP) (σ : St) (S : List Sl) (H : Hp) : Prop := ∀ a, Hin a ≠ none → H a = Hin a ∧ NM Z σ S a
theorem Fz.step {Hin H H' : Hp} {Z : AP} {σ σ' : St} {S S' : List Sl} (f : Fz Hin Z σ S H) (st : Step Z σ S H σ' S' H') : Fz Hin Z σ' S' H' := fun a e => by
  obtain ⟨e1, n⟩ := f a e
  obtain ⟨e2, n2⟩ := st.1 a n (by rw [e1]; exact e)
  exact ⟨e2.trans e1, n2⟩
structure VXs (K : PySem.W.Frag) (X : Cx) (Hin : Hp) (E : XK) (sts : List Stmt) (ts : TS) (t : (Addr → Prop) → List Sl → Prop) : Prop where
  ps : PSs X sts ts
  snd : ∀ Wc : Addr → Prop, (∀ C, Wc C → ∀ H', (∀ a, Hin a ≠ none → H' a = Hin a) → E (.ref C) none H') → ∀ H0 Z σ H S D, OK K H0 Z σ H S → Fz Hin Z σ S H → t Wc S → ts D σ H
section
variable {K : PySem.W.Frag} {X : Cx} {Hin : Hp} {E : XK} {sts rest A : List Stmt} {st : Stmt} {ts us : TS} {t u : (Addr → Prop) → List Sl → Prop} {v : VTS} {pos : Pos}
theorem vx_never : VXs K X Hin E sts tNever (fun _ _ => False) := ⟨pss_never, fun _ _ _ _ _ _ _ _ _ _ h => h.elim⟩
theorem vx_raise {C : Addr} {bmB : List Value} {B newId initId : String} {x z : Str} {j : Nat} {np p cpos pos : Pos} (T : ThrowsTo X Hin E) (FB : ExcBaseFacts B newId initId bmB) (ec : excIn X.K C bmB newId = true) (hm : X.mg x = some (.ref C)) (hc : X.calm = true) (hg : Gl X x := by rfl) (hd : (x == ("__debug__" : Str)) = false := by decide)
    (he : starEach [.Constant (.str z) j p] X.env = [(false, eval (.Constant (.str z) j p) X.env)] := by rfl) :
    VXs K X Hin E [.Raise (some (.Call (.Name x np) [.Constant (.str z) j p] [] cpos)) none pos] (tRaise Hin E C) (fun Wc _ => Wc C) :=
  ⟨pss_one (ps_raise T FB ec hm hc hg hd he), fun Wc hE H0 Z σ H S D k f h => ⟨fun b e => (f b e).1, hE C h H fun b e => (f b e).1⟩⟩
theorem vx_seq (h1 : VS K X st ts v) (h2 : VXs K X Hin E rest us u) : VXs K X Hin E (st :: rest) (tSeq ts us) (fun Wc S => v { nx := u Wc, rt := fun _ _ => False } S) :=
  ⟨pss_cons h1.ps h2.ps, fun Wc hE H0 Z σ H S D k f h => h1.snd H0 Z σ H S _ _ k h ⟨fun σ' H' S' k' st q => h2.snd Wc hE H0 Z σ' H' S' D k' (f.step st) q, fun _ _ _ _ _ q => q.elim, fun _ _ _ _ _ q => q.elim, fun _ _ _ _ _ _ _ _ q => q.elim⟩⟩
theorem vx_if {c : Expr} {tc : TT} {wc : VTT} (hc : VTe K X c tc wc) (ha : VXs K X Hin E A ts t) (hr : VXs K X Hin E rest us u) : VXs K X Hin E (.If c A [] pos :: rest) (tSeq (tIfS tc ts tNext) us) (fun Wc S => wc S fun b S1 => if b = true then t Wc S1 else u Wc S1) :=
  ⟨pss_cons (ps_if hc.pe ha.ps pss_nil) hr.ps, fun Wc hE H0 Z σ H S D k f h => hc.snd H0 Z σ H S _ _ k h fun b H1 S1 k1 st1 q => by
    cases b with
    | true => rw [if_pos rfl] at q ⊢; exact ha.snd Wc hE H0 Z σ H1 S1 _ k1 (f.step st1) q
    | false => rw [if_neg Bool.false_ne_true] at q ⊢; exact hr.snd Wc hE H0 Z σ H1 S1 D k1 (f.step st1) q⟩
theorem has_X {P : Program} {w : World} {mg : Str → Option Value} {base : Heap} {x : Str} {st : Stmt} {N ps : List Str} {k : Nat} {bad : List D → Addr → Prop} (S : Src K mg x st) (sc : FnScope N ps (defScope st))
    (hb : ∀ (kV doc pm : Value) (an : Option Addr) (cdv ct : Value) (us : List Value), us.length = ps.length → bindArgs (PySem.W.fnOf x x (defArgs st) (defBody st) (defScope st) .none kV doc pm an cdv ct) ⟨us, []⟩ = pure (ps.zip us))
    (len : ∀ ds C, bad ds C → ds.length = ps.length)
    (hbody : ∀ (f : Addr) (cdv : Value) (A : Around) (outer : List Env) (s : Shared) (H : Hp) (E : XK), Room k (A.deeper (PyProof.Rows.envOfC x (defScope st) s.heap.objs.size f cdv)) → ThrowsTo (cxOf (CX1 P w) P w K mg base N x (defScope st) f cdv A outer s H E) H E →
      ∃ ts t, VXs K (cxOf (CX1 P w) P w K mg base N x (defScope st) f cdv A outer s H E) H E (defBody st) ts t ∧ ∀ ds C, bad ds C → t (· = C) (slots N.length ds)) : HasX P w K mg base (k + 1) x ps bad := by
  obtain ⟨f, fd, F, hm⟩ := S
  obtain ⟨oc, od, kV, doc, pm, an, cdv, ct, osl, rfl, lk, hcd⟩ := F.ex
  refine ⟨f, _, fn_of lk hcd sc (fun vs H Q E zq1 => by obtain ⟨ds, C, r, h, _⟩ := zq1; rw [r.length]; exact len ds C h) fun A outer s H vs Q E hr ⟨ds, C, r, h, fin⟩ => ?_, hm, F.kp, F.binds hb⟩
  obtain ⟨ts, t, vx, q⟩ := hbody f cdv A outer s H E hr throws_of
  refine ⟨ts, vx.ps, vx.snd (· = C) (fun C' e H' g => by subst e; exact fin H' g) H _ _ H _ _ (ok_start (N := N) r) (fun a e => ⟨rfl, ?_⟩) (q ds C h)⟩
  rintro (⟨j, s, g1, g2, _⟩ | z)
  · rw [slots_nomut g1] at g2; cases g2
  · exact z
end
end VL
namespace VL
open PySem L2 PySem.W
section
variable {K : PySem.W.Frag} {H H0 : Hp} {Z : AP} {σ : St} {S : List Sl} {i : Nat}
theorem OK.letGo (k : OK K H0 Z σ H S) (hi : i < S.length) : OK K H0 Z (σ.set i none) H (S.set i .no) ∧ Step Z σ S H (σ.set i none) (S.set i .no) H := by
  have n : ∀ a, NM Z σ S a → NM Z (σ.set i none) (S.set i .no) a := fun a x z => by
    rcases mo_put z with z | ⟨z, _⟩
    · exact x z
    · cases z
  exact ⟨k.put hi (fun a x _ => ⟨n a x, rfl⟩) (fun _ _ _ _ _ _ _ => rfl) trivial (fun _ _ _ _ _ _ z => nomatch z) (fun _ e => e) k.zl (fun _ z => nomatch z), fun a x _ => ⟨rfl, n a x⟩, fun _ e => e, fun _ _ _ => rfl⟩
theorem NP.letGo {a : Addr} (h : NP σ S a) : NP (σ.set i none) (S.set i .no) a := fun j ad ns g1 g2 => by
  by_cases hj : i = j
  · subst hj
    by_cases hl : i < S.length
    · rw [List.getElem?_set_self hl] at g1; cases g1
    · rw [List.getElem?_eq_none (by simpa using hl)] at g1; cases g1
  · rw [List.getElem?_set_ne hj] at g1 g2
    exact h j ad ns g1 g2
def unV (V : VEnds) (i : Nat) : VEnds := { nx := fun S => i < S.length ∧ V.nx (S.set i .no), rt := fun d S => i < S.length ∧ V.rt d (S.set i .no), bk := fun S => i < S.length ∧ V.bk (S.set i .no), ct := fun S => i < S.length ∧ V.ct (S.set i .no) }
theorem Lf.letGo {V : VEnds} {E : Ends} (l : Lf K H0 Z σ S H V E) : Lf K H0 Z σ S H (unV V i) (unE E i) where
  nx := fun σ' H' S' k st ⟨hi, q⟩ => l.nx _ _ _ (k.letGo hi).1 (st.trans (k.letGo hi).2) q
  bk := fun σ' H' S' k st ⟨hi, q⟩ => l.bk _ _ _ (k.letGo hi).1 (st.trans (k.letGo hi).2) q
  ct := fun σ' H' S' k st ⟨hi, q⟩ => l.ct _ _ _ (k.letGo hi).1 (st.trans (k.letGo hi).2) q
  rt := fun v d σ' H' S' k st r ⟨hi, q⟩ => l.rt v d _ _ _ (k.letGo hi).1 (st.trans (k.letGo hi).2) (r.mono (fun a n _ => ⟨NP.letGo n, rfl⟩) fun _ x => x) q
end
section
variable {K : PySem.W.Frag} {X : Cx} {k j i : Nat} {CB : Addr} {ps : List Str} {bad : List D → Addr → Prop} {e0 : Expr} {es : List Expr} {tr : TA} {vr : VTA} {x cb en : Str} {b0 : Stmt} {suite : List Stmt} {th : TS} {vh : VTS} {p pos pe np hp tp : Pos}
def vTry (K : Frag) (CB : Addr) (bad : List D → Addr → Prop) (vr : VTA) (i : Nat) (vh : VTS) : VTS := fun V S => vr S fun rs S1 => i < S1.length ∧ ∃ ds C, gets S1 rs = some ds ∧ bad ds C ∧ exmOne K (.ref C) (.ref CB) = some true ∧ vh (unV V i) (S1.set i (.val (.exc (.ref C))))
end
end VL
end
section
set_option maxHeartbeats 4000000
namespace L2
open PySem PySem.Spec PyProof.Rows PySem.W
section
variable {X : Cx} {pos p1 p2 : Pos} {j1 j2 : Nat}
def rIsi2g (K : PySem.W.Frag) : List V → Hp → VK → Prop := fun xs H Q => ∃ x p t c1 c2 b, xs = [x, .ref p] ∧ SqT K H p [.ty c1, .ty c2] ∧ (TyO K H x t ∨ ∃ y o, x = .ref y ∧ H y = some (.frz o (.own y)) ∧ o.cls = .type "dict" ∧ t = "dict") ∧
  PySem.W.kitAny [] (.type t) [.type c1, .type c2] = some b ∧ Q (.bl b) H
theorem call_isi2g : CallR X (.builtin "isinstance") (rIsi2g X.K) := by
  intro pins s σ H xs us Q I r ⟨x, p, t, c1, c2, b, e, hp, ty, hk, q⟩
  subst e
  obtain ⟨u, w', rfl, rx, rc⟩ := vals2 r
  cases rc
  have fin : ∀ tk, EP X pins σ Q (.bool b) { s with toks := tk } := fun tk => ⟨.bl b, H, I.tok tk, rfl, q⟩
  obtain ⟨its, r2, tp, _⟩ := I.tuple hp
  obtain ⟨v1, v2, rfl, t1, t2⟩ := vals2 r2
  obtain rfl : v1 = Value.type c1 := t1
  obtain rfl : v2 = Value.type c2 := t2
  obtain ⟨o, h1, h2, n, h3⟩ := tp
  obtain ⟨oc, od, odt, osl⟩ := o
  simp only at h2 h3
  subst h2; subst h3
  have hk' : kitAny X.K (.type t) [.type c1, .type c2] = some b := hk
  rcases ty with ty | ⟨y, o, rfl, hy, hc, rfl⟩
  · cases ty with
    | non => cases rx; exact kia_tup kitx_none I.kIn trivial h1 hk' (fun z => nomatch z) fin
    | bl y => cases rx; exact kia_tup kitx_bool I.kIn trivial h1 hk' (fun z => nomatch z) fin
    | int i => obtain ⟨tk, rfl⟩ := rx; exact kia_tup kitx_int I.kIn trivial h1 hk' (fun z => nomatch z) fin
    | str y => obtain ⟨tk, rfl⟩ := rx; exact kia_tup kitx_str I.kIn trivial h1 hk' (fun z => nomatch z) fin
    | dK ea =>
      cases rx
      obtain ⟨_, _, _, _, o, _, _, g1, g2, _⟩ := (show ObjOk X.prog X.w H s.heap _ (.dK _) from I.hok _ _ ea)
      exact kia_tup kitx_dict I.kIn ⟨o, g1, g2.1⟩ h1 hk' (fun z => nomatch z) fin
    | dT ea =>
      cases rx
      obtain ⟨_, _, _, _, o, _, _, g1, g2, _⟩ := (show ObjOk X.prog X.w H s.heap _ (.dT _) from I.hok _ _ ea)
      exact kia_tup kitx_dict I.kIn ⟨o, g1, g2.1⟩ h1 hk' (fun z => nomatch z) fin
    | @dE a ob es ea =>
      cases rx
      obtain ⟨_, _, _, _, _, o, _, _, g1, g2, _⟩ := dctP_of I ea
      exact kia_tup kitx_dict I.kIn ⟨o, g1, g2.1⟩ h1 hk' (fun z => nomatch z) fin
    | lst ea =>
      cases rx
      obtain ⟨_, _, pl, _⟩ := I.list ea
      obtain ⟨o, g1, g2, _⟩ := pl.isList
      exact kia_tup kitx_list I.kIn ⟨o, g1, g2⟩ h1 hk' (fun z => nomatch z) fin
    | tup ea =>
      cases rx
      obtain ⟨_, _, pl, _⟩ := I.tuple ea
      obtain ⟨o, g1, g2, _⟩ := pl
      exact kia_tup kitx_tuple I.kIn ⟨o, g1, g2⟩ h1 hk' (fun z => nomatch z) fin
  · cases rx
    exact kia_tup kitx_dict I.kIn ⟨o, (show ObjOk X.prog X.w H s.heap y (.frz o (.own y)) from I.hok y _ hy).1, hc⟩ h1 hk' (fun z => nomatch z) fin
end
end L2
namespace VL
open PySem L2 PySem.W
section
variable {K : PySem.W.Frag} {X : Cx} {m : Bool} {e c : Expr} {te : TE} {va : VT} {pos : Pos} {i : Nat} {tc : TT} {wc : VTT} {t : TS} {v : VTS} {body : List Stmt}
end
end VL
namespace L2
open PySem PySem.Spec PyProof.Rows PySem.W
def dl (ns : List Int) : Nat := (ns.foldl step_dedup []).length
theorem dl_all {ns : List Int} (h : ns.Nodup) : dl ns = ns.length := by
  unfold dl
  rw [dedup_nodup ns [] (by simpa using h)]
  rfl
def rSetA (K : PySem.W.Frag) : List V → Hp → VK → Prop := fun xs H Q => ∃ (l : Addr) (ns : List Int), xs = [.ref l] ∧ (SqL K H l (ns.map V.int) ∨ SqT K H l (ns.map V.int)) ∧ ns.length < 4000 ∧ ∀ a, H a = none → Q (.ref a) (upd H a (SetO a (dl ns)))
theorem firstMet_dl {ns : List Int} : (firstMet (fun i => ns.getD i 0) ns.length).length = dl ns := by
  unfold firstMet dl
  congr 2
  refine List.ext_getElem (by simp) fun i h1 h2 => ?_
  simp [List.getD_eq_getElem?_getD, h2]
theorem call_setA {X : Cx} (hc : X.calm = true) : CallR X (.type "set") (rSetA X.K) := by
  intro pins s σ H xs us Q I r ⟨l, ns, e, hl, h4, q⟩
  subst e
  obtain ⟨u, rfl, rx⟩ := vals1 r
  cases rx
  have made : ∀ (vs : List Value), vs.length = ns.length → ∀ (h' : Heap) (tk : Nat), (∀ b o, s.heap.get? b = some o → h'.get? b = some o) →
      h'.SetOf (intKind X.prog X.w) s.heap.objs.size (fun k => (firstMet (fun i => ns.getD i 0) vs.toArray.size).any (· == k)) (firstMet (fun i => ns.getD i 0) vs.toArray.size).length →
      EP X pins σ Q (.ref s.heap.objs.size) { s with heap := h', toks := tk } := fun vs hv h' tk old so => by
    rw [show vs.toArray.size = ns.length by simpa using hv, firstMet_dl] at so
    obtain ⟨o, es, ep, t, z1, z2, z3, _, _, z4, z5, z6⟩ := so
    exact ⟨.ref s.heap.objs.size, _, I.laid (t' := tk) old (Nat.le_refl _) (SetP.ok ⟨o, es, ep, t, z1, z2, z3, z5, z6, z6 ▸ z4⟩), rfl, q _ (I.hok.fresh (Nat.le_refl _))⟩
  rcases hl with hl | hl
  · obtain ⟨vs, rv, pl, _⟩ := I.list hl
    have hv : vs.length = ns.length := by rw [← rv.length, List.length_map]
    exact PySem.call_set_list (I.ok.hd hc) pl.isList (by simpa using intsAre_of rv) (by rw [List.size_toArray, hv]; unfold scanBound; lia) fun h' tk so old => made vs hv h' tk (fun b o e => old b o (Heap.lt_size e) e) so
  · obtain ⟨vs, rv, pl, _⟩ := I.tuple hl
    have hv : vs.length = ns.length := by rw [← rv.length, List.length_map]
    exact set_tup (I.ok.hd hc) pl (by simpa using intsAre_of rv) (by rw [List.size_toArray, hv]; unfold scanBound; lia) (made vs hv)
end L2
namespace VL
open PySem L2 PySem.W
section
variable {K : PySem.W.Frag} {X : Cx} {m : Bool} {e : Expr} {tr : TA} {vr : VTA} {pos p1 p2 pos2 : Pos}
def vLenSetA (vr : VTA) : VT := fun S Q => vr S fun rs S1 => ∃ (r : VR) (ns : List Int), rs = [r] ∧ (get S1 r = some (.lst (ns.map .int)) ∨ get S1 r = some (.tup (ns.map .int))) ∧ ns.length < 4000 ∧ Q (.d (.int (dl ns : Nat))) S1
theorem ve_lenSetA (hK : X.K = K) (hcm : X.calm = true) (hg1 : Gl X "len") (hm1 : X.mg "len" = none) (hg2 : Gl X "set") (hm2 : X.mg "set" = none) (ha : VA K X false [e] tr vr) (he : starEach [e] X.env = [(false, eval e X.env)] := by rfl) :
    VE K X m (.Call (.Name "len" p1) [.Call (.Name "set" p2) [e] [] pos2] [] pos) (tCB rLenS (tCons (tCB (rSetA K) tr) tNil)) (vLenSetA vr) :=
  ⟨by subst hK; exact pe_callB call_lenS hg1 hm1 bt_len (pa_cons (pe_callTy (call_setA hcm) hg2 hm2 bt_set ha.pe (by decide) (by decide) he rfl) pa_nil), fun H0 Z σ H S Q C k t hc => ha.snd H0 Z σ H S _ _ k t fun vs H1 rs S1 k1 st1 rrs zq1 => by
    obtain ⟨r, ns, e1, e2, hl, q⟩ := zq1
    subst e1
    obtain ⟨v, rfl, rv⟩ := rrs.one
    have fin : ∀ a, H1 a = none → tNil σ (upd H1 a (SetO a (dl ns))) fun xs H2 => rLenS (.ref a :: xs) H2 C := fun a ha => by
      have g := upd_grow (o := SetO a (dl ns)) ha
      exact ⟨a, dl ns, rfl, upd_same, hc _ _ (.d (.int (dl ns : Nat))) S1 (k1.grow g) (st1.trans (.grow g)) (Rep.int _) q⟩
    rcases e2 with e2 | e2
    · obtain ⟨a, ys, rfl, hq, rr⟩ := rv.elems k1 e2
      cases Reps.toInts rr
      exact ⟨a, ns, rfl, .inl hq, hl, fin⟩
    · obtain ⟨a, ys, rfl, hq, rr⟩ := rv.elemsT k1 e2
      cases Reps.toInts rr
      exact ⟨a, ns, rfl, .inr hq, hl, fin⟩⟩
def wIsi2g : List D → (D → Prop) → Prop := fun ds q => ∃ x c1 c2 b, ds = [x, .tup [.ty c1, .ty c2]] ∧ ((∀ n, x ≠ .ty n) ∧ isE x = false ∧ kitAny [] (.type (tyD x)) [.type c1, .type c2] = some b ∨ x = .exc (.type "dict") ∧ kitAny [] (.type "dict") [.type c1, .type c2] = some b) ∧ q (.bl b)
theorem l_isi2g : LiftC K (rIsi2g K) wIsi2g := by
  rintro xs H ds q C r ⟨x, c1, c2, b, rfl, hx, h⟩ hc
  obtain ⟨v, u, rfl, rv, ru⟩ := rep2 r
  obtain ⟨p, vs, rfl, hq, rr⟩ := Rep.sqT ru
  obtain ⟨y1, y2, rfl, r1, r2⟩ := rep2 rr
  cases r1; cases r2
  rcases hx with ⟨hn, hE, e⟩ | ⟨rfl, e⟩
  · refine ⟨v, p, tyD x, c1, c2, b, rfl, hq, .inl ?_, e, hc _ _ h fun _ _ => .bl _⟩
    cases rv with
    | int i => exact .int i
    | bl i => exact .bl i
    | non => exact .non
    | str i => exact .str i
    | ty i => exact (hn _ rfl).elim
    | tup n h r => exact .tup (.inl h)
    | tupK h r => exact .tup (sqT_none h)
    | lst n f h r => exact .lst (.inl (.inl h))
    | lstF n f h r => exact .lst (.inl (.inr ⟨_, h⟩))
    | lstK f h r => exact .lst (sqL_none h)
    | dic n f h e _ r => exact .dE h
    | exc n h e => cases hE
  · cases rv with | exc n hh he => exact ⟨_, p, "dict", c1, c2, b, rfl, hq, .inr ⟨_, _, rfl, hh, he, rfl⟩, e, hc _ _ h fun _ _ => .bl _⟩
theorem c_isi2g (hK : X.K = K) : CallR X (.builtin "isinstance") (rIsi2g K) := by subst hK; exact call_isi2g
end
theorem has_or {P : Program} {w : World} {K : PySem.W.Frag} {mg : Str → Option Value} {base : Heap} {k : Nat} {x : Str} {ps : List Str} {p q : List D → (D → Prop) → Prop} (A : Has P w K mg base k x ps (spP K p)) (B : Has P w K mg base k x ps (spP K q)) : Has P w K mg base k x ps (spP K fun ds R => p ds R ∨ q ds R) := by
  obtain ⟨f, fd, F, hm, kp, hb, oc, od, osl, lk⟩ := A
  obtain ⟨f', fd', F', hm', _, _, oc', od', osl', lk'⟩ := B
  rw [hm] at hm'
  cases hm'
  rw [lk] at lk'
  injection lk' with e1
  injection e1 with _ _ e2 _
  injection e2 with e3
  subst e3
  have two : ∀ {vs H Q E}, spP K (fun ds R => p ds R ∨ q ds R) vs H Q E → spP K p vs H Q E ∨ spP K q vs H Q E := fun {vs H Q E} zq1 => by
    obtain ⟨ds, R, r, h, fin⟩ := zq1
    rcases h with h | h
    · exact .inl ⟨ds, R, r, h, fin⟩
    · exact .inr ⟨ds, R, r, h, fin⟩
  refine ⟨f, fd, ⟨fun vs H Q E h => ?_, fun A outer s H args us vs Q E hr e0 hbd hv h => ?_⟩, hm, kp, hb, oc, od, osl, lk⟩
  · rcases two h with h | h
    · exact F.len _ _ _ _ h
    · exact F'.len _ _ _ _ h
  · rcases two h with h | h
    · exact F.run A outer s H args us vs Q E hr e0 hbd hv h
    · exact F'.run A outer s H args us vs Q E hr e0 hbd hv h
end VL
namespace VL
open PySem L2 PySem.W
section
variable {i : Nat} {va : VT} {vr : VTA} {S : List Sl} {Q : VR → List Sl → Prop} {q : D → Prop}
@[irreducible] def kLenSetA (Q : VR → List Sl → Prop) : List VR → List Sl → Prop := fun rs S1 => ∃ (r : VR) (ns : List Int), rs = [r] ∧ (get S1 r = some (.lst (ns.map .int)) ∨ get S1 r = some (.tup (ns.map .int))) ∧ ns.length < 4000 ∧ Q (.d (.int (dl ns : Nat))) S1
theorem j_lenSetA (h : vr S (kLenSetA Q)) : vLenSetA vr S Q := by unfold kLenSetA at h; exact h
theorem j_kLenSetA {r : VR} {ns : List Int} (e : get S r = some (.lst (ns.map .int)) ∨ get S r = some (.tup (ns.map .int))) (hl : ns.length < 4000) (h : Q (.d (.int (dl ns : Nat))) S) : kLenSetA Q [r] S := by unfold kLenSetA; exact ⟨r, ns, rfl, e, hl, h⟩
theorem j_isi2gL {es : List D} (h : q (.bl true)) : wIsi2g [.lst es, .tup [.ty "list", .ty "tuple"]] q := ⟨_, _, _, true, rfl, .inl ⟨fun _ z => (nomatch z), rfl, kitL⟩, h⟩
theorem j_isi2gT {es : List D} (h : q (.bl true)) : wIsi2g [.tup es, .tup [.ty "list", .ty "tuple"]] q := ⟨_, _, _, true, rfl, .inl ⟨fun _ z => (nomatch z), rfl, kitT⟩, h⟩
theorem j_isiE {K : Frag} {c : Value} {C : Addr} {b : Bool} (e : S[i]? = some (.val (.exc (.ref C)))) (ok : excOk K C = true) (hk : kitOne K (.ref C) c = some b) (h : Q (.d (.bl b)) S) : vIsiE K i c S Q := ⟨C, b, e, ok, hk, h⟩
end
end VL
namespace VL
open PySem L2 PySem.W
section
variable {K : PySem.W.Frag} {X : Cx} {m : Bool} {e : Expr} {te : TE} {va : VT} {pos pos' : Pos} {i : Nat} {x : Str}
end
end VL
namespace L2
open PySem PySem.Spec PyProof.Rows PySem.W
end L2
namespace VL
open PySem L2 PySem.W
end VL
namespace VL
open PySem L2 PySem.W
section
variable {K : PySem.W.Frag} {X : Cx} {a b : Expr} {ta tb : TE} {pos : Pos}
end
end VL
end
section
set_option maxHeartbeats 4000000
namespace L2
open PySem PySem.Spec PyProof.Rows PySem.W
section
variable {X : Cx}
end
section
variable {X : Cx}
end
end L2
namespace VL
open PySem L2 PySem.W
section
variable {X : Cx} {K : PySem.W.Frag} {m : Bool} {e : Expr} {te : TE} {va : VT} {pos : Pos}
end
section
variable {K : PySem.W.Frag} {X : Cx} {kx vx iter : Expr} {pos : Pos}
end
end VL
end
section
set_option maxHeartbeats 4000000
namespace L2
open PySem PySem.Spec PyProof.Rows PySem.W
section
variable {elt t1 i1 t2 i2 : Expr} {f1 f2 : List Expr} {scope : Scope} {pos : Pos}
end
section
variable {X : Cx}
end
end L2
namespace VL
open PySem L2 PySem.W
section
variable {K : PySem.W.Frag} {H H4 H0 : Hp} {Z : AP} {σ σ4 σ5 : St} {S S4 : List Sl}
end
section
variable {K : PySem.W.Frag} {X : Cx} {elt t1 i1 t2 i2 : Expr} {f1 f2 : List Expr} {scope : Scope} {pos : Pos}
end
end VL
end
section
set_option maxHeartbeats 4000000
namespace VL
open PySem L2 PySem.W
section
variable {va vb : VT} {vn : VTN} {S : List Sl} {Q : VR → List Sl → Prop} {i : Nat}
end
section
variable {α β : Type} {n : Nat} {ix : List Nat} {g g2 : VG} {vt vt2 : VTT} {vi vi2 : VTN} {ve vk vv : VT} {S : List Sl}
end
end VL
end
section
set_option maxHeartbeats 4000000
namespace L2
open PySem PySem.Spec PyProof.Rows PySem.W
section
variable {X : Cx}
end
end L2
namespace VL
open PySem L2 PySem.W
section
variable {K : PySem.W.Frag} {X : Cx} {a b : Expr} {ta tb : TE} {pos : Pos}
end
end VL
end
section
set_option maxHeartbeats 4000000
namespace Tim
open PySem PyProof.Rows
section
variable {prog : Program} {w : World} {A : Around} {E : Value → Shared → Prop} {s : Shared} {κ : SortKind} {O : KeyOrd} {key : Keyed → O.α} {P : Keyed → Prop}
end
end Tim
end
section
set_option maxHeartbeats 4000000
namespace Tim
open PySem PyProof.Rows
section
variable {α : Type} {le : α → α → Prop}
end
end Tim
end
section
set_option maxHeartbeats 4000000
namespace Tim
open PySem PyProof.Rows
section
variable {prog : Program} {w : World} {A : Around} {E : Value → Shared → Prop} {s : Shared} {κ : SortKind} {O : KeyOrd} {key : Keyed → O.α} {P : Keyed → Prop}
end
end Tim
end
section
set_option maxHeartbeats 4000000
namespace Tim
open PySem PyProof.Rows
section
variable {prog : Program} {w : World} {A : Around} {E : Value → Shared → Prop} {s : Shared} {κ : SortKind} {O : KeyOrd} {key : Keyed → O.α} {P : Keyed → Prop}
end
end Tim
end
section
set_option maxHeartbeats 4000000
namespace Tim
open PySem PyProof.Rows
section
variable {prog : Program} {w : World} {A : Around} {E : Value → Shared → Prop} {s : Shared} {κ : SortKind} {O : KeyOrd} {key : Keyed → O.α} {P : Keyed → Prop}
end
end Tim
end
section
set_option maxHeartbeats 4000000
namespace Tim
open PySem PyProof.Rows
section
variable {prog : Program} {w : World} {A : Around} {E : Value → Shared → Prop} {s : Shared} {κ : SortKind} {O : KeyOrd} {key : Keyed → O.α} {P : Keyed → Prop}
end
end Tim
end
section
set_option maxHeartbeats 4000000
namespace Tim
open PySem PyProof.Rows
section
variable {prog : Program} {w : World} {A : Around} {E : Value → Shared → Prop} {s : Shared} {κ : SortKind} {O : KeyOrd} {key : Keyed → O.α} {P : Keyed → Prop}
end
end Tim
end
section
set_option maxHeartbeats 4000000
namespace Tim
open PySem PyProof.Rows L2
section
variable {prog : Program} {w : World} {A : Around} {E : Value → Shared → Prop} {s : Shared} {κ : SortKind} {O : KeyOrd} {key : Keyed → O.α} {P : Keyed → Prop}
end
end Tim
namespace L2
open PySem PySem.Spec PyProof.Rows
end L2
end
section
set_option maxHeartbeats 4000000
namespace L2
open PySem PySem.Spec PyProof.Rows
section
variable {prog : Program} {w : World} {A : Around} {E : Value → Shared → Prop} {s : Shared}
end
end L2
end
section
set_option maxHeartbeats 4000000
namespace L2
open PySem PySem.Spec PyProof.Rows
section
variable {prog : Program} {w : World} {A : Around} {E : Value → Shared → Prop} {s : Shared}
end
section
variable {X : Cx}
end
end L2
namespace VL
open PySem L2
section
variable {K : PySem.W.Frag} {X : Cx} {e o : Expr} {te : TE} {va : VT} {pos apos tp : Pos}
end
end VL
end
section
set_option maxHeartbeats 4000000
namespace L2
open PySem PySem.Spec PyProof.Rows
section
variable {prog : Program} {w : World} {κ : Type} [DecidableEq κ] {knd : HeapKind prog w κ} {A : Around} {E : Value → Shared → Prop} {s : Shared}
end
section
variable {X : Cx}
end
end L2
end
section
set_option maxHeartbeats 4000000
namespace L2
open PySem PySem.Spec PyProof.Rows
section
variable {X : Cx} {k1 k2 k3 e1 e2 e3 ie : Expr} {t1 t2 t3 ti : TE} {n1 n2 n3 : Int} {j1 j2 j3 : Nat} {p1 p2 p3 dpos pos : Pos}
end
end L2
namespace VL
open PySem L2
section
variable {K : PySem.W.Frag} {X : Cx} {m : Bool} {e o ie e1 e2 e3 : Expr} {te ti t1 t2 t3 : TE} {va vi v1 v2 v3 : VT} {pos dpos p1 p2 p3 : Pos} {n1 n2 n3 : Int} {j1 j2 j3 : Nat} {S : List Sl} {Q : VR → List Sl → Prop}
end
end VL
end
section
set_option maxHeartbeats 4000000
namespace VL
open PySem L2
section
variable {K : PySem.W.Frag} {X : Cx} {m : Bool} {e : Expr} {es : List Expr} {tr : TA} {vr : VTA} {x : Str} {p0 p pos : Pos} {j k : Nat} {ps : List Str} {S : List Sl} {QN : List D → List Sl → Prop}
variable {va : VT}
end
end VL
end
section
set_option maxHeartbeats 4000000
namespace L2
open PySem PySem.Spec PyProof.Rows
section
variable {prog : Program} {w : World} {A : Around} {E : Value → Shared → Prop} {s : Shared}
end
section
variable {X : Cx}
end
end L2
namespace VL
open PySem L2
section
variable {K : PySem.W.Frag} {X : Cx} {e o tg : Expr} {te : TE} {va : VT} {S : List Sl} {QN : List D → List Sl → Prop}
end
end VL
end
section
set_option maxHeartbeats 4000000
namespace VL
open PySem L2
section
variable {K : PySem.W.Frag} {X : Cx} {stm : Stmt} {ts : TS} {t : VTS}
end
end VL
end
section
set_option maxHeartbeats 4000000
namespace L2
open PySem PySem.Spec PyProof.Rows
section
variable {X : Cx}
end
end L2
namespace VL
open PySem L2
section
variable {K : PySem.W.Frag} {X : Cx} {o ie : Expr} {ti : TE} {vi : VT} {pos posS pc : Pos} {n : Int} {j : Nat}
end
end VL
end
section
set_option maxHeartbeats 4000000
namespace L2
open PySem PySem.Spec PyProof.Rows PySem.W
section
variable {kx vx t1 i1 t2 i2 : Expr} {f1 f2 : List Expr} {scope : Scope} {pos : Pos}
end
section
variable {X : Cx}
end
end L2
end
section
set_option maxHeartbeats 4000000
namespace VL
open PySem L2 PySem.W
section
variable {K : PySem.W.Frag} {X : Cx} {kx vx t1 i1 t2 i2 : Expr} {f1 f2 : List Expr} {scope : Scope} {pos : Pos}
end
section
variable {α β : Type} {n : Nat} {ix : List Nat} {g g2 : VG} {vt vt2 : VTT} {vi vi2 : VTN} {vk vv : VT} {S : List Sl}
end
end VL
end
section
set_option maxHeartbeats 4000000
namespace L2
open PySem PySem.Spec PyProof.Rows PySem.W
section
variable {X : Cx}
end
end L2
namespace VL
open PySem L2 PySem.W
section
variable {K : PySem.W.Frag} {X : Cx} {kx vx t1 i1 t2 i2 : Expr} {f1 f2 : List Expr} {scope : Scope} {pos : Pos}
end
end VL
end
section
set_option maxHeartbeats 4000000
namespace L2
open PySem PySem.Spec PyProof.Rows PySem.W
section
variable {X : Cx}
end
end L2
namespace VL
open PySem L2
section
variable {K : PySem.W.Frag} {X : Cx} {e : Expr} {tr : TA} {vr : VTA} {S : List Sl} {QN : List D → List Sl → Prop} {p pos : Pos}
end
end VL
end
section
set_option maxHeartbeats 4000000
namespace L2
open PySem PySem.Spec PyProof.Rows
section
variable {prog : Program} {w : World} {A : Around} {E : Value → Shared → Prop} {s : Shared}
end
section
variable {X : Cx}
end
end L2
end
section
set_option maxHeartbeats 4000000
namespace VL
open PySem L2
section
variable {K : PySem.W.Frag} {X : Cx} {c o tg : Expr} {a : List Stmt} {tc : TT} {vt : VTT} {ta : TS} {i j : Nat} {pos apos cpos ipos : Pos} {S : List Sl}
end
end VL
end
section
set_option maxHeartbeats 4000000
namespace L2
open PySem PySem.Spec PyProof.Rows
section
variable {prog : Program} {w : World} {A : Around} {E : Value → Shared → Prop} {s : Shared}
end
section
variable {X : Cx}
end
end L2
namespace VL
open PySem L2
section
variable {K : PySem.W.Frag} {X : Cx}
end
end VL
end
section
set_option maxHeartbeats 4000000
namespace L2
open PySem PySem.Spec PyProof.Rows
section
variable {X : Cx}
end
end L2
namespace VL
open PySem L2
section
variable {K : PySem.W.Frag} {X : Cx} {m : Bool} {pos : Pos} {S : List Sl}
end
end VL
end
section
set_option maxHeartbeats 4000000
namespace VL
open PySem L2
section
variable {K : PySem.W.Frag} {X : Cx} {c e tg : Expr} {a : List Stmt} {tc : TT} {vt : VTT} {ta : TS} {wi : TI} {vi : VTN} {j : Nat} {pos ipos : Pos} {S : List Sl}
end
end VL
end
section
set_option maxHeartbeats 4000000
namespace VL
open PySem L2
section
variable {K : PySem.W.Frag} {N N' : AP} {F : FP} {H H' H0 : Hp} {Z P : AP} {σ σ' : St} {S S' : List Sl}
mutual
theorem Rep.mark {v : L2.V} {d : D} : Rep K N F H v d → Rep K N (fun o => F o ∧ ∀ a, o = some a → N a ∧ IsM (H a)) H v d
  | .int i => .int i
  | .bl i => .bl i
  | .non => .non
  | .str i => .str i
  | .ty i => .ty i
  | .tup n h r => .tup n h (Reps.mark r)
  | .tupK h r => .tupK h (Reps.mark r)
  | .lst n f h r => .lst n ⟨f, fun a e => by cases e; exact ⟨n, by rw [h]; trivial⟩⟩ h (Reps.mark r)
  | .lstF n f h r => .lstF n ⟨f, fun a e => nomatch e⟩ h (Reps.mark r)
  | .lstK f h r => .lstK ⟨f, fun a e => nomatch e⟩ h (Reps.mark r)
  | .dic n f h e rk r => .dic n ⟨f, fun a e => by cases e; exact ⟨n, by rw [h]; trivial⟩⟩ h e (Reps.mark rk) (Reps.mark r)
  | .exc n h e => .exc n h e
theorem Reps.mark {vs : List L2.V} {ds : List D} : Reps K N F H vs ds → Reps K N (fun o => F o ∧ ∀ a, o = some a → N a ∧ IsM (H a)) H vs ds
  | .nil => .nil
  | .cons h t => .cons (Rep.mark h) (Reps.mark t)
end
section
variable {σ1 : St} {S1 : List Sl} {H1 : Hp} {i : Nat} {nw : Prop} {v : L2.V} {d : D}
end
end
section
variable {K : PySem.W.Frag} {X : Cx} {i j : Nat} {nw : Prop} {e c o tg : Expr} {te : TE} {va : VT} {pos pos' ipos : Pos} {x : Str} {rest : List Stmt} {u : TS} {t : VTG} {w : VTS}
end
end VL
end
section
set_option maxHeartbeats 4000000
namespace L2
open PySem PySem.Spec PyProof.Rows PySem.W
section
variable {X : Cx}
end
end L2
namespace VL
open PySem L2 PySem.W
section
variable {K : PySem.W.Frag} {X : Cx} {a b : Expr} {ta tb : TE} {pos : Pos}
end
end VL
end
section
set_option maxHeartbeats 4000000
namespace L2
open PySem PySem.Spec PyProof.Rows
section
variable {X : Cx}
end
end L2
namespace VL
open PySem L2
section
variable {K : PySem.W.Frag} {X : Cx} {a : Expr} {tr : TA} {vr : VTA} {S : List Sl} {QN : List D → List Sl → Prop} {p pos tp : Pos}
end
end VL
end
section
set_option maxHeartbeats 4000000
namespace L2
open PySem PySem.Spec PyProof.Rows
end L2
namespace L2
open PySem PySem.Spec PyProof.Rows
end L2
namespace VL
open PySem L2
section
variable {K : PySem.W.Frag} {X : Cx} {m : Bool} {o ie e : Expr} {ti te ta : TE} {vi va : VT} {pos posS apos : Pos} {S : List Sl}
end
section
variable {β : Type} {S : List Sl} {g2 : VG} {vt2 : VTT} {ve : VT}
end
end VL
end
section
set_option maxHeartbeats 4000000
namespace L2
open PySem PySem.Spec PyProof.Rows
end L2
namespace VL
open PySem L2
section
variable {K : PySem.W.Frag} {X : Cx} {m : Bool} {o ie : Expr} {to ti : TE} {vo vi : VT} {pos : Pos} {S : List Sl} {Q : VR → List Sl → Prop}
end
end VL
namespace VL
open PySem L2
section
variable {K : PySem.W.Frag} {X : Cx} {m : Bool} {a b : Expr} {ta tb : TE} {va vb : VT} {pos : Pos} {S : List Sl} {Q : VR → List Sl → Prop}
end
end VL
end
section
set_option maxHeartbeats 4000000
namespace VL
open PySem L2
section
variable {P : Program} {w : World} {K : PySem.W.Frag} {mg : Str → Option Value} {base : Heap}
end
section
variable {K : PySem.W.Frag} {X : Cx} {m : Bool} {e : Expr} {es : List Expr} {tr : TA} {vr : VTA} {x : Str} {p0 pos : Pos} {j k : Nat} {ps : List Str} {S : List Sl} {Q : VR → List Sl → Prop}
end
end VL
end
section
set_option maxHeartbeats 4000000
namespace L2
open PySem PySem.Spec PyProof.Rows
end L2
namespace VL
open PySem L2
section
variable {K : PySem.W.Frag} {X : Cx} {i j : Nat} {nw : Prop} {e e2 tg : Expr} {te te2 : TE} {va va2 : VT} {pos : Pos} {rest : List Stmt} {u : TS} {w : VTS}
end
end VL
end
section
set_option maxHeartbeats 4000000
namespace ST
open PySem PySem.SetTable
def adv (mask : Nat) (p : Probe) : Probe :=
  if p.more > 0 then { p with j := p.j + 1, more := p.more - 1 } else
  { p with j := (leap mask p.i p.perturb).1, more := runEnd mask (leap mask p.i p.perturb).1 - (leap mask p.i p.perturb).1, i := (leap mask p.i p.perturb).1, perturb := (leap mask p.i p.perturb).2 }
def at0 (mask i pt : Nat) : Probe := { j := i, more := runEnd mask i - i, i, perturb := pt, dummy := none }
def pth (mask b : Nat) : Nat → Probe
  | 0 => at0 mask (b % (mask + 1)) b
  | s + 1 => adv mask (pth mask b s)
def lp (mask b : Nat) : Nat → Nat × Nat
  | 0 => (b % (mask + 1), b)
  | n + 1 => leap mask (lp mask b n).1 (lp mask b n).2
theorem start_eq (t : SetTable) (h : Int) : t.probeStart h = pth t.mask (bits h) 0 := rfl
theorem runEnd_le (mask i : Nat) : i ≤ runEnd mask i ∧ runEnd mask i ≤ i + 9 := by unfold runEnd; split <;> lia
theorem runEnd_top {mask i : Nat} (h : i ≤ mask) : runEnd mask i ≤ mask := by unfold runEnd; split <;> lia
theorem run_steps {mask b s i pt : Nat} (h : pth mask b s = at0 mask i pt) : ∀ k, k ≤ runEnd mask i - i → pth mask b (s + k) = { at0 mask i pt with j := i + k, more := runEnd mask i - i - k }
  | 0, _ => h
  | k + 1, hk => by
    have ih := run_steps h k (by lia)
    show adv mask (pth mask b (s + k)) = _
    rw [ih]
    unfold adv
    rw [if_pos (show runEnd mask i - i - k > 0 by lia)]
    simp only [at0, Probe.mk.injEq]
    exact ⟨by lia, by lia, trivial, trivial, trivial⟩
theorem leap_at {mask b s i pt : Nat} (h : pth mask b s = at0 mask i pt) : pth mask b (s + (runEnd mask i - i) + 1) = at0 mask (leap mask i pt).1 (leap mask i pt).2 := by
  have r := run_steps h _ (Nat.le_refl _)
  show adv mask (pth mask b (s + (runEnd mask i - i))) = _
  rw [r]
  unfold adv
  rw [if_neg (show ¬ runEnd mask i - i - (runEnd mask i - i) > 0 by lia)]
  rfl
theorem pth_lp (mask b : Nat) : ∀ L, ∃ s, s ≤ 10 * L ∧ pth mask b s = at0 mask (lp mask b L).1 (lp mask b L).2
  | 0 => ⟨0, Nat.le_refl _, rfl⟩
  | L + 1 => by
    obtain ⟨s, h1, h2⟩ := pth_lp mask b L
    have := runEnd_le mask (lp mask b L).1
    exact ⟨_, by lia, leap_at h2⟩
theorem lp_top (mask b : Nat) : ∀ L, (lp mask b L).1 ≤ mask
  | 0 => Nat.lt_succ_iff.mp (Nat.mod_lt _ (Nat.succ_pos _))
  | L + 1 => Nat.lt_succ_iff.mp (Nat.mod_lt _ (Nat.succ_pos _))
theorem lp_pt (mask b : Nat) : ∀ L, (lp mask b L).2 = b / 32 ^ L
  | 0 => by simp [lp]
  | L + 1 => by
    show (lp mask b L).2 / 32 = _
    rw [lp_pt mask b L, Nat.div_div_eq_div_mul, Nat.pow_succ]
theorem lp_pt0 {mask b L : Nat} (hb : b < 2 ^ 64) (hL : 13 ≤ L) : (lp mask b L).2 = 0 := by
  rw [lp_pt]
  refine Nat.div_eq_of_lt (Nat.lt_of_lt_of_le hb ?_)
  exact Nat.le_trans (show 2 ^ 64 ≤ 32 ^ 13 by decide) (Nat.pow_le_pow_right (by decide) hL)
def un : Nat → Nat → Nat
  | 0, x => x
  | n + 1, x => 5 * un n x + 1
theorem un_add (a x : Nat) : ∀ b, un (a + b) x = un b (un a x)
  | 0 => rfl
  | b + 1 => by show 5 * un (a + b) x + 1 = 5 * un b (un a x) + 1; rw [un_add a x b]
theorem un_pow : ∀ k, ∃ e c, e = 2 ^ k * (2 * c + 1) ∧ ∀ x, un (2 ^ k) x = (1 + 4 * e) * x + e
  | 0 => ⟨1, 0, rfl, fun x => by show 5 * x + 1 = _; lia⟩
  | k + 1 => by
    obtain ⟨e, c, h1, h2⟩ := un_pow k
    refine ⟨2 * e * (1 + 2 * e), c + e * (2 * c + 1), ?_, fun x => ?_⟩
    · rw [Nat.pow_succ]; subst h1; generalize 2 ^ k = m; grind
    · rw [Nat.pow_succ, show 2 ^ k * 2 = 2 ^ k + 2 ^ k by lia, un_add, h2, h2]
      grind
theorem cover : ∀ k x y, y < 2 ^ k → ∃ n, n < 2 ^ k ∧ un n x % 2 ^ k = y
  | 0, x, y, h => ⟨0, by decide, by simp at h ⊢; lia⟩
  | k + 1, x, y, h => by
    have pk : 0 < 2 ^ k := Nat.pow_pos (by decide)
    rw [Nat.pow_succ] at h ⊢
    obtain ⟨n, hn, e⟩ := cover k x (y % 2 ^ k) (Nat.mod_lt _ pk)
    obtain ⟨q, c, h1, h2⟩ := un_pow k
    generalize hz : un n x % (2 ^ k * 2) = z at *
    have zl : z < 2 ^ k * 2 := by rw [← hz]; exact Nat.mod_lt _ (by lia)
    have zm : z % 2 ^ k = y % 2 ^ k := by
      rw [← e, ← hz]
      exact Nat.mod_mul_right_mod _ _ _
    by_cases hy : z = y
    · exact ⟨n, by lia, by lia⟩
    · refine ⟨n + 2 ^ k, by lia, ?_⟩
      rw [un_add, h2]
      have s1 : (1 + 4 * q) * un n x + q = un n x + 2 ^ k + (2 ^ k * 2) * (c + 2 * (2 * c + 1) * un n x) := by
        rw [h1]
        generalize 2 ^ k = m
        generalize un n x = u
        grind
      rw [s1, Nat.add_mul_mod_self_left, Nat.add_mod, hz]
      have w1 : 2 ^ k % (2 ^ k * 2) = 2 ^ k := Nat.mod_eq_of_lt (by lia)
      rw [w1]
      have d1 := Nat.mod_add_div z (2 ^ k)
      have d2 := Nat.mod_add_div y (2 ^ k)
      have c1 : z / 2 ^ k < 2 := Nat.div_lt_of_lt_mul zl
      have c2 : y / 2 ^ k < 2 := Nat.div_lt_of_lt_mul h
      have two : ∀ a : Nat, a < 2 → a = 0 ∨ a = 1 := fun a h => by lia
      have c3 : z / 2 ^ k = 0 ∨ z / 2 ^ k = 1 := two _ c1
      have c4 : y / 2 ^ k = 0 ∨ y / 2 ^ k = 1 := two _ c2
      have ml : z % 2 ^ k < 2 ^ k := Nat.mod_lt _ pk
      rcases c3 with c3 | c3 <;> rcases c4 with c4 | c4 <;> rw [c3] at d1 <;> rw [c4] at d2
      · exact absurd (by lia) hy
      · rw [Nat.mod_eq_of_lt (show z + 2 ^ k < 2 ^ k * 2 by lia)]; lia
      · rw [show z + 2 ^ k = z % 2 ^ k + 2 ^ k * 2 by lia, Nat.add_mod_right, Nat.mod_eq_of_lt (show z % 2 ^ k < 2 ^ k * 2 by lia)]; lia
      · exact absurd (by lia) hy
theorem lp_un {mask b : Nat} (hb : b < 2 ^ 64) : ∀ n, (lp mask b (13 + n)).1 = un n (lp mask b 13).1 % (mask + 1)
  | 0 => (Nat.mod_eq_of_lt (Nat.lt_succ_iff.mpr (lp_top _ _ _))).symm
  | n + 1 => by
    show ((lp mask b (13 + n)).1 * 5 + 1 + (lp mask b (13 + n)).2 / 32) % (mask + 1) = (5 * un n (lp mask b 13).1 + 1) % (mask + 1)
    rw [lp_pt0 hb (by lia), lp_un hb n, Nat.zero_div, Nat.add_zero, Nat.add_mod, Nat.mul_mod, Nat.mod_mod, ← Nat.mul_mod, ← Nat.add_mod, Nat.mul_comm]
theorem lp_all {mask b k y : Nat} (hk : mask + 1 = 2 ^ k) (hb : b < 2 ^ 64) (hy : y ≤ mask) : ∃ L, L ≤ 13 + mask ∧ (lp mask b L).1 = y := by
  obtain ⟨n, hn, e⟩ := cover k (lp mask b 13).1 y (by lia)
  exact ⟨13 + n, by lia, by rw [lp_un hb, hk]; exact e⟩
theorem pth_all {mask b k y : Nat} (hk : mask + 1 = 2 ^ k) (hb : b < 2 ^ 64) (hy : y ≤ mask) : ∃ s, s ≤ 10 * (13 + mask) ∧ (pth mask b s).j = y := by
  obtain ⟨L, hL, e⟩ := lp_all hk hb hy
  obtain ⟨s, hs, e2⟩ := pth_lp mask b L
  exact ⟨s, by lia, by rw [e2]; exact e⟩
theorem bits_lt (h : Int) : bits h < 2 ^ 64 := by
  unfold bits
  have h1 := Int.emod_nonneg h (show (2 ^ 64 : Int) ≠ 0 by decide)
  have h2 := Int.emod_lt_of_pos h (show (0 : Int) < 2 ^ 64 by decide)
  lia
theorem pth_run (mask b : Nat) : ∀ s, ∃ i pt k, i ≤ mask ∧ k ≤ runEnd mask i - i ∧ pth mask b s = { at0 mask i pt with j := i + k, more := runEnd mask i - i - k }
  | 0 => ⟨_, b, 0, Nat.lt_succ_iff.mp (Nat.mod_lt b (Nat.succ_pos mask)), Nat.zero_le _, rfl⟩
  | s + 1 => by
    obtain ⟨i, pt, k, h1, h2, e⟩ := pth_run mask b s
    show ∃ _ _ _, _ ∧ _ ∧ adv mask (pth mask b s) = _
    rw [e]
    by_cases hm : runEnd mask i - i - k > 0
    · refine ⟨i, pt, k + 1, h1, by lia, ?_⟩
      unfold adv
      rw [if_pos (show runEnd mask i - i - k > 0 from hm)]
      simp only [at0, Probe.mk.injEq]
      exact ⟨by lia, by lia, trivial, trivial, trivial⟩
    · refine ⟨(leap mask i pt).1, (leap mask i pt).2, 0, Nat.lt_succ_iff.mp (Nat.mod_lt _ (Nat.succ_pos mask)), Nat.zero_le _, ?_⟩
      unfold adv
      rw [if_neg (show ¬ runEnd mask i - i - k > 0 from hm)]
      rfl
theorem pth_top (mask b s : Nat) : (pth mask b s).j ≤ mask := by
  obtain ⟨i, pt, k, h1, h2, e⟩ := pth_run mask b s
  rw [e]
  have := runEnd_top h1
  show i + k ≤ mask
  lia
theorem pth_dummy (mask b s : Nat) : (pth mask b s).dummy = none := by
  obtain ⟨i, pt, k, h1, h2, e⟩ := pth_run mask b s
  rw [e]; rfl
theorem below_go (xs : Array Nat) (j : Nat) (hr : xs.toList.Pairwise (· < ·)) : ∀ fuel lo hi, hi - lo ≤ fuel → lo ≤ hi → hi ≤ xs.size → (∀ i x, i < lo → xs[i]? = some x → x < j) → (∀ i x, hi ≤ i → xs[i]? = some x → j ≤ x) →
    below.go xs j fuel lo hi ≤ xs.size ∧ (∀ i x, i < below.go xs j fuel lo hi → xs[i]? = some x → x < j) ∧ ∀ i x, below.go xs j fuel lo hi ≤ i → xs[i]? = some x → j ≤ x
  | 0, lo, hi, h1, h2, h3, h4, h5 => by
    have e : lo = hi := by lia
    unfold below.go
    exact ⟨by lia, h4, by rw [e]; exact h5⟩
  | fuel + 1, lo, hi, h1, h2, h3, h4, h5 => by
    unfold below.go
    by_cases hl : lo < hi
    · rw [if_pos hl]
      have hm : (lo + hi) / 2 < xs.size := by lia
      have eg : xs.getD ((lo + hi) / 2) j = xs[(lo + hi) / 2] := by simp [Array.getD, hm]
      have up : ∀ i i' x x', i < i' → xs[i]? = some x → xs[i']? = some x' → x < x' := fun i i' x x' hi' e e' => by
        rw [List.pairwise_iff_getElem] at hr
        rw [Array.getElem?_eq_some_iff] at e e'
        obtain ⟨a1, a2⟩ := e
        obtain ⟨b1, b2⟩ := e'
        have := hr i i' (by simpa using a1) (by simpa using b1) hi'
        simp only [Array.getElem_toList] at this
        rw [a2, b2] at this
        exact this
      have em : xs[(lo + hi) / 2]? = some xs[(lo + hi) / 2] := Array.getElem?_eq_getElem hm
      by_cases hc : xs.getD ((lo + hi) / 2) j < j
      · rw [if_pos hc]
        rw [eg] at hc
        refine below_go xs j hr fuel ((lo + hi) / 2 + 1) hi (by lia) (by lia) h3 (fun i x hi' e => ?_) h5
        rcases Nat.lt_or_ge i ((lo + hi) / 2) with h | h
        · have := up _ _ _ _ h e em; lia
        · have : i = (lo + hi) / 2 := by lia
          subst this
          rw [em] at e; injection e with e; lia
      · rw [if_neg hc]
        rw [eg] at hc
        refine below_go xs j hr fuel lo ((lo + hi) / 2) (by lia) (by lia) (by lia) h4 (fun i x hi' e => ?_)
        rcases Nat.lt_or_ge ((lo + hi) / 2) i with h | h
        · have := up _ _ _ _ h em e; lia
        · have : i = (lo + hi) / 2 := by lia
          subst this
          rw [em] at e; injection e with e; lia
    · rw [if_neg hl]
      have el : lo = hi := by lia
      exact ⟨by lia, h4, by rw [el]; exact h5⟩
theorem below_spec {xs : Array Nat} (hr : xs.toList.Pairwise (· < ·)) (j : Nat) : below xs j ≤ xs.size ∧ (∀ i x, i < below xs j → xs[i]? = some x → x < j) ∧ ∀ i x, below xs j ≤ i → xs[i]? = some x → j ≤ x :=
  below_go xs j hr xs.size 0 xs.size (by lia) (Nat.zero_le _) (Nat.le_refl _) (fun i x h => absurd h (Nat.not_lt_zero _)) (fun i x h e => by rw [Array.getElem?_eq_none h] at e; cases e)
theorem below_at {xs : Array Nat} (hr : xs.toList.Pairwise (· < ·)) {i j : Nat} (e : xs[i]? = some j) : below xs j = i := by
  obtain ⟨h1, h2, h3⟩ := below_spec hr j
  rcases Nat.lt_trichotomy (below xs j) i with h | h | h
  · obtain ⟨hi, e'⟩ := Array.getElem?_eq_some_iff.mp e
    have hb : below xs j < xs.size := by lia
    have := h3 (below xs j) xs[below xs j] (Nat.le_refl _) (Array.getElem?_eq_getElem hb)
    rw [List.pairwise_iff_getElem] at hr
    have r := hr (below xs j) i (by simpa using hb) (by simpa using hi) h
    simp only [Array.getElem_toList] at r
    lia
  · exact h
  · have := h2 i j h e; lia
theorem below_next {xs : Array Nat} (hr : xs.toList.Pairwise (· < ·)) {i j : Nat} (e : xs[i]? = some j) : below xs (j + 1) = i + 1 := by
  obtain ⟨h1, h2, h3⟩ := below_spec hr (j + 1)
  obtain ⟨hi, e'⟩ := Array.getElem?_eq_some_iff.mp e
  rw [List.pairwise_iff_getElem] at hr
  rcases Nat.lt_trichotomy (below xs (j + 1)) (i + 1) with h | h | h
  · have := h3 i j (by lia) e; lia
  · exact h
  · have hb : i + 1 < xs.size := by lia
    have := h2 (i + 1) xs[i + 1] h (Array.getElem?_eq_getElem hb)
    have r := hr i (i + 1) (by simpa using hi) (by simpa using hb) (by lia)
    simp only [Array.getElem_toList] at r
    lia
theorem below_zero {xs : Array Nat} (hr : xs.toList.Pairwise (· < ·)) : below xs 0 = 0 := by
  obtain ⟨h1, h2, h3⟩ := below_spec hr 0
  rcases Nat.eq_zero_or_pos (below xs 0) with h | h
  · exact h
  · have hb : 0 < xs.size := by lia
    have := h2 0 xs[0] h (Array.getElem?_eq_getElem hb)
    lia
theorem slot_cases {t : SetTable} (hd : t.dummies = #[]) (j : Nat) : (t.slot j = .empty ∧ j ∉ t.place.toList ∨ ∃ i, t.slot j = .live i ∧ t.place[i]? = some j) ∨ (t.slot j = .empty ∧ t.place[below t.place j]? ≠ some j) := by
  unfold slot
  by_cases h : t.place[below t.place j]? = some j
  · exact .inl (.inr ⟨below t.place j, by simp [h], h⟩)
  · refine .inr ⟨?_, h⟩
    have hb : (t.place[below t.place j]? == some j) = false := by simpa using h
    simp only [hb, Bool.false_eq_true, if_false]
    rw [hd]
    rfl
theorem slot_two {t : SetTable} (hr : t.place.toList.Pairwise (· < ·)) (hd : t.dummies = #[]) (j : Nat) : (t.slot j = .empty ∧ j ∉ t.place.toList) ∨ ∃ i, t.slot j = .live i ∧ t.place[i]? = some j := by
  rcases slot_cases hd j with h | ⟨h1, h2⟩
  · exact h
  · refine .inl ⟨h1, fun hm => h2 ?_⟩
    obtain ⟨i, hi, e⟩ := List.mem_iff_getElem.mp hm
    have e2 : t.place[i]? = some j := by
      rw [Array.getElem?_eq_some_iff]
      exact ⟨by simpa using hi, by simpa using e⟩
    rw [below_at hr e2, e2]
theorem insertAt_list {α : Type} (xs : Array α) (p : Nat) (x : α) : (insertAt xs p x).toList = xs.toList.take p ++ x :: xs.toList.drop p := by
  unfold insertAt
  simp [Array.toList_extract, List.extract]
  try rw [List.take_of_length_le (by simp)]
theorem nodup_len {α : Type} [DecidableEq α] : ∀ {xs g : List α}, xs.Nodup → (∀ x ∈ xs, x ∈ g) → xs.length ≤ g.length
  | [], _, _, _ => Nat.zero_le _
  | x :: r, g, nd, h => by
    rw [List.nodup_cons] at nd
    have hx := h x List.mem_cons_self
    have := nodup_len (xs := r) (g := g.erase x) nd.2 fun y hy => (List.mem_erase_of_ne (show y ≠ x from fun e => nd.1 (by subst e; exact hy))).mpr (h y (List.mem_cons_of_mem _ hy))
    rw [List.length_erase_of_mem hx] at this
    have : 0 < g.length := List.length_pos_of_mem hx
    simp only [List.length_cons]; lia
theorem free_place {mask : Nat} {g : List Nat} (h : g.length ≤ mask) : ∃ y, y ≤ mask ∧ y ∉ g := by
  refine Classical.byContradiction fun hn => ?_
  have := nodup_len (xs := List.range (mask + 1)) (g := g) List.nodup_range fun x hx => Classical.byContradiction fun hx' => hn ⟨x, Nat.lt_succ_iff.mp (List.mem_range.mp hx), hx'⟩
  rw [List.length_range] at this
  lia
def Rc (mask : Nat) (g : List Nat) (j : Nat) (h : Int) : Prop := ∃ s, (pth mask (bits h) s).j = j ∧ ∀ v, v < s → (pth mask (bits h) v).j ∈ g
theorem Rc.more {mask : Nat} {g g' : List Nat} {j : Nat} {h : Int} (r : Rc mask g j h) (e : ∀ x ∈ g, x ∈ g') : Rc mask g' j h := let ⟨s, h1, h2⟩ := r; ⟨s, h1, fun v hv => e _ (h2 v hv)⟩
structure Tb (t : SetTable) (hs : List Int) : Prop where
  pow : ∃ k, t.mask + 1 = 2 ^ k
  nd : t.dummies = #[]
  len : t.place.toList.length = hs.length
  ris : t.place.toList.Pairwise (· < ·)
  top : ∀ j ∈ t.place.toList, j ≤ t.mask
  rch : ∀ q ∈ t.place.toList.zip hs, Rc t.mask t.place.toList q.1 q.2
theorem Tb.fresh (finger moves : Nat) (led : Bool) : Tb (fresh finger moves led) [] := by
  exact { pow := ⟨3, rfl⟩, nd := rfl, len := rfl, ris := List.Pairwise.nil, top := fun j h => absurd h List.not_mem_nil, rch := fun q h => absurd h List.not_mem_nil }
theorem probe_go {t : SetTable} {hs : List Int} (T : Tb t hs) {f : Nat → Int} {h : Int} : ∀ (d s fuel : Nat), (pth t.mask (bits h) (s + d)).j ∉ t.place.toList → d < fuel →
    ∃ u, s ≤ u ∧ u ≤ s + d ∧ (∀ v, s ≤ v → v < u → ∃ i, t.place[i]? = some (pth t.mask (bits h) v).j ∧ f i ≠ h) ∧
      ((pth t.mask (bits h) u).j ∉ t.place.toList ∧ probe.go t f h fuel (pth t.mask (bits h) s) = some (.empty (pth t.mask (bits h) u).j none) ∨
       ∃ i, t.place[i]? = some (pth t.mask (bits h) u).j ∧ f i = h ∧ u < s + d ∧ probe.go t f h fuel (pth t.mask (bits h) s) = some (.candidate (pth t.mask (bits h) u).j i (pth t.mask (bits h) (u + 1))))
  | d, s, 0, _, hf => absurd hf (Nat.not_lt_zero _)
  | d, s, fuel + 1, he, hf => by
    have go1 : probe.go t f h (fuel + 1) (pth t.mask (bits h) s) = match t.slot (pth t.mask (bits h) s).j with
      | .empty => some (.empty (pth t.mask (bits h) s).j (pth t.mask (bits h) s).dummy)
      | .dummy => probe.go t f h fuel (t.advance { pth t.mask (bits h) s with dummy := some (pth t.mask (bits h) s).j })
      | .live i => if f i == h then some (.candidate (pth t.mask (bits h) s).j i (t.advance (pth t.mask (bits h) s))) else probe.go t f h fuel (t.advance (pth t.mask (bits h) s)) := rfl
    rcases slot_two T.ris T.nd (pth t.mask (bits h) s).j with ⟨h1, h2⟩ | ⟨i, h1, h2⟩
    · refine ⟨s, Nat.le_refl _, by lia, fun v a b => absurd a (by lia), .inl ⟨h2, ?_⟩⟩
      rw [go1, h1, pth_dummy]
    · have hd : d ≠ 0 := fun z => by
        subst z
        refine he ?_
        rw [Nat.add_zero]
        obtain ⟨hi, e⟩ := Array.getElem?_eq_some_iff.mp h2
        exact List.mem_iff_getElem.mpr ⟨i, by simpa using hi, by simpa using e⟩
      by_cases hh : f i = h
      · refine ⟨s, Nat.le_refl _, by lia, fun v a b => absurd a (by lia), .inr ⟨i, h2, hh, by lia, ?_⟩⟩
        rw [go1, h1]
        simp only [hh, beq_self_eq_true, if_true]
        rfl
      · obtain ⟨u, u1, u2, u3, u4⟩ := probe_go T (f := f) (d - 1) (s + 1) fuel (by rw [show s + 1 + (d - 1) = s + d by lia]; exact he) (by lia)
        have g2 : probe.go t f h (fuel + 1) (pth t.mask (bits h) s) = probe.go t f h fuel (pth t.mask (bits h) (s + 1)) := by
          rw [go1, h1]
          have hb : (f i == h) = false := by simpa using hh
          simp only [hb, Bool.false_eq_true, if_false]
          rfl
        refine ⟨u, by lia, by lia, fun v a b => ?_, ?_⟩
        · rcases Nat.eq_or_lt_of_le a with e | e
          · subst e; exact ⟨i, h2, hh⟩
          · exact u3 v e b
        · rw [g2]
          rcases u4 with u4 | ⟨i', a1, a2, a3, a4⟩
          · exact .inl u4
          · exact .inr ⟨i', a1, a2, by lia, a4⟩
end ST
end
section
set_option maxHeartbeats 4000000
namespace ST
open PySem PySem.SetTable
theorem has_none (j : Nat) : has #[] j = false := rfl
theorem put_eq {t : SetTable} (hd : t.dummies = #[]) (y : Nat) : t.put y = ({ t with place := insertAt t.place (below t.place y) y }, below t.place y) := by
  unfold put
  rw [hd, has_none]
  simp only [Bool.false_eq_true, if_false]
  try rw [← hd]
theorem zip_ins {α β : Type} : ∀ (p : Nat) (xs : List α) (ys : List β) (a : α) (b : β), xs.length = ys.length → (xs.take p ++ a :: xs.drop p).zip (ys.take p ++ b :: ys.drop p) = (xs.zip ys).take p ++ (a, b) :: (xs.zip ys).drop p
  | 0, xs, ys, a, b, _ => rfl
  | p + 1, [], [], a, b, _ => rfl
  | p + 1, x :: xs, y :: ys, a, b, h => by
    simp only [List.take_succ_cons, List.drop_succ_cons, List.cons_append, List.zip_cons_cons]
    rw [zip_ins p xs ys a b (by simpa using h)]
  | p + 1, [], y :: ys, a, b, h => by simp at h
  | p + 1, x :: xs, [], a, b, h => by simp at h
theorem ris_ins {l : List Nat} {y p : Nat} (hr : l.Pairwise (· < ·)) (h1 : ∀ i x, i < p → l[i]? = some x → x < y) (h2 : ∀ i x, p ≤ i → l[i]? = some x → y < x) : (l.take p ++ y :: l.drop p).Pairwise (· < ·) := by
  have lo : ∀ a ∈ l.take p, a < y := fun a ha => by
    obtain ⟨i, hi, e⟩ := List.mem_iff_getElem.mp ha
    rw [List.getElem_take] at e
    have hi' : i < p ∧ i < l.length := by rw [List.length_take] at hi; lia
    exact h1 i a hi'.1 (List.getElem?_eq_some_iff.mpr ⟨hi'.2, e⟩)
  have up : ∀ a ∈ l.drop p, y < a := fun a ha => by
    obtain ⟨i, hi, e⟩ := List.mem_iff_getElem.mp ha
    rw [List.getElem_drop] at e
    have hi' : p + i < l.length := by rw [List.length_drop] at hi; lia
    exact h2 (p + i) a (by lia) (List.getElem?_eq_some_iff.mpr ⟨hi', e⟩)
  rw [List.pairwise_append, List.pairwise_cons]
  have sp : (l.take p ++ l.drop p).Pairwise (· < ·) := by rw [List.take_append_drop]; exact hr
  rw [List.pairwise_append] at sp
  refine ⟨sp.1, ⟨up, sp.2.1⟩, fun a ha b hb => ?_⟩
  rcases List.mem_cons.mp hb with rfl | hb
  · exact lo a ha
  · exact sp.2.2 a ha b hb
theorem mem_ins {α : Type} {l : List α} {p : Nat} {a b : α} : a ∈ l.take p ++ b :: l.drop p ↔ a = b ∨ a ∈ l := by
  conv => rhs; rw [← List.take_append_drop p l]
  simp only [List.mem_append, List.mem_cons]
  constructor
  · rintro (h | h | h)
    · exact .inr (.inl h)
    · exact .inl h
    · exact .inr (.inr h)
  · rintro (h | h | h)
    · exact .inr (.inl h)
    · exact .inl h
    · exact .inr (.inr h)
theorem len_ins {α : Type} {l : List α} {p : Nat} {b : α} : (l.take p ++ b :: l.drop p).length = l.length + 1 := by
  conv => rhs; rw [← List.take_append_drop p l]
  simp only [List.length_append, List.length_cons]; lia
theorem Tb.put {t : SetTable} {hs : List Int} (T : Tb t hs) {h : Int} {u : Nat} (hn : (pth t.mask (bits h) u).j ∉ t.place.toList) (hv : ∀ v, v < u → (pth t.mask (bits h) v).j ∈ t.place.toList) :
    Tb { t with place := insertAt t.place (below t.place (pth t.mask (bits h) u).j) (pth t.mask (bits h) u).j } (hs.take (below t.place (pth t.mask (bits h) u).j) ++ h :: hs.drop (below t.place (pth t.mask (bits h) u).j)) := by
  generalize hy : (pth t.mask (bits h) u).j = y at *
  obtain ⟨b1, b2, b3⟩ := below_spec T.ris y
  generalize below t.place y = p at *
  have e : (insertAt t.place p y).toList = t.place.toList.take p ++ y :: t.place.toList.drop p := insertAt_list _ _ _
  refine ⟨T.pow, T.nd, ?_, ?_, fun j hj => ?_, fun q hq => ?_⟩
  · show (insertAt t.place p y).toList.length = _
    rw [e, len_ins, len_ins, T.len]
  · show (insertAt t.place p y).toList.Pairwise _
    rw [e]
    refine ris_ins T.ris (fun i x hi ex => b2 i x hi (by simpa using ex)) (fun i x hi ex => ?_)
    have := b3 i x hi (by simpa using ex)
    rcases Nat.eq_or_lt_of_le this with e2 | e2
    · subst e2; exact absurd (List.mem_of_getElem? ex) hn
    · exact e2
  · have hj : j ∈ (insertAt t.place p y).toList := hj
    rw [e, mem_ins] at hj
    rcases hj with rfl | hj
    · show j ≤ t.mask
      rw [← hy]; exact pth_top _ _ _
    · exact T.top j hj
  · have hq : q ∈ (insertAt t.place p y).toList.zip (hs.take p ++ h :: hs.drop p) := hq
    show Rc t.mask (insertAt t.place p y).toList q.1 q.2
    rw [e] at hq ⊢
    rw [zip_ins _ _ _ _ _ T.len, mem_ins] at hq
    rcases hq with rfl | hq
    · exact ⟨u, hy, fun v hv' => mem_ins.mpr (.inr (hv v hv'))⟩
    · exact (T.rch q hq).more fun x hx => mem_ins.mpr (.inr hx)
structure Ow (mask : Nat) (hs : List Int) (ow : Array (Option Nat)) : Prop where
  size : ow.size = mask + 1
  ex : ∀ i : Nat, i < hs.length → ∃ j : Nat, ow[j]? = some (some i)
  un : ∀ (j j' i : Nat), ow[j]? = some (some i) → ow[j']? = some (some i) → j = j'
  at_ : ∀ (j i : Nat), ow[j]? = some (some i) → ∃ h, hs[i]? = some h ∧ ∃ s, (pth mask (bits h) s).j = j ∧ ∀ v, v < s → ∃ i', ow[(pth mask (bits h) v).j]? = some (some i')
theorem ow_none {mask : Nat} : Ow mask [] (Array.replicate (mask + 1) none) := by
  have no : ∀ (j i : Nat), ¬ (Array.replicate (mask + 1) (Option.none (α := Nat)))[j]? = some (some i) := fun j i e => by
    rw [Array.getElem?_replicate] at e
    split at e <;> simp at e
  exact ⟨by simp, fun i hi => absurd hi (Nat.not_lt_zero _), fun j j' i e => absurd e (no j i), fun j i e => absurd e (no j i)⟩
theorem ow_free {mask : Nat} {hs : List Int} {ow : Array (Option Nat)} (O : Ow mask hs ow) (hl : hs.length ≤ mask) : ∃ y, y ≤ mask ∧ ow[y]? = some none := by
  refine Classical.byContradiction fun hn => ?_
  have all : ∀ j, j < mask + 1 → ∃ i, ow[j]? = some (some i) := fun j hj => by
    have hj' : j < ow.size := by rw [O.size]; exact hj
    have e : ow[j]? = some ow[j] := Array.getElem?_eq_getElem hj'
    cases hc : ow[j] with
    | none => exact absurd ⟨j, by lia, by rw [e, hc]⟩ hn
    | some i => exact ⟨i, by rw [e, hc]⟩
  let g : Nat → Nat := fun j => match ow[j]? with | some (some i) => i | _ => 0
  have gi : ∀ j, j < mask + 1 → ow[j]? = some (some (g j)) := fun j hj => by
    obtain ⟨i, e⟩ := all j hj
    show ow[j]? = some (some (match ow[j]? with | some (some i) => i | _ => 0))
    rw [e]
  have nd : ((List.range (mask + 1)).map g).Nodup := by
    rw [List.Nodup, List.pairwise_map]
    refine List.Pairwise.imp_of_mem (R := (· < ·)) (fun {a b} ha hb hab e => ?_) List.pairwise_lt_range
    have := O.un a b (g a) (gi a (List.mem_range.mp ha)) (by rw [e]; exact gi b (List.mem_range.mp hb))
    lia
  have := nodup_len (g := List.range hs.length) nd fun x hx => by
    obtain ⟨j, hj, rfl⟩ := List.mem_map.mp hx
    obtain ⟨h, e, _⟩ := O.at_ j _ (gi j (List.mem_range.mp hj))
    exact List.mem_range.mpr (List.getElem?_eq_some_iff.mp e).1
  rw [List.length_map, List.length_range, List.length_range] at this
  lia
theorem free_go {mask b : Nat} {ow : Array (Option Nat)} (hsz : ow.size = mask + 1) : ∀ (d L fuel s : Nat), ow[(lp mask b (L + d)).1]? = some none → d < fuel → pth mask b s = at0 mask (lp mask b L).1 (lp mask b L).2 → (∀ v, v < s → ∃ i', ow[(pth mask b v).j]? = some (some i')) →
    ∃ u, layClean.free mask ow fuel (lp mask b L).1 (lp mask b L).2 = some (pth mask b u).j ∧ ow[(pth mask b u).j]? = some none ∧ ∀ v, v < u → ∃ i', ow[(pth mask b v).j]? = some (some i')
  | d, L, 0, s, _, hf, _, _ => absurd hf (Nat.not_lt_zero _)
  | d, L, fuel + 1, s, he, hf, hp, hv => by
    have top := lp_top mask b L
    have rt := runEnd_top top
    have rl := runEnd_le mask (lp mask b L).1
    have step := run_steps hp
    have stepj : ∀ k, k ≤ runEnd mask (lp mask b L).1 - (lp mask b L).1 → (pth mask b (s + k)).j = (lp mask b L).1 + k := fun k hk => by rw [step k hk]
    unfold layClean.free
    cases hfd : (List.range (runEnd mask (lp mask b L).1 + 1 - (lp mask b L).1)).find? fun k => (ow.getD ((lp mask b L).1 + k) (some 0)).isNone with
    | some k =>
      obtain ⟨a1, a2⟩ := List.find?_eq_some_iff_append.mp hfd
      obtain ⟨as, bs, e, a3⟩ := a2
      have hk : k < runEnd mask (lp mask b L).1 + 1 - (lp mask b L).1 := List.mem_range.mp (by rw [e]; simp)
      have hk' : (lp mask b L).1 + k < ow.size := by lia
      have eg : ow.getD ((lp mask b L).1 + k) (some 0) = ow[(lp mask b L).1 + k] := by simp [Array.getD, hk']
      refine ⟨s + k, by rw [stepj k (by lia)], ?_, fun v hv' => ?_⟩
      · rw [stepj k (by lia), Array.getElem?_eq_getElem hk']
        rw [eg] at a1
        cases hc : ow[(lp mask b L).1 + k] with
        | none => rfl
        | some z => rw [hc] at a1; cases a1
      · rcases Nat.lt_or_ge v s with h | h
        · exact hv v h
        · have hm : v - s ∈ as := by
            have r1 : v - s ∈ List.range (runEnd mask (lp mask b L).1 + 1 - (lp mask b L).1) := List.mem_range.mpr (by lia)
            have pw := List.pairwise_lt_range (n := runEnd mask (lp mask b L).1 + 1 - (lp mask b L).1)
            rw [e] at r1 pw
            rcases List.mem_append.mp r1 with h1 | h1
            · exact h1
            · rw [List.pairwise_append, List.pairwise_cons] at pw
              rcases List.mem_cons.mp h1 with h2 | h2
              · lia
              · have := pw.2.1.1 _ h2; lia
          have nn := a3 _ hm
          have hk2 : (lp mask b L).1 + (v - s) < ow.size := by lia
          have eg2 : ow.getD ((lp mask b L).1 + (v - s)) (some 0) = ow[(lp mask b L).1 + (v - s)] := by simp [Array.getD, hk2]
          rw [eg2] at nn
          have ej := stepj (v - s) (by lia)
          rw [show s + (v - s) = v by lia] at ej
          rw [ej, Array.getElem?_eq_getElem hk2]
          cases hc : ow[(lp mask b L).1 + (v - s)] with
          | none => rw [hc] at nn; simp at nn
          | some z => exact ⟨z, rfl⟩
    | none =>
      rw [List.find?_eq_none] at hfd
      have full : ∀ k, k ≤ runEnd mask (lp mask b L).1 - (lp mask b L).1 → ∃ i', ow[(lp mask b L).1 + k]? = some (some i') := fun k hk => by
        have nn := hfd k (List.mem_range.mpr (by lia))
        have hk2 : (lp mask b L).1 + k < ow.size := by lia
        have eg2 : ow.getD ((lp mask b L).1 + k) (some 0) = ow[(lp mask b L).1 + k] := by simp [Array.getD, hk2]
        rw [eg2] at nn
        rw [Array.getElem?_eq_getElem hk2]
        cases hc : ow[(lp mask b L).1 + k] with
        | none => rw [hc] at nn; simp at nn
        | some z => exact ⟨z, rfl⟩
      have hd : d ≠ 0 := fun z => by
        subst z
        obtain ⟨i', e⟩ := full 0 (Nat.zero_le _)
        rw [Nat.add_zero] at he e
        rw [he] at e; cases e
      obtain ⟨u, u1, u2, u3⟩ := free_go hsz (d - 1) (L + 1) fuel (s + (runEnd mask (lp mask b L).1 - (lp mask b L).1) + 1) (by rw [show L + 1 + (d - 1) = L + d by lia]; exact he) (by lia) (leap_at hp) (fun v hv' => by
        rcases Nat.lt_or_ge v s with h | h
        · exact hv v h
        · have ej := stepj (v - s) (by lia)
          rw [show s + (v - s) = v by lia] at ej
          rw [ej]
          exact full _ (by lia))
      exact ⟨u, u1, u2, u3⟩
theorem Ow.lay {mask k : Nat} (hk : mask + 1 = 2 ^ k) {hs : List Int} {ow : Array (Option Nat)} (O : Ow mask hs ow) (hl : hs.length < mask) (h : Int) :
    ∃ j, layClean.free mask ow (turns mask) (bits h % (mask + 1)) (bits h) = some j ∧ Ow mask (hs ++ [h]) (ow.setIfInBounds j (some hs.length)) := by
  obtain ⟨y, y1, y2⟩ := ow_free O (by lia)
  obtain ⟨L, L1, L2⟩ := lp_all (b := bits h) hk (bits_lt h) y1
  obtain ⟨u, u1, u2, u3⟩ := free_go (b := bits h) O.size L 0 (turns mask) 0 (by rw [Nat.zero_add, L2]; exact y2) (by unfold turns; lia) rfl (fun v hv => absurd hv (Nat.not_lt_zero _))
  refine ⟨_, u1, ?_⟩
  generalize hj : (pth mask (bits h) u).j = j at *
  have jl : j < ow.size := (Array.getElem?_eq_some_iff.mp u2).1
  have old : ∀ a i, ow[a]? = some (some i) → (ow.setIfInBounds j (some hs.length))[a]? = some (some i) := fun a i e => by
    rw [Array.getElem?_setIfInBounds]
    by_cases ea : j = a
    · subst ea; rw [u2] at e; cases e
    · rw [if_neg ea]; exact e
  have new : (ow.setIfInBounds j (some hs.length))[j]? = some (some hs.length) := by
    rw [Array.getElem?_setIfInBounds, if_pos rfl, if_pos jl]
  have inv : ∀ a i, (ow.setIfInBounds j (some hs.length))[a]? = some (some i) → (a = j ∧ i = hs.length) ∨ ow[a]? = some (some i) := fun a i e => by
    rw [Array.getElem?_setIfInBounds] at e
    by_cases ea : j = a
    · rw [if_pos ea, if_pos jl] at e
      injection e with e; injection e with e
      exact .inl ⟨ea.symm, e.symm⟩
    · rw [if_neg ea] at e; exact .inr e
  have lt : ∀ a i, ow[a]? = some (some i) → i < hs.length := fun a i e => by
    obtain ⟨g, e2, _⟩ := O.at_ a i e
    exact (List.getElem?_eq_some_iff.mp e2).1
  refine ⟨by simp [O.size], fun i hi => ?_, fun a a' i e e' => ?_, fun a i e => ?_⟩
  · rw [List.length_append, List.length_singleton] at hi
    rcases Nat.lt_or_ge i hs.length with h1 | h1
    · obtain ⟨a, ea⟩ := O.ex i h1
      exact ⟨a, old a i ea⟩
    · have : i = hs.length := by lia
      subst this
      exact ⟨j, new⟩
  · rcases inv a i e with ⟨r1, r2⟩ | r
    · rcases inv a' i e' with ⟨q1, q2⟩ | q
      · rw [r1, q1]
      · have := lt _ _ q; lia
    · rcases inv a' i e' with ⟨q1, q2⟩ | q
      · have := lt _ _ r; lia
      · exact O.un a a' i r q
  · rcases inv a i e with ⟨r1, r2⟩ | r
    · subst r1; subst r2
      refine ⟨h, by simp, u, hj, fun v hv => ?_⟩
      obtain ⟨i', e'⟩ := u3 v hv
      exact ⟨i', old _ _ e'⟩
    · obtain ⟨g, e2, s, s1, s2⟩ := O.at_ a i r
      refine ⟨g, by rw [List.getElem?_append_left (lt _ _ r)]; exact e2, s, s1, fun v hv => ?_⟩
      obtain ⟨i', e'⟩ := s2 v hv
      exact ⟨i', old _ _ e'⟩
def layF (mask : Nat) (acc : Option (Array (Option Nat) × Nat)) (h : Int) : Option (Array (Option Nat) × Nat) := do
  let (owner, k) ← acc
  let j ← layClean.free mask owner (turns mask) (bits h % (mask + 1)) (bits h)
  pure (owner.setIfInBounds j (some k), k + 1)
theorem lay_fold {mask k : Nat} (hk : mask + 1 = 2 ^ k) : ∀ (gs hs : List Int) (ow : Array (Option Nat)), Ow mask hs ow → hs.length + gs.length ≤ mask → ∃ ow', gs.foldl (layF mask) (some (ow, hs.length)) = some (ow', (hs ++ gs).length) ∧ Ow mask (hs ++ gs) ow'
  | [], hs, ow, O, _ => ⟨ow, by simp, by simpa using O⟩
  | h :: gs, hs, ow, O, hl => by
    rw [List.length_cons] at hl
    obtain ⟨j, e1, O1⟩ := O.lay hk (by lia) h
    obtain ⟨ow', e2, O2⟩ := lay_fold hk gs (hs ++ [h]) _ O1 (by rw [List.length_append, List.length_singleton]; lia)
    refine ⟨ow', ?_, by simpa using O2⟩
    rw [List.foldl_cons, show layF mask (some (ow, hs.length)) h = some (ow.setIfInBounds j (some hs.length), hs.length + 1) by
      show (layClean.free mask ow (turns mask) (bits h % (mask + 1)) (bits h)).bind _ = _
      rw [e1]; rfl]
    rw [List.length_append, List.length_singleton] at e2
    rw [e2]
    simp
theorem layClean_eq {mask k : Nat} (hk : mask + 1 = 2 ^ k) (hs : Array Int) (hl : hs.size ≤ mask) : ∃ ow, layClean mask hs = some ow ∧ Ow mask hs.toList ow := by
  obtain ⟨ow, e, O⟩ := lay_fold hk hs.toList [] _ ow_none (by simpa using hl)
  refine ⟨ow, ?_, by simpa using O⟩
  show (hs.foldl (layF mask) (some (Array.replicate (mask + 1) none, 0))).map (·.1) = _
  rw [← Array.foldl_toList, show (some (Array.replicate (mask + 1) (Option.none (α := Nat)), 0)) = some (Array.replicate (mask + 1) none, ([] : List Int).length) from rfl, e]
  rfl
theorem laid_eq {mask k : Nat} (hk : mask + 1 = 2 ^ k) (finger moves : Nat) (led plain : Bool) (hs : Array Int) (hl : hs.size ≤ mask) :
    ∃ t ord, laid mask finger moves led plain hs = some (t, ord) ∧ t.mask = mask ∧ t.led = led ∧ t.plain = plain ∧ t.moves = moves ∧ ord.toList.Perm (List.range hs.size) ∧ Tb t (ord.toList.map fun i => hs.getD i 0) := by
  obtain ⟨ow, e, O⟩ := layClean_eq hk hs hl
  let live := (List.range (mask + 1)).filterMap fun j => (ow.getD j none).map (j, ·)
  have mem : ∀ j i, (j, i) ∈ live ↔ ow[j]? = some (some i) := fun j i => by
    show (j, i) ∈ List.filterMap _ _ ↔ _
    rw [List.mem_filterMap]
    constructor
    · rintro ⟨a, ha, hm⟩
      cases hc : ow.getD a none with
      | none => rw [hc] at hm; cases hm
      | some z =>
        rw [hc] at hm
        simp only [Option.map_some, Option.some.injEq, Prod.mk.injEq] at hm
        obtain ⟨rfl, rfl⟩ := hm
        have ha' : a < ow.size := by rw [O.size]; exact List.mem_range.mp ha
        rw [Array.getElem?_eq_getElem ha']
        rw [show ow.getD a none = ow[a] by simp [Array.getD, ha']] at hc
        rw [hc]
    · intro h
      obtain ⟨hj, hv⟩ := Array.getElem?_eq_some_iff.mp h
      refine ⟨j, List.mem_range.mpr (by rw [← O.size]; exact hj), ?_⟩
      rw [show ow.getD j none = ow[j] by simp [Array.getD, hj], hv]
      rfl
  have pw : live.Pairwise (fun a b => a.1 < b.1) := by
    show List.Pairwise _ (List.filterMap _ _)
    rw [List.pairwise_filterMap]
    refine List.pairwise_lt_range.imp fun {a b} hab x hx y hy => ?_
    cases h1 : ow.getD a none with
    | none => rw [h1] at hx; cases hx
    | some z =>
      cases h2 : ow.getD b none with
      | none => rw [h2] at hy; cases hy
      | some z' =>
        rw [h1] at hx; rw [h2] at hy
        simp only [Option.map_some, Option.some.injEq] at hx hy
        rw [← hx, ← hy]; exact hab
  have pl : (live.map (·.1)).toArray.toList = live.map (·.1) := by simp
  have ol : (live.map (·.2)).toArray.toList = live.map (·.2) := by simp
  refine ⟨{ mask, place := (live.map (·.1)).toArray, dummies := #[], finger, led, moves, plain }, (live.map (·.2)).toArray, ?_, rfl, rfl, rfl, rfl, ?_, ⟨⟨k, hk⟩, rfl, ?_, ?_, fun j hj => ?_, fun q hq => ?_⟩⟩
  · show (layClean mask hs).bind _ = _
    rw [e]; rfl
  · rw [ol]
    refine (List.perm_ext_iff_of_nodup ?_ List.nodup_range).mpr fun i => ?_
    · rw [List.Nodup, List.pairwise_map]
      refine List.Pairwise.imp_of_mem (fun {a b} ha hb hab e => ?_) pw
      have := O.un a.1 b.1 a.2 ((mem _ _).mp ha) (by rw [e]; exact (mem _ _).mp hb)
      lia
    · rw [List.mem_map, List.mem_range]
      constructor
      · rintro ⟨⟨j, i'⟩, hm, rfl⟩
        obtain ⟨g, e2, _⟩ := O.at_ j i' ((mem _ _).mp hm)
        have := (List.getElem?_eq_some_iff.mp e2).1
        simpa using this
      · intro hi
        obtain ⟨j, ej⟩ := O.ex i (by simpa using hi)
        exact ⟨(j, i), (mem _ _).mpr ej, rfl⟩
  · show (live.map (·.1)).toArray.toList.length = ((live.map (·.2)).toArray.toList.map _).length
    rw [pl, ol]; simp
  · show (live.map (·.1)).toArray.toList.Pairwise _
    rw [pl, List.pairwise_map]; exact pw
  · have hj : j ∈ (live.map (·.1)).toArray.toList := hj
    rw [pl] at hj
    obtain ⟨⟨j', i⟩, hm, rfl⟩ := List.mem_map.mp hj
    have := (Array.getElem?_eq_some_iff.mp ((mem _ _).mp hm)).1
    rw [O.size] at this
    show j' ≤ mask
    lia
  · have hq : q ∈ (live.map (·.1)).toArray.toList.zip ((live.map (·.2)).toArray.toList.map fun i => hs.getD i 0) := hq
    show Rc mask (live.map (·.1)).toArray.toList q.1 q.2
    rw [pl, ol, List.map_map, List.zip_map', List.mem_map] at hq
    rw [pl]
    obtain ⟨⟨j, i⟩, hm, rfl⟩ := hq
    obtain ⟨g, e2, s, s1, s2⟩ := O.at_ j i ((mem _ _).mp hm)
    have eg : hs.getD i 0 = g := by
      obtain ⟨hi, ei⟩ := List.getElem?_eq_some_iff.mp e2
      have hi' : i < hs.size := by simpa using hi
      simp only [Array.getD, hi', dif_pos]
      simpa using ei
    show Rc mask _ j (hs.getD i 0)
    rw [eg]
    refine ⟨s, s1, fun v hv => ?_⟩
    obtain ⟨i', e'⟩ := s2 v hv
    exact List.mem_map.mpr ⟨(_, i'), (mem _ _).mpr e', rfl⟩
end ST
end
section
set_option maxHeartbeats 4000000
namespace ST
open PySem PySem.Spec PySem.SetTable
section
variable {prog : Program} {w : World} {K : Type} [DecidableEq K] {knd : HeapKind prog w K} {A : Around} {E : Value → Shared → Prop} {s : Shared}
structure SetW (led : Bool) (h : Heap) (a : Addr) (o : Obj) (es : Array (Int × Value)) (ep : Nat) (t : SetTable) : Prop where
  ob : h.get? a = some o
  ex : o.ExactSet
  da : o.data = .set es ep t
  tb : Tb t (es.toList.map (·.1))
  few : es.size * 5 < t.mask * 3
  pl : t.plain = true
  ld : t.led = led
variable {led : Bool} {h : Heap} {a : Addr} {o : Obj} {es : Array (Int × Value)} {ep : Nat} {t : SetTable} {xs : List (K × Addr)}
theorem SetW.psize (S : SetW led h a o es ep t) : t.place.size = es.size := by
  have := S.tb.len
  rw [List.length_map] at this
  simpa using this
theorem SetW.fits (S : SetW led h a o es ep t) : t.fits es.size = true := by
  have h1 := S.psize
  have h2 := S.few
  unfold SetTable.fits SetTable.fill
  rw [S.tb.nd]
  simp only [Bool.and_eq_true, beq_iff_eq, decide_eq_true_eq, Array.size_empty]
  lia
theorem pl_mem {pl : Array Nat} {i j : Nat} (e : pl[i]? = some j) : j ∈ pl.toList := by
  rw [← Array.getElem?_toList] at e
  exact List.mem_of_getElem? e
end
end ST
end
section
set_option maxHeartbeats 4000000
namespace ST
open PySem PySem.Spec PySem.SetTable
section
variable {prog : Program} {w : World} {K : Type} [DecidableEq K] {knd : HeapKind prog w K} {A : Around} {E : Value → Shared → Prop} {s : Shared} {led : Bool} {h : Heap} {a : Addr} {o : Obj} {es : Array (Int × Value)} {ep : Nat} {t : SetTable} {xs : List (K × Addr)}
theorem probe_at {t : SetTable} {hs : List Int} (T : Tb t hs) (f : Nat → Int) (h : Int) {d s : Nat} (he : (pth t.mask (bits h) (s + d)).j ∉ t.place.toList) (hf : d < 10 * turns t.mask) :
    ∃ u, s ≤ u ∧ u ≤ s + d ∧ (∀ v, s ≤ v → v < u → ∃ i, t.place[i]? = some (pth t.mask (bits h) v).j ∧ f i ≠ h) ∧
      ((pth t.mask (bits h) u).j ∉ t.place.toList ∧ t.probe f h (pth t.mask (bits h) s) = some (.empty (pth t.mask (bits h) u).j none) ∨
       ∃ i, t.place[i]? = some (pth t.mask (bits h) u).j ∧ f i = h ∧ u < s + d ∧ t.probe f h (pth t.mask (bits h) s) = some (.candidate (pth t.mask (bits h) u).j i (pth t.mask (bits h) (u + 1)))) :=
  probe_go T d s (10 * turns t.mask) he hf
end
end ST
end
section
set_option maxHeartbeats 4000000
namespace ST
open PySem PySem.Spec PySem.SetTable
theorem above_go (n : Nat) : ∀ (fuel size : Nat), (∃ k, size = 2 ^ k) → n < size * 2 ^ fuel → (∃ k, sizeAbove.go n fuel size = 2 ^ k) ∧ n < sizeAbove.go n fuel size ∧ (sizeAbove.go n fuel size = size ∨ sizeAbove.go n fuel size ≤ 2 * n)
  | 0, size, hk, h => by
    unfold sizeAbove.go
    exact ⟨hk, by simpa using h, .inl rfl⟩
  | fuel + 1, size, hk, h => by
    unfold sizeAbove.go
    by_cases hs : size ≤ n
    · rw [if_pos hs]
      obtain ⟨k, hk⟩ := hk
      obtain ⟨a1, a2, a3⟩ := above_go n fuel (size * 2) ⟨k + 1, by rw [hk, Nat.pow_succ]⟩ (by rw [Nat.pow_succ] at h; rw [Nat.mul_assoc, Nat.mul_comm 2]; exact h)
      exact ⟨a1, a2, .inr (by lia)⟩
    · rw [if_neg hs]
      exact ⟨hk, by lia, .inl rfl⟩
theorem above_spec {n : Nat} (h : n < 2 ^ 60) : (∃ k, sizeAbove n = 2 ^ k) ∧ n < sizeAbove n ∧ (sizeAbove n = 8 ∨ sizeAbove n ≤ 2 * n) :=
  above_go n 64 8 ⟨3, rfl⟩ (Nat.lt_of_lt_of_le h (by decide))
section
variable {prog : Program} {w : World} {K : Type} [DecidableEq K] {knd : HeapKind prog w K} {A : Around} {E : Value → Shared → Prop} {s : Shared} {led : Bool} {h : Heap} {a : Addr} {o : Obj} {es : Array (Int × Value)} {ep : Nat} {t : SetTable} {xs : List (K × Addr)}
theorem stored {h : Heap} {a : Addr} {o : Obj} {es es' : Array (Int × Value)} {ep : Nat} {t t' : SetTable} (ho : h.get? a = some o) (hd : o.data = .set es ep t) : (h.update a (Obj.putSet es' t')).get? a = some { o with data := .set es' (ep + 1) t' } := by
  have := Heap.get?_update_self (Obj.putSet es' t') ho (by rw [putSet_of es' t' hd]; rfl)
  rw [putSet_of es' t' hd] at this; exact this
theorem filterMap_ord {α : Type} (xs : List α) : ∀ (l : List Nat), (∀ i ∈ l, i < xs.length) → ∀ {β : Type} (f : α → β), ((l.filterMap (xs[·]?)).map f) = l.filterMap ((xs.map f)[·]?)
  | [], _, _, f => rfl
  | i :: l, h, β, f => by
    have hi := h i List.mem_cons_self
    rw [List.filterMap_cons, List.filterMap_cons]
    rw [List.getElem?_eq_getElem hi, List.getElem?_map, List.getElem?_eq_getElem hi]
    simp only [Option.map_some, List.map_cons]
    rw [filterMap_ord xs l (fun i hi => h i (List.mem_cons_of_mem _ hi)) f]
theorem ord_len {α : Type} (xs : List α) : ∀ (l : List Nat), (∀ i ∈ l, i < xs.length) → (l.filterMap (xs[·]?)).length = l.length
  | [], _ => rfl
  | i :: l, h => by
    have hi := h i List.mem_cons_self
    rw [List.filterMap_cons, List.getElem?_eq_getElem hi]
    simp only [List.length_cons]
    rw [ord_len xs l fun i hi => h i (List.mem_cons_of_mem _ hi)]
theorem ord_hash (hs : List Int) : ∀ (l : List Nat), (∀ i ∈ l, i < hs.length) → l.filterMap (hs[·]?) = l.map fun i => hs.toArray.getD i 0
  | [], _ => rfl
  | i :: l, h => by
    have hi := h i List.mem_cons_self
    rw [List.filterMap_cons, List.getElem?_eq_getElem hi, List.map_cons, ord_hash hs l fun i hi => h i (List.mem_cons_of_mem _ hi)]
    simp [Array.getD, hi]
theorem ord_id {α : Type} (xs : List α) : (List.range xs.length).filterMap (xs[·]?) = xs := by
  refine List.ext_getElem? fun i => ?_
  rw [show (List.range xs.length).filterMap (xs[·]?) = xs from ?_]
  induction xs with
  | nil => rfl
  | cons x xs ih =>
    rw [List.length_cons, List.range_succ_eq_map, List.filterMap_cons]
    simp only [List.getElem?_cons_zero, List.filterMap_map]
    congr 1
theorem ord_perm {α : Type} {xs : List α} {l : List Nat} (h : l.Perm (List.range xs.length)) : (l.filterMap (xs[·]?)).Perm xs := by
  have := h.filterMap (xs[·]?)
  rwa [ord_id] at this
end
end ST
end
section
set_option maxHeartbeats 4000000
namespace ST
open PySem PySem.Spec PySem.SetTable
section
variable {prog : Program} {w : World} {K : Type} [DecidableEq K] {knd : HeapKind prog w K} {A : Around} {E : Value → Shared → Prop} {s : Shared} {led : Bool} {h : Heap} {a : Addr} {o : Obj} {es : Array (Int × Value)} {ep : Nat} {t : SetTable} {xs : List (K × Addr)}
end
end ST
end
section
set_option maxHeartbeats 4000000
namespace ST
open PySem PySem.Spec PySem.SetTable PyProof.Rows
section
variable {prog : Program} {w : World}
theorem int_byv (n : Nat) {A : Around} {E : Value → Shared → Prop} {s : Shared} {i : Int} {tk : Tok} {Q : Bool → Shared → Prop} (q : Q true s) : wpAny (model prog w) A (hashByValue n (.int i tk)) Q E s := by
  cases n <;> exact wpAny_pure q
end
section
variable {prog : Program} {w : World} {K : Type} [DecidableEq K] {knd : HeapKind prog w K} {A : Around} {R : Result → Shared → Prop} {I a : Addr} {fp wr : List Addr} {G : Array GenState → Array GenState → Prop} {n : Nat} {P : Nat → Value → Prop} {St : Nat → Shared → Prop} {led : Bool}
end
end ST
end
section
set_option maxHeartbeats 4000000
namespace ST
open PySem PySem.Spec PySem.SetTable PyProof.Rows L2
def ledOf (w : World) : Bool := !(w.params.followText "set-order")
section
variable {prog : Program} {w : World} {A : Around} {E : Value → Shared → Prop} {s : Shared}
def noSet (led : Bool) : Obj := { cls := .type "set", dict := none, data := .set #[] 0 (.fresh 0 0 led) }
theorem set_made (v : Value) {Q1 : Value → Shared → Prop} (h : Q1 (.ref s.heap.objs.size) { s with heap := s.heap.push (noSet (ledOf w)) }) :
    codeAny (model prog w) A (.call (.builtin "set.__new__") ⟨[.type "set", v], []⟩) (wants Q1 E) s := by
  apply codeAny_of_tree
  change wpAny _ _ (checkBuiltinCall "set.__new__" ⟨[.type "set", v], []⟩ >>= fun _ => again (.builtin "set.__new__" ⟨[.type "set", v], []⟩)) _ _ _
  apply wpAny_bind
  rw [F.newCall_set_1]
  apply wpAny_pure
  apply wpAny_pure
  constructor
  · exact plainId_quiet F.plain_set_new _
  apply codeAny_builtin F.entry_set_new
  rw [Around.under_plainId F.plain_set_new]
  have self := sub_set_self
  simp only [Builtin.«set.__new__», Builtin.Frozenset.newClass]
  obtain ⟨hp, g, d, tk, os⟩ := s
  wp_walk
  apply wpAny_askSetting
  apply wpAny_pure
  simp only [newObj]
  exact wpAny_bind (wpAny_alloc (wpAny_pure (wpAny_pure h)))
end
section
variable {prog : Program} {w : World} {K : Type} [DecidableEq K] {knd : HeapKind prog w K} {A : Around} {E : Value → Shared → Prop} {s : Shared}
end
end ST
end
section
set_option maxHeartbeats 4000000
namespace ST
open PySem PySem.Spec PySem.SetTable PyProof.Rows L2
theorem sit_look : typeLookup (.type "set_iterator") "__next__" = pure (some (.builtin "set_iterator.__next__")) := by
  rw [typeLookup_type, builtinLookup_eq_fast]
  kernel_rfl
theorem sit_slot : Slot "set_iterator" "__next__" "set_iterator.__next__" := by
  refine Slot.of (owner := "set_iterator") (n := "__next__") sit_look ?_ ?_ ?_ ?_ ?_
  · decide +kernel
  · decide +kernel
  · decide +kernel
  · first
      | (left; decide +kernel)
      | (right; decide +kernel)
  · rw [isSubtype_type]
    kernel_rfl
theorem sit_entry : entryFor table "set_iterator.__next__" = some Builtin.«set_iterator.__next__» := by
  apply entryFor_of_tree
  kernel_rfl
theorem sit_args (a : Value) : argsOk "set_iterator.__next__" ⟨[a], []⟩ := by
  unfold argsOk
  have o : Manifest.owners.lookup (String.ofList "rotareti_tes".toList.reverse) = some Manifest.sig_set_iterator := by kernel_rfl
  rw [signature?_of (id := "set_iterator.__next__") (n := "__txen__".toList) (by kernel_rfl) o]
  kernel_rfl
theorem iter_entry : entryFor table "set.__iter__" = some Builtin.«frozenset.__iter__» := by
  refine entryFor_alias (id' := "frozenset.__iter__") ?_ rfl ?_ ?_
  · kernel_rfl
  · decide +kernel
  · kernel_rfl
theorem pick_go {α : Type} (next : Nat → Nat) : ∀ (fuel k : Nat) (left : List α) (out : Array α), left.length ≤ fuel → (pickOrder.go next fuel k left out).toList.Perm (out.toList ++ left)
  | 0, k, left, out, h => by
    have : left = [] := List.eq_nil_of_length_eq_zero (by lia)
    subst this
    unfold pickOrder.go
    simp
  | fuel + 1, k, left, out, h => by
    unfold pickOrder.go
    by_cases hl : left = []
    · subst hl; simp
    · have hp : 0 < left.length := List.length_pos_iff.mpr hl
      have lt := Nat.mod_lt (next k) hp
      rw [List.getElem?_eq_getElem lt]
      dsimp only
      refine (pick_go next fuel (k + 1) _ _ (by rw [List.length_eraseIdx_of_lt lt]; lia)).trans ?_
      rw [Array.toList_push, List.append_assoc]
      refine List.Perm.append_left _ ?_
      rw [List.singleton_append]
      rw [List.eraseIdx_eq_take_drop_succ]
      conv => rhs; rw [← List.take_append_drop (next k % left.length) left, List.drop_eq_getElem_cons lt]
      exact List.perm_middle.symm
theorem pick_perm {α : Type} (next : Nat → Nat) (xs : Array α) : (pickOrder next xs).toList.Perm xs.toList := by
  unfold pickOrder
  have := pick_go next xs.size 0 xs.toList #[] (by simp)
  simpa using this
def ordr (w : World) (a ep : Nat) (es : Array (Int × Value)) : Array (Int × Value) := if w.params.followText "set-order" then pickOrder (w.params.setOrder a ep) es else es
theorem ordr_perm (w : World) (a ep : Nat) (es : Array (Int × Value)) : (ordr w a ep es).toList.Perm es.toList := by
  unfold ordr
  split
  · exact pick_perm _ _
  · exact List.Perm.refl _
section
variable {prog : Program} {w : World} {K : Type} [DecidableEq K] {knd : HeapKind prog w K} {A : Around} {E : Value → Shared → Prop} {s : Shared} {a it : Addr} {o : Obj} {es : Array (Int × Value)} {ep : Nat} {t : SetTable} {xs : List (K × Addr)}
def slotOf (w : World) (t : SetTable) (i : Nat) : Nat := if w.params.followText "set-order" then 0 else match i with
  | 0 => 0
  | i + 1 => t.place.getD i 0 + 1
theorem set_next (S : SetW (ledOf w) s.heap a o es ep t) {i : Nat} {Q : Option (Value × Nat) → Shared → Prop} (hi : i ≤ es.size) (h : Q (((ordr w a ep es)[i]?).map fun e => (e.2, slotOf w t (i + 1))) s) : wpAny (model prog w) A (setNext a (slotOf w t i) i ep) Q E s := by
  have fits := S.fits
  unfold setNext
  refine wpAny_bind (wpAny_setState_of S.ob S.da fits ?_)
  dsimp only
  unfold setsByText
  refine wpAny_bind (wpAny_bind (wpAny_askSetting (wpAny_pure ?_)))
  dsimp only
  by_cases hb : w.params.followText "set-order" = true
  · have hb' : (model prog w).w.params.followText "set-order" = true := hb
    rw [if_pos hb']
    have e1 : ordr w a ep es = pickOrder (w.params.setOrder a ep) es := by unfold ordr; rw [if_pos hb]
    rw [e1] at h
    simp only [bne_self_eq_false, Bool.false_eq_true, if_false]
    refine wpAny_bind ?_
    unfold setWalk
    refine wpAny_bind (wpAny_setState_of S.ob S.da fits ?_)
    dsimp only
    unfold setsByText
    refine wpAny_bind (wpAny_bind (wpAny_askSetting (wpAny_pure ?_)))
    dsimp only
    rw [if_pos hb']
    refine wpAny_bind (wpAny_askSetting (wpAny_pure (wpAny_pure ?_)))
    dsimp only
    have e2 : slotOf w t (i + 1) = slotOf w t i := by unfold slotOf; rw [if_pos hb, if_pos hb]
    rw [e2] at h
    exact h
  · have hb' : ¬ (model prog w).w.params.followText "set-order" = true := hb
    rw [if_neg hb']
    have e1 : ordr w a ep es = es := by unfold ordr; rw [if_neg hb]
    rw [e1] at h
    have hled : t.led = true := by rw [S.ld]; unfold ledOf; simp only [Bool.not_eq_true] at hb; rw [hb]; rfl
    have hpl := S.pl
    have bel : below t.place (slotOf w t i) = i := by
      unfold slotOf
      rw [if_neg hb]
      cases i with
      | zero => exact below_zero S.tb.ris
      | succ i =>
        have hp : i < t.place.size := by rw [S.psize]; lia
        dsimp only
        rw [show t.place.getD i 0 = t.place[i] by simp [Array.getD, hp]]
        exact below_next S.tb.ris (Array.getElem?_eq_getElem hp)
    have fin : wpAny (model prog w) A (do
        let i' := below t.place (slotOf w t i)
        return match es[i']?, t.place[i']? with
          | some (_, x), some j => some (x, j + 1)
          | _, _ => none) Q E s := by
      dsimp only
      rw [bel]
      refine wpAny_pure ?_
      rcases Nat.lt_or_ge i es.size with lt | ge
      · have hp : i < t.place.size := by rw [S.psize]; exact lt
        rw [Array.getElem?_eq_getElem lt, Array.getElem?_eq_getElem hp]
        rw [Array.getElem?_eq_getElem lt] at h
        have e3 : slotOf w t (i + 1) = t.place[i] + 1 := by unfold slotOf; rw [if_neg hb]; simp [Array.getD, hp]
        rw [e3] at h
        exact h
      · rw [Array.getElem?_eq_none ge]
        rw [Array.getElem?_eq_none ge] at h
        exact h
    refine wpAny_ite_split (fun hab => absurd hab ?_) (fun _ => ?_)
    · show ¬ (!t.plain && decide (es.size > 1)) = true
      rw [hpl]; simp
    · refine wpAny_bind ?_
      show wpAny _ _ (if (!t.led && !es.isEmpty) = true then unsupported "set:maker-not-led" else pure ()) _ _ _
      rw [hled]
      exact wpAny_pure fin
end
end ST
end
section
set_option maxHeartbeats 4000000
namespace ST
open PySem PySem.Spec PySem.SetTable PyProof.Rows L2
section
variable {prog : Program} {w : World} {K : Type} [DecidableEq K] {knd : HeapKind prog w K} {A : Around} {E : Value → Shared → Prop} {s : Shared} {a it : Addr} {o : Obj} {es : Array (Int × Value)} {ep : Nat} {t : SetTable} {xs : List (K × Addr)} {h0 : Heap}
def SIt (w : World) (h : Heap) (it a : Addr) (t : SetTable) (i n ep : Nat) : Prop := h.get? it = some { cls := .type "set_iterator", data := .fields #[.int (slotOf w t i : Nat) 0, .int (i : Nat) 0, .ref a, .int n 0, .int ep 0] }
theorem si_next (S : SetW (ledOf w) s.heap a o es ep t) {i : Nat} (hit : SIt w s.heap it a t i es.size ep) {Q : Option Value → Shared → Prop} (hi : i < es.size)
    (hQ : ∀ h' e, SIt w h' it a t (i + 1) es.size ep → (ordr w a ep es)[i]? = some e → (∀ b u, b ≠ it → s.heap.get? b = some u → h'.get? b = some u) → Q (some e.2) { s with heap := h' }) : wpAny (model prog w) A (pyNext (.ref it)) Q E s := by
  have ty : s.TypeIs (.ref it) "set_iterator" := ⟨_, hit, rfl⟩
  have osz : (ordr w a ep es).size = es.size := by rw [← Array.length_toList, (ordr_perm w a ep es).length_eq, Array.length_toList]
  have hoi : i < (ordr w a ep es).size := by lia
  unfold pyNext
  refine wpAny_bind (wpAny_attempt (wpAny_callSpecial?_slot (name := Str.ofString "__next__") ty sit_slot (wpAny_call_entry sit_slot ty sit_entry ?_ (sit_args _))))
  refine wpAny_bind (wpAny_pure (wpAny_bind (wpAny_fieldsOf hit rfl ?_)))
  dsimp only
  unfold setEntries
  refine wpAny_bind (wpAny_bind (wpAny_setState_of S.ob S.da S.fits (wpAny_pure ?_)))
  dsimp only
  simp only [bne_self_eq_false, Bool.false_eq_true, if_false]
  refine wpAny_bind ?_
  rw [Int.toNat_natCast, Int.toNat_natCast, Int.toNat_natCast]
  refine set_next S (by lia) ?_
  rw [Array.getElem?_eq_getElem hoi]
  dsimp only [Option.map]
  refine wpAny_bind (wpAny_setField_rec hit (k := 0) (by simp) fun h1 e1 b1 => ?_)
  refine wpAny_bind (wpAny_setField_rec e1 (k := 1) (by simp) fun h2 e2 b2 => ?_)
  have z : ((i + 1 : Nat) : Int) = (i : Int) + 1 := by lia
  have e3 : SIt w h2 it a t (i + 1) es.size ep := by unfold SIt; rw [z]; exact e2
  exact wpAny_pure ⟨_, rfl, wpAny_pure (hQ h2 _ e3 (Array.getElem?_eq_getElem hoi) fun c u hn q => (b2.2 c hn).trans ((b1.2 c hn).trans q))⟩
theorem si_end (S : SetW (ledOf w) s.heap a o es ep t) (hh : A.handled = none) (hit : SIt w s.heap it a t es.size es.size ep) {Q : Option Value → Shared → Prop}
    (hQ : ∀ h', Heap.ExtBut it s.heap h' → Q none { s with heap := h' }) : wpAny (model prog w) A (pyNext (.ref it)) Q E s := by
  have ty : s.TypeIs (.ref it) "set_iterator" := ⟨_, hit, rfl⟩
  have osz : (ordr w a ep es).size = es.size := by rw [← Array.length_toList, (ordr_perm w a ep es).length_eq, Array.length_toList]
  unfold pyNext
  refine wpAny_bind (wpAny_attempt (wpAny_callSpecial?_slot (name := Str.ofString "__next__") ty sit_slot (wpAny_call_entry sit_slot ty sit_entry ?_ (sit_args _))))
  refine wpAny_bind (wpAny_pure (wpAny_bind (wpAny_fieldsOf hit rfl ?_)))
  dsimp only
  unfold setEntries
  refine wpAny_bind (wpAny_bind (wpAny_setState_of S.ob S.da S.fits (wpAny_pure ?_)))
  dsimp only
  simp only [bne_self_eq_false, Bool.false_eq_true, if_false]
  refine wpAny_bind ?_
  rw [Int.toNat_natCast, Int.toNat_natCast, Int.toNat_natCast]
  refine set_next S (Nat.le_refl _) ?_
  rw [Array.getElem?_eq_none (by lia)]
  dsimp only [Option.map]
  refine wpAny_bind (wpAny_setField hit rfl (by simp) ?_)
  unfold newExc newTuple
  refine wpAny_bind (wpAny_bind (wpAny_newObj_type (wpAny_bind (m := firstArgMember _ _) (wpAny_of_eq (a := Value.none) (by first | rfl | (simp only [firstArgMember]; rfl)) (wpAny_newObj_type (wpAny_raiseNew_none (show A.in1.handled = none from hh) ?_) (by size_fits))))))
  refine wpAny_bind (wpAny_isInstance (b := true) (T := "StopIteration") ⟨_, Heap.get?_push_size _ rfl, rfl⟩ isSubtype_stop (wpAny_pure (hQ _ ?_)))
  intro b u hn e
  exact Heap.get?_push_of_some _ (Heap.get?_push_of_some _ (((Heap.SameBut.update ..).2 b hn).trans e))
theorem si_iter (S : SetW (ledOf w) s.heap a o es ep t) {Q : Value → Shared → Prop}
    (h : Q (.ref s.heap.objs.size) { s with heap := s.heap.push { cls := .type "set_iterator", data := .fields #[.int 0 0, .int 0 0, .ref a, .int es.size 0, .int ep 0] } }) : wpAny (model prog w) A (pyIter (.ref a)) Q E s := by
  have ty : s.TypeIs (.ref a) "set" := ⟨_, S.ob, S.ex.1⟩
  refine wpAny_pyIter_slot ty F.slot_set_iter (wpAny_call_entry F.slot_set_iter ty iter_entry ?_ (F.args_set_iter_1 _))
  have hpl := S.pl
  unfold Builtin.«frozenset.__iter__» Builtin.Frozenset.slot0
  refine wpAny_bind (wpAny_bind (wpAny_pure (wpAny_pure ?_)))
  unfold Builtin.Frozenset.sizeOf setEntries
  refine wpAny_bind (wpAny_bind (wpAny_bind (wpAny_setState_of S.ob S.da S.fits (wpAny_pure (wpAny_pure ?_)))))
  unfold setDrawn
  refine wpAny_bind (wpAny_bind (wpAny_setState_of S.ob S.da S.fits ?_))
  unfold setsByText
  refine wpAny_bind (wpAny_bind (wpAny_askSetting (wpAny_pure ?_)))
  refine wpAny_pure ?_
  dsimp only
  refine wpAny_ite_split (fun hab => absurd hab ?_) (fun _ => ?_)
  · show ¬ (!(model prog w).w.params.followText "set-order" && (!t.plain && decide (es.size > 1))) = true
    rw [hpl]; simp
  · refine wpAny_bind (wpAny_pure ?_)
    refine wpAny_bind (wpAny_setEpoch_of S.ob S.da S.fits ?_)
    refine wpAny_bind (wpAny_newObj_type (wpAny_pure ⟨_, rfl, "set_iterator", _, ⟨_, Heap.get?_push_size _ rfl, rfl⟩, sit_look, ?_⟩))
    simpa [rawInt] using h
theorem sit_slotI : Slot "set_iterator" "__iter__" "set_iterator.__iter__" := by
  refine Slot.of (owner := "set_iterator") (n := "__iter__") ?_ ?_ ?_ ?_ ?_ ?_
  · rw [typeLookup_type, builtinLookup_eq_fast]
    kernel_rfl
  · decide +kernel
  · decide +kernel
  · decide +kernel
  · first
      | (left; decide +kernel)
      | (right; decide +kernel)
  · rw [isSubtype_type]
    kernel_rfl
theorem sit_entryI : entryFor table "set_iterator.__iter__" = some Builtin.«dict_keyiterator.__iter__» := by
  refine entryFor_alias (id' := "dict_keyiterator.__iter__") ?_ rfl ?_ ?_
  · kernel_rfl
  · decide +kernel
  · kernel_rfl
theorem sit_argsI (a : Value) : argsOk "set_iterator.__iter__" ⟨[a], []⟩ := by
  unfold argsOk
  have o : Manifest.owners.lookup (String.ofList "rotareti_tes".toList.reverse) = some Manifest.sig_set_iterator := by kernel_rfl
  rw [signature?_of (id := "set_iterator.__iter__") (n := "__reti__".toList) (by kernel_rfl) o]
  kernel_rfl
theorem si_walks (hh : A.handled = none) (I : Addr) (hne : a ≠ I) (S0 : SetW (ledOf w) h0 a o es ep t) :
    Walks prog w A I [I, a] [I] es.size (fun i v => ∃ e, (ordr w a ep es)[i]? = some e ∧ v = e.2) (fun i h => SIt w h I a t i es.size ep ∧ h.get? a = some o) where
  sub := fun b hb => by simp at hb; simp [hb]
  frame := fun i h h' st hk => ⟨hk I (by simp) _ st.1, hk a (by simp) _ st.2⟩
  item := fun i s Q E hi st hQ => by
    have S : SetW (ledOf w) s.heap a o es ep t := ⟨st.2, S0.ex, S0.da, S0.tb, S0.few, S0.pl, S0.ld⟩
    refine si_next S st.1 hi fun h' e e1 e2 e3 => ?_
    exact hQ _ h' s.toks ⟨e, e2, rfl⟩ ⟨e1, e3 a o hne st.2⟩ fun b u hb q => e3 b u (fun z => hb (by simp [z])) q
  done := fun s Q E st hQ => by
    have S : SetW (ledOf w) s.heap a o es ep t := ⟨st.2, S0.ex, S0.da, S0.tb, S0.few, S0.pl, S0.ld⟩
    exact si_end S hh st.1 fun h' eb => hQ h' s.toks fun b u hb q => eb b u (fun z => hb (by simp [z])) q
  self := fun i s Q E st hq => by
    have ty : s.TypeIs (.ref I) "set_iterator" := ⟨_, st.1, rfl⟩
    refine wpAny_pyIter_slot ty sit_slotI (wpAny_call_entry sit_slotI ty sit_entryI ?_ (sit_argsI _))
    exact wpAny_pure ⟨_, rfl, "set_iterator", _, ty, sit_look, hq⟩
theorem si_src (S0 : SetW (ledOf w) h0 a o es ep t) : PySem.W.KdlSrc prog w "set" a a es.size (fun i v => ∃ e, (ordr w a ep es)[i]? = some e ∧ v = e.2) (fun h => h.get? a = some o) where
  type := fun s e => ⟨_, e, S0.ex.1⟩
  there := fun h e => ⟨Heap.lt_size e, Heap.lt_size e⟩
  keep := fun h h' e k => k a (.inl rfl) _ e
  notList := rfl
  notTuple := rfl
  hint := fun A E s Q e q => by
    have hT : s.TypeIs (.ref a) "set" := ⟨_, e, S0.ex.1⟩
    unfold Builtin.List.listLengthHint
    refine wpAny_bind (wpAny_specialOf hT F.slot_set_len.lookup ?_)
    generalize hid : ("set.__len__" : String) = id0
    wp_delta
    rw [show splitId id0 = some ("set", "__len__") from by subst hid; decide +kernel]
    subst hid
    refine wpAny_bind (wpAny_isInstance (T := "set") (b := true) hT sub_set_self ?_)
    refine wpAny_ite_split (fun z => absurd z (by decide)) fun _ => ?_
    refine wpAny_ite_split (fun _ => wpAny_bind (wpAny_typeOf hT (wpAny_pure q))) fun z => absurd (by decide +kernel) z
  iter := fun A s hh e => by
    have S : SetW (ledOf w) s.heap a o es ep t := ⟨e, S0.ex, S0.da, S0.tb, S0.few, S0.pl, S0.ld⟩
    have lt := Heap.lt_size e
    refine ⟨{ cls := .type "set_iterator", data := .fields #[.int 0 0, .int 0 0, .ref a, .int es.size 0, .int ep 0] }, _, fun E Q q => si_iter S ?_, si_walks hh s.heap.objs.size (Nat.ne_of_lt lt) S0, ?_⟩
    · exact q
    · have e0 : slotOf w t 0 = 0 := by unfold slotOf; split <;> rfl
      refine ⟨?_, Heap.get?_push_of_some _ e⟩
      unfold SIt
      rw [e0]
      exact Heap.get?_push_size _ rfl
end
end ST
end
section
set_option maxHeartbeats 4000000
namespace L2
open PySem PySem.Spec PyProof.Rows ST
end L2
end
section
set_option maxHeartbeats 4000000
namespace VL
open PySem L2 ST
section
variable {K : PySem.W.Frag} {X : Cx} {m : Bool} {e : Expr} {tr : TA} {vr : VTA} {pos p1 p2 pos2 : Pos} {S : List Sl} {Q : VR → List Sl → Prop} {QN : List D → List Sl → Prop}
end
end VL
end
section
set_option maxHeartbeats 4000000
namespace L2
open PySem PySem.Spec PyProof.Rows
end L2
namespace VL
open PySem L2
section
variable {K : PySem.W.Frag} {X : Cx} {m : Bool} {e : Expr} {te : TE} {va : VT} {pos p2 : Pos} {S : List Sl} {Q : VR → List Sl → Prop} {vl vh : VO}
end
end VL
end
section
set_option maxHeartbeats 4000000
namespace ST
open PySem PySem.Spec PySem.SetTable PyProof.Rows L2
def ksI (es : Array (Int × Value)) : List Int := es.toList.map fun e => numOf e.2
section
variable {prog : Program} {w : World} {A : Around} {E : Value → Shared → Prop} {s : Shared} {led : Bool} {a : Addr} {o : Obj} {es : Array (Int × Value)} {ep : Nat} {t : SetTable}
theorem elem_num {l : List (Int × Value)} (hel : ElemsOf (intKind prog w) l) {n : Int} : (∃ e ∈ l, (intKind prog w).is n e.2 = true) ↔ n ∈ l.map fun e => numOf e.2 := by
  rw [List.mem_map]
  constructor
  · rintro ⟨e, he, h⟩
    obtain ⟨tk, q⟩ := Value.isInt_shape (show Value.isInt n e.2 = true from h)
    exact ⟨e, he, by rw [q]; rfl⟩
  · rintro ⟨e, he, h⟩
    obtain ⟨⟨k, hk, _⟩, _⟩ := hel e he
    obtain ⟨tk, q⟩ := Value.isInt_shape (show Value.isInt k e.2 = true from hk)
    refine ⟨e, he, ?_⟩
    rw [q] at h ⊢
    have : k = n := h
    subst this
    exact intKind_is _ _ _ _
end
end ST
end
section
set_option maxHeartbeats 4000000
namespace ST
open PySem PySem.Spec PySem.SetTable PyProof.Rows L2
section
variable {prog : Program} {w : World} {A : Around} {R : Result → Shared → Prop} {I a : Addr} {fp wr : List Addr} {G : Array GenState → Array GenState → Prop} {n : Nat} {P : Nat → Value → Prop} {St : Nat → Shared → Prop} {led : Bool}
end
section
variable {prog : Program} {w : World} {A : Around} {E : Value → Shared → Prop} {s : Shared}
end
end ST
namespace L2
open PySem PySem.Spec PyProof.Rows ST
theorem ints_of : ∀ {vs : List Value}, (∀ v ∈ vs, ∃ n tk, v = .int n tk) → IntsAre vs (vs.map numOf)
  | [], _ => .nil
  | v :: vs, h => by
    obtain ⟨n, tk, rfl⟩ := h v List.mem_cons_self
    exact .cons n tk (ints_of fun u hu => h u (List.mem_cons_of_mem _ hu))
end L2
namespace VL
open PySem L2 ST
section
variable {K : PySem.W.Frag} {X : Cx} {m : Bool} {e : Expr} {tr : TA} {vr : VTA} {pos p1 p2 pos2 : Pos} {S : List Sl} {QN : List D → List Sl → Prop}
end
end VL
end
section
set_option maxHeartbeats 4000000
namespace ST
open PySem PySem.Spec PySem.SetTable PyProof.Rows L2
section
variable {prog : Program} {w : World} {K : Type} [DecidableEq K] {knd : HeapKind prog w K} {A : Around} {E : Value → Shared → Prop} {s : Shared}
end
end ST
namespace L2
open PySem PySem.Spec PyProof.Rows ST
end L2
namespace VL
open PySem L2 ST
section
variable {K : PySem.W.Frag} {X : Cx} {m : Bool} {e : Expr} {tr : TA} {vr : VTA} {pos p1 p2 pos2 : Pos} {S : List Sl} {Q : VR → List Sl → Prop} {QN : List D → List Sl → Prop}
end
end VL
end
section
set_option maxHeartbeats 4000000
namespace L2
open PySem PySem.Spec PyProof.Rows PySem.W
section
variable {X : Cx}
end
section
variable {X : Cx} {k1 k2 e1 e2 : Expr} {a1 a2 t1 t2 : TE} {pos : Pos}
end
end L2
namespace L2
open PySem PySem.Spec PyProof.Rows PySem.W
section
variable {X : Cx} {i : Nat} {CB : Addr} {cb en : Str} {b0 : Stmt} {suite body : List Stmt} {h0 : ExceptHandler} {th ts us : TS} {st : Stmt} {np hp tp : Pos}
theorem ps_tryN (hb : PSs X body ts) (hxe : ∀ e s, ¬X.xe e s) : PS X (.Try body [h0] [] [] tp) ts := by
  intro pins s σ H D I h
  refine wpAny_Try_except (wpAny_mono (hb pins s σ H D I h) (fun f s1 q => ?_) fun e s z => (hxe e s z).elim)
  cases f with
  | next => obtain ⟨σ', H', I', q'⟩ := q; exact pss_nil pins s1 σ' H' D I' q'
  | brk => exact q
  | cont => exact q
  | ret u => exact q
theorem ps_alt (h1 : PS X st ts) (h2 : PS X st us) : PS X st (fun D σ H => ts D σ H ∨ us D σ H) := fun pins s σ H D I h => h.elim (h1 pins s σ H D I) (h2 pins s σ H D I)
def Hands (X : Cx) (Hin : Hp) (E : XK) : Prop := ∀ pins σ H s e s', Inv X pins σ H s → CX1 X.prog X.w X.stack H s (fun c _ H' => (∀ b, Hin b ≠ none → H' b = Hin b) ∧ E c none H') e s' → X.xe e s'
end
end L2
end
section
set_option maxHeartbeats 4000000
namespace L2
open PySem PySem.Spec PyProof.Rows PySem.W
end L2
namespace VL
open PySem L2 PySem.W
section
variable {K : PySem.W.Frag} {X : Cx} {m : Bool} {pos : Pos}
end
section
variable {K : PySem.W.Frag} {X : Cx} {ts us : TS} {t u : VTS} {st : Stmt} {body : List Stmt} {h0 : ExceptHandler} {tp : Pos}
theorem vs_tryN (h : VSs K X body ts t) (hxe : ∀ e s, ¬X.xe e s) : VS K X (.Try body [h0] [] [] tp) ts t := ⟨ps_tryN h.ps hxe, h.snd⟩
def vAltS (t u : VTS) : VTS := fun V S => t V S ∨ u V S
theorem vs_alt (h1 : VS K X st ts t) (h2 : VS K X st us u) : VS K X st (fun D σ H => ts D σ H ∨ us D σ H) (vAltS t u) :=
  ⟨ps_alt h1.ps h2.ps, fun H0 Z σ H S V E k zq l => zq.elim (fun z => .inl (h1.snd H0 Z σ H S V E k z l)) fun z => .inr (h2.snd H0 Z σ H S V E k z l)⟩
end
section
variable {K : PySem.W.Frag} {X : Cx} {Hin : Hp} {E : XK} {A B : List Stmt} {ts us : TS} {t u : (Addr → Prop) → List Sl → Prop} {pos : Pos}
end
section
variable {K : PySem.W.Frag} {X : Cx} {i : Nat} {CB : Addr} {cb en : Str} {b0 : Stmt} {suite body : List Stmt} {th : TS} {vh : VTS} {t : (Addr → Prop) → List Sl → Prop} {np hp tp : Pos}
end
section
variable {K : PySem.W.Frag} {X : Cx} {i : Nat} {nw : Prop} {e oi : Expr} {te : TE} {va : VT} {pos : Pos} {rest : List Stmt} {u : TS} {w : VTS}
end
section
variable {S : List Sl} {Q : VR → List Sl → Prop}
end
end VL
end
section
set_option maxHeartbeats 4000000
namespace L2
open PySem PySem.Spec PyProof.Rows
section
variable {X : Cx}
end
end L2
namespace VL
open PySem L2
section
variable {K : PySem.W.Frag} {X : Cx} {a b : Expr} {tr : TA} {vr : VTA} {S : List Sl} {QN : List D → List Sl → Prop} {p pos tp : Pos}
end
end VL
end
section
set_option maxHeartbeats 4000000
namespace L2
open PySem PySem.Spec PyProof.Rows
section
variable {prog : Program} {w : World} {A : Around} {E : Value → Shared → Prop} {s : Shared}
end
end L2
end
section
set_option maxHeartbeats 4000000
namespace L2
open PySem PySem.Spec PyProof.Rows VL
section
variable {X : Cx} {K : PySem.W.Frag}
end
end L2
end
section
set_option maxHeartbeats 4000000
namespace L2
open PySem
end L2
namespace VL
open PySem L2
section
variable {K : PySem.W.Frag} {X : Cx} {m : Bool} {pos p : Pos} {e : Expr} {tr : TA} {vr : VTA} {S : List Sl} {Q : List (List Int × D) → List Sl → Prop}
end
end VL
end
section
set_option maxHeartbeats 4000000
namespace VL
open PySem L2
section
variable {K : PySem.W.Frag} {X : Cx} {m : Bool} {pos p : Pos} {a b : Expr} {ta tb : TE} {va vb : VT} {S : List Sl} {Q : VR → List Sl → Prop}
def wAddS : D → D → (D → Prop) → Prop := fun d1 d2 q => ∃ i j : Str, d1 = .str i ∧ d2 = .str j ∧ i.length + j.length ≤ sizeLine ∧ q (.str (i ++ j))
theorem l_addS : Lift2 K (fun x y H Q => ∃ i j, x = .str i ∧ y = .str j ∧ i.length + j.length ≤ sizeLine ∧ Q (.str (i ++ j)) H) wAddS := by
  rintro x y H d1 d2 q Cc r1 r2 ⟨i, j, rfl, rfl, hz, h⟩ hc
  cases r1; cases r2
  exact ⟨i, j, rfl, rfl, hz, hc _ _ h fun _ _ => .str _⟩
def inS (i j : Str) : Bool := !(Builtin.Str.occurrences j i 0 j.length 1).isEmpty
def wInS (neg : Bool) : D → D → (D → Prop) → Prop := fun d1 d2 q => ∃ i j : Str, d1 = .str i ∧ d2 = .str j ∧ q (.bl (if neg then !inS i j else inS i j))
theorem l_inS : Lift2 K (fun x y H Q => ∃ i j, x = .str i ∧ y = .str j ∧ Q (.bl (!(Builtin.Str.occurrences j i 0 j.length 1).isEmpty)) H) (wInS false) := by
  rintro x y H d1 d2 q Cc r1 r2 ⟨i, j, rfl, rfl, h⟩ hc
  cases r1; cases r2
  exact ⟨i, j, rfl, rfl, hc _ _ h fun _ _ => .bl _⟩
theorem l_notInS : Lift2 K (fun x y H Q => ∃ i j, x = .str i ∧ y = .str j ∧ Q (.bl (!(!(Builtin.Str.occurrences j i 0 j.length 1).isEmpty))) H) (wInS true) := by
  rintro x y H d1 d2 q Cc r1 r2 ⟨i, j, rfl, rfl, h⟩ hc
  cases r1; cases r2
  exact ⟨i, j, rfl, rfl, hc _ _ h fun _ _ => .bl _⟩
def wLenS : List D → (D → Prop) → Prop := fun ds q => ∃ z : Str, ds = [.str z] ∧ z.length ≤ sizeLine ∧ q (.int z.length)
theorem l_lenS : LiftC K (fun xs H Q => ∃ z, xs = [.str z] ∧ z.length ≤ sizeLine ∧ Q (.int z.length) H) wLenS := by
  rintro xs H ds q C r ⟨z, rfl, hz, h⟩ hc
  obtain ⟨v, rfl, rv⟩ := rep1 r
  cases rv
  exact ⟨z, rfl, hz, hc _ _ h fun _ _ => .int _⟩
def vIxS (va vb : VT) : VT := fun S Q => va S fun ra S1 => vb S1 fun rb S2 => ∃ (z : Str) (i : Int) (c : Nat), ra = .d (.str z) ∧ rb = .d (.int i) ∧ z.length ≤ sizeLine ∧ atI z.cps.toList i = some c ∧ Q (.d (.str ⟨#[c]⟩)) S2
theorem ve_ixS (hK : X.K = K) (ha : VE K X false a ta va) (hb : VE K X false b tb vb) (hs : PlainIx b) : VE K X m (.Subscript a b pos) (tOp (rIx K) ta tb) (vIxS va vb) := ⟨by subst hK; exact pe_ix ix_seq ha.pe hb.pe hs, fun H0 Z σ H S Q C k t hc =>
  ha.snd H0 Z σ H S _ _ k t fun x H1 ra S1 k1 st1 r1 t1 => hb.snd H0 Z σ H1 S1 _ _ k1 t1 fun y H2 rb S2 k2 st2 r2 zq1 => by
    obtain ⟨z, i, c, rfl, rfl, hz, hat, q⟩ := zq1
    cases (show Rep K _ _ H1 x (.str z) from r1)
    cases (show Rep K _ _ H2 y (.int i) from r2)
    exact .inr (.inr ⟨z, i, c, rfl, rfl, hz, hat, hc _ H2 (.d (.str _)) S2 k2 (st1.trans st2) (Rep.str _) q⟩)⟩
end
end VL
end
section
set_option maxHeartbeats 4000000
namespace L2
open PySem PySem.Spec PyProof.Rows
theorem vals_of_strs : ∀ (l : List (Str × Tok)), Vals ((l.map (·.1)).map V.str) (strValues l)
  | [] => .nil
  | p :: r => .cons ⟨p.2, rfl⟩ (vals_of_strs r)
theorem strs_of_vals : ∀ {zs : List Str} {us : List Value}, Vals (zs.map V.str) us → ∃ l : List (Str × Tok), us = strValues l ∧ l.map (·.1) = zs
  | [], _, r => by cases r; exact ⟨[], rfl, rfl⟩
  | z :: zs, _, r => by
    cases r with
    | cons h t =>
      obtain ⟨k, rfl⟩ := h
      obtain ⟨l, rfl, e⟩ := strs_of_vals t
      exact ⟨(z, k) :: l, rfl, by rw [List.map_cons, e]⟩
def rJoin (K : PySem.W.Frag) : V → List V → Hp → VK → Prop := fun x xs H Q => ∃ (z : Str) (l : Addr) (zs : List Str), x = .str z ∧ xs = [.ref l] ∧ SqL K H l (zs.map V.str) ∧ JoinOk z zs = true ∧ Q (.str (Txt.join z zs)) H
theorem mt_join {X : Cx} : MtR X "str.join" (rJoin X.K) := by
  intro pins s σ H x xs v us Q I rx r ⟨z, l, zs, e1, e2, h, hok, q⟩
  subst e1; subst e2
  obtain ⟨u, rfl, ru⟩ := Vals.one r
  cases ru
  obtain ⟨t, rfl⟩ := rx
  obtain ⟨its, ri, pl, _⟩ := I.list h
  obtain ⟨ps, rfl, e⟩ := strs_of_vals ri
  exact SC.join pl.isList e hok fun t' k => ⟨.str _, H, I.tok _, ⟨_, rfl⟩, q⟩
def rSplit : V → List V → Hp → VK → Prop := fun x xs H Q => ∃ z y, x = .str z ∧ xs = [.str y] ∧ z.length + 2 ≤ sizeLine ∧ (y.length == 0) = false ∧ (Txt.split z y).length ≤ sizeLine ∧ ∀ D, H D = none → Q (.ref D) (upd H D (.lst ((Txt.split z y).map V.str)))
theorem mt_split {X : Cx} (hex : X.ex = []) : MtR X "str.split" rSplit := by
  intro pins s σ H x xs v us Q I rx r ⟨z, y, e1, e2, hz, hy, hn, q⟩
  subst e1; subst e2
  obtain ⟨u, rfl, t', rfl⟩ := Vals.one r
  obtain ⟨t, rfl⟩ := rx
  obtain ⟨m, F⟩ := I.fr
  refine splitN1 F news_all hy (fun l h' k hl F' N' => ?_) hz
  have lt : ∀ p ∈ allNews X.base s.heap X.env.locals, p.1 < s.heap.objs.size := fun p hp => Heap.lt_size (of_mem_allNews hp).2.2
  obtain ⟨hD, I2⟩ := I.made_list (c := 0) hex F.ns F' N' lt (hl ▸ vals_of_strs l) (by rw [List.length_map]; exact hn)
  exact ⟨.ref _, _, I2.tok k, rfl, q _ hD⟩
end L2
namespace VL
open PySem L2
section
variable {K : PySem.W.Frag} {X : Cx} {m : Bool} {e o : Expr} {te ta : TE} {va vb : VT} {pos apos : Pos} {S : List Sl} {Q : VR → List Sl → Prop} {QN : List D → List Sl → Prop}
theorem Reps.toStrs {N : AP} {F : FP} {H : Hp} : ∀ {vs : List V} {zs : List Str}, Reps K N F H vs (zs.map .str) → vs = zs.map V.str
  | [], [], _ => rfl
  | _ :: _, [], r => by cases r
  | [], _ :: _, r => by cases r
  | _ :: vs, _ :: zs, r => by
    cases r with
    | cons h t => cases h; rw [List.map_cons, ← Reps.toStrs t]
theorem Reps.strs {N : AP} {F : FP} {H : Hp} : ∀ {zs : List Str}, Reps K N F H (zs.map V.str) (zs.map .str)
  | [] => .nil
  | _ :: _ => .cons (.str _) Reps.strs
def vJoinN (va : VT) (t : VTN) : VT := fun S Q => va S fun ra S1 => ∃ z, ra = .d (.str z) ∧ t S1 fun ds S2 => ∃ zs : List Str, ds = zs.map .str ∧ JoinOk z zs = true ∧ Q (.d (.str (Txt.join z zs))) S2
theorem ve_joinN {t : VTN} (hK : X.K = K) (ho : VE K X false o ta va) (h : VN K X e te t) (hbase : attributeBase o "join" X.env (eval o X.env) = eval o X.env := by rfl)
    (hfew : ((backTo pos (starEach (e :: []) X.env)).all (fun x => !x.1) && (backToKw pos (keywordEach [] X.env)).all (fun x => x.1.isSome)
      && decide ((e :: []).length + ([] : List Keyword).length + (if ([] : List Keyword).isEmpty then 0 else 1) < 30)) = true := by rfl)
    (hline : (apos.endLine == pos.line) = true := by rfl) (hs : starEach (e :: []) X.env = (false, eval e X.env) :: starEach [] X.env := by rfl) (hplain : (backTo pos (starEach [] X.env)).any (·.1) = false := by rfl) :
    VE K X m (.Call (.Attribute o "join" apos) [e] [] pos) (tBM K "str" (rJoin K) ta (tCons te tNil)) (vJoinN va t) := ⟨by
  have := pe_bm PySem.F.plainAttrs_str PySem.F.slot_str_join PySem.F.type_str_join mt_join ho.pe (pa_cons h.pe pa_nil hs) hbase hfew hline hs hplain
  rwa [hK] at this, fun H0 Z σ H S Q C k t hc => by
  refine ho.snd H0 Z σ H S _ _ k t fun x H1 ra S1 k1 st1 r1 t1 => ?_
  obtain ⟨z, rfl, t1⟩ := t1
  cases (show Rep K _ _ H1 x (.str z) from r1)
  refine ⟨rfl, h.snd H0 Z σ H1 S1 _ _ k1 t1 fun p vs ds H2 H' S2 k2 st2 hp hg hl rr t2 => ?_⟩
  obtain ⟨zs, rfl, hok, q⟩ := t2
  cases Reps.toStrs rr
  exact ⟨z, p, zs, rfl, rfl, .inl (.inl hl), hok, hc _ H' (.d (.str _)) S2 (k2.grow hg) (st1.trans (st2.trans (.grow hg))) (Rep.str _) q⟩⟩
def vSplit (va vb : VT) : VTN := fun S Q => va S fun ra S1 => ∃ z, ra = .d (.str z) ∧ vb S1 fun rb S2 => ∃ y, rb = .d (.str y) ∧ z.length + 2 ≤ sizeLine ∧ (y.length == 0) = false ∧ (Txt.split z y).length ≤ sizeLine ∧ Q ((Txt.split z y).map .str) S2
theorem vn_split (hK : X.K = K) (hex : X.ex = []) (ho : VE K X false o ta va) (h : VE K X false e te vb) (hbase : attributeBase o "split" X.env (eval o X.env) = eval o X.env := by rfl)
    (hfew : ((backTo pos (starEach (e :: []) X.env)).all (fun x => !x.1) && (backToKw pos (keywordEach [] X.env)).all (fun x => x.1.isSome)
      && decide ((e :: []).length + ([] : List Keyword).length + (if ([] : List Keyword).isEmpty then 0 else 1) < 30)) = true := by rfl)
    (hline : (apos.endLine == pos.line) = true := by rfl) (hs : starEach (e :: []) X.env = (false, eval e X.env) :: starEach [] X.env := by rfl) (hplain : (backTo pos (starEach [] X.env)).any (·.1) = false := by rfl) :
    VN K X (.Call (.Attribute o "split" apos) [e] [] pos) (tBM K "str" rSplit ta (tCons te tNil)) (vSplit va vb) := ⟨by
  have := pe_bm PySem.F.plainAttrs_str PySem.F.slot_str_split PySem.F.type_str_split (mt_split hex) ho.pe (pa_cons h.pe pa_nil hs) hbase hfew hline hs hplain
  rwa [hK] at this, fun H0 Z σ H S Q C k t hc => by
  refine ho.snd H0 Z σ H S _ _ k t fun x H1 ra S1 k1 st1 r1 t1 => ?_
  obtain ⟨z, rfl, t1⟩ := t1
  cases (show Rep K _ _ H1 x (.str z) from r1)
  refine ⟨rfl, h.snd H0 Z σ H1 S1 _ _ k1 t1 fun y H2 rb S2 k2 st2 r2 t2 => ?_⟩
  obtain ⟨yy, rfl, hz, hy, hn, q⟩ := t2
  cases (show Rep K _ _ H2 y (.str yy) from r2)
  exact ⟨z, yy, rfl, rfl, hz, hy, hn, fun D hD => hc D _ _ H2 _ S2 k2 (st1.trans st2) hD (upd_grow hD) upd_same Reps.strs q⟩⟩
end
end VL
end
section
set_option maxHeartbeats 4000000
namespace L2
open PySem PySem.Spec PyProof.Rows
abbrev TJ := St → Hp → Str → (Str → Hp → Prop) → Prop
section
variable {X : Cx} {e : Expr} {es : List Expr} {te : TE} {tj : TJ} {pos : Pos}
def tFmt (te : TE) : TE := fun σ H Q => te σ H fun x H1 => (∃ i : Int, x = .int i ∧ i.natAbs.log2 < 1920 ∧ Q (.str (toString i)) H1) ∨ ∃ z : Str, x = .str z ∧ z.length ≤ sizeLine ∧ Q (.str z) H1
theorem pe_fmt (h : PE X e te) : PE X (.FormattedValue e (-1) none pos) (tFmt te) := by
  intro pins s σ H Q I t
  refine wpAny_FormattedValue_plain (wpAny_mono (h pins s σ H _ I t) (fun v s1 z => ?_) fun _ _ x => x)
  obtain ⟨x, H1, I1, rx, q⟩ := z
  rcases q with ⟨i, e, hi, q⟩ | ⟨z, e, hz, q⟩
  · subst e
    obtain ⟨t, rfl⟩ := rx
    exact wpAny_formatField_int hi ⟨.str _, H1, I1.tok _, ⟨_, rfl⟩, q⟩
  · subst e
    obtain ⟨t, rfl⟩ := rx
    exact SB.field_str (fun t' k => ⟨.str _, H1, I1.tok _, ⟨_, rfl⟩, q⟩) hz
def PJ (X : Cx) (es : List Expr) (t : TJ) : Prop := ∀ (pins : List (Addr × Obj)) (s : Shared) (σ : St) (H : Hp) (acc : Str) (Q : Str → Hp → Prop), Inv X pins σ H s → t σ H acc Q →
  Joins (model X.prog X.w) X.A X.xe (evalEach es X.env) acc (fun z s1 => ∃ H', Inv X pins σ H' s1 ∧ z.length ≤ sizeLine ∧ Q z H') s
def tJn : TJ := fun _ H acc Q => acc.length ≤ sizeLine ∧ Q acc H
def tJc (te : TE) (tj : TJ) : TJ := fun σ H acc Q => te σ H fun x H1 => ∃ y : Str, x = .str y ∧ (acc ++ y).length ≤ sizeLine ∧ tj σ H1 (acc ++ y) Q
theorem pj_nil : PJ X [] tJn := fun pins s σ H acc Q I t => Joins_nil ⟨H, I, t.1, t.2⟩
theorem pj_cons (h : PE X e te) (hj : PJ X es tj) : PJ X (e :: es) (tJc te tj) := fun pins s σ H acc Q I t =>
  Joins_cons (wpAny_mono (h pins s σ H _ I t) (fun v s1 z => by
    obtain ⟨x, H1, I1, rx, y, e, hy, q⟩ := z
    subst e
    obtain ⟨t, rfl⟩ := rx
    exact ⟨y, t, rfl, hy, hj pins s1 σ H1 _ Q I1 q⟩) fun _ _ x => x)
def tJoined (tj : TJ) : TE := fun σ H Q => tj σ H Str.empty fun z H' => Q (.str z) H'
theorem joins_mono {M : Model} {A : Around} {E : Value → Shared → Prop} {Q Q' : Str → Shared → Prop} (h : ∀ z s, Q z s → Q' z s) : ∀ {ps : List (Sem Value)} {acc : Str} {s : Shared}, Joins M A E ps acc Q s → Joins M A E ps acc Q' s
  | [], _, _, t => h _ _ t
  | _ :: _, _, _, t => wpAny_mono t (fun _ _ ⟨y, k, e, hy, q⟩ => ⟨y, k, e, hy, joins_mono h q⟩) fun _ _ x => x
theorem pe_joined {v w : Expr} (h : PJ X (v :: w :: es) tj) : PE X (.JoinedStr (v :: w :: es) pos) (tJoined tj) := fun pins s σ H Q I t =>
  wpAny_JoinedStr (joins_mono (fun z s1 ⟨H', I', hz, q⟩ => ⟨hz, .str z, H', I'.tok _, ⟨_, rfl⟩, q⟩) (h pins s σ H _ _ I t))
end
end L2
namespace VL
open PySem L2
abbrev VTJ := List Sl → Str → (Str → List Sl → Prop) → Prop
structure VJ (K : PySem.W.Frag) (X : Cx) (es : List Expr) (tj : TJ) (t : VTJ) : Prop where
  pe : PJ X es tj
  snd : ∀ H0 Z σ H S acc Q C, OK K H0 Z σ H S → t S acc Q → (∀ z H' S', OK K H0 Z σ H' S' → Step Z σ S H σ S' H' → Q z S' → C z H') → tj σ H acc C
section
variable {K : PySem.W.Frag} {X : Cx} {m : Bool} {e v w : Expr} {es : List Expr} {te : TE} {tj : TJ} {va : VT} {vj : VTJ} {pos : Pos} {S : List Sl} {Q : VR → List Sl → Prop}
def vFmt (va : VT) : VT := fun S Q => va S fun r S1 => (∃ i : Int, r = .d (.int i) ∧ i.natAbs.log2 < 1920 ∧ Q (.d (.str (toString i))) S1) ∨ ∃ z : Str, r = .d (.str z) ∧ z.length ≤ sizeLine ∧ Q (.d (.str z)) S1
theorem ve_fmt (h : VE K X false e te va) : VE K X m (.FormattedValue e (-1) none pos) (tFmt te) (vFmt va) := ⟨pe_fmt h.pe, fun H0 Z σ H S Q C k t hc =>
  h.snd H0 Z σ H S _ _ k t fun x H1 r S1 k1 st1 r1 t1 => by
    rcases t1 with ⟨i, e, hi, q⟩ | ⟨z, e, hz, q⟩
    · subst e
      cases (show Rep K _ _ H1 x (.int i) from r1)
      exact .inl ⟨i, rfl, hi, hc _ H1 (.d (.str _)) S1 k1 st1 (Rep.str _) q⟩
    · subst e
      cases (show Rep K _ _ H1 x (.str z) from r1)
      exact .inr ⟨z, rfl, hz, hc _ H1 (.d (.str _)) S1 k1 st1 (Rep.str _) q⟩⟩
def vJn : VTJ := fun S acc Q => acc.length ≤ sizeLine ∧ Q acc S
theorem vj_nil : VJ K X [] tJn vJn := ⟨pj_nil, fun H0 Z σ H S acc Q C k t hc => ⟨t.1, hc _ H S k Step.refl t.2⟩⟩
def vJc (va : VT) (vj : VTJ) : VTJ := fun S acc Q => va S fun r S1 => ∃ y : Str, r = .d (.str y) ∧ (acc ++ y).length ≤ sizeLine ∧ vj S1 (acc ++ y) Q
theorem vj_cons (h : VE K X false e te va) (hj : VJ K X es tj vj) : VJ K X (e :: es) (tJc te tj) (vJc va vj) := ⟨pj_cons h.pe hj.pe, fun H0 Z σ H S acc Q C k t hc =>
  h.snd H0 Z σ H S _ _ k t fun x H1 r S1 k1 st1 r1 t1 => by
    obtain ⟨y, e, hy, q⟩ := t1
    subst e
    cases (show Rep K _ _ H1 x (.str y) from r1)
    exact ⟨y, rfl, hy, hj.snd H0 Z σ H1 S1 _ _ _ k1 q fun z H2 S2 k2 st2 q2 => hc z H2 S2 k2 (st1.trans st2) q2⟩⟩
def vJoined (vj : VTJ) : VT := fun S Q => vj S Str.empty fun z S1 => Q (.d (.str z)) S1
theorem ve_joined (h : VJ K X (v :: w :: es) tj vj) : VE K X m (.JoinedStr (v :: w :: es) pos) (tJoined tj) (vJoined vj) := ⟨pe_joined h.pe, fun H0 Z σ H S Q C k t hc =>
  h.snd H0 Z σ H S _ _ _ k t fun z H1 S1 k1 st1 q => hc _ H1 (.d (.str _)) S1 k1 st1 (Rep.str _) q⟩
end
end VL
end
section
set_option maxHeartbeats 4000000
namespace L2
open PySem PySem.Spec PyProof.Rows
section
variable {X : Cx}
def rSlS : V → Option Int → Option Int → Hp → VK → Prop := fun x lo hi H Q => ∃ z : Str, x = .str z ∧ z.length ≤ sizeLine ∧ Q (.str (Txt.slice z lo hi)) H
theorem sl_str : SlR X rSlS := by
  intro pins s σ H x v vl vu lo hi sl Q I rx hs pl pu h
  obtain ⟨z, rfl, hz, q⟩ := h
  obtain ⟨t, rfl⟩ := rx
  refine ⟨"str", _, F.slot_str_getitem.lookup, typeIs_str _ _ _, ?_⟩
  have fin : ∀ l u : Option (Int × Tok), vl = partValue l → vu = partValue u → l.map (·.1) = lo → u.map (·.1) = hi → wpAny (model X.prog X.w) X.A (getItem (.str z t) (.ref sl)) (EP X pins σ Q) X.xe s := by
    intro l u e1 e2 e3 e4
    subst e1 e2 e3 e4
    exact wpAny_getItem_str_slice (l := l) (u := u) (st := none) hs rfl (post_val_or_str ⟨Nat.le_trans (Txt.slice_le z _ _) hz, fun t' k => ⟨.str _, H, I.tok _, ⟨_, rfl⟩, q⟩⟩)
  cases pl with
  | none => cases pu with
    | none => exact fin none none rfl rfl rfl rfl
    | int j u => exact fin none (some (j, u)) rfl rfl rfl rfl
  | int i t => cases pu with
    | none => exact fin (some (i, t)) none rfl rfl rfl rfl
    | int j u => exact fin (some (i, t)) (some (j, u)) rfl rfl rfl rfl
end
end L2
namespace VL
open PySem L2
section
variable {K : PySem.W.Frag} {X : Cx} {m : Bool} {e : Expr} {te : TE} {va : VT} {pos : Pos}
def vSlS (va : VT) (vl vh : VO) : VT := fun S Q => va S fun r S1 => ∃ z : Str, r = .d (.str z) ∧ vl S1 fun lo S2 => vh S2 fun hi S3 => z.length ≤ sizeLine ∧ Q (.d (.str (Txt.slice z lo hi))) S3
theorem ve_slS {lo hi : Option Expr} {tl th : TO} {vl vh : VO} {p2 : Pos} (h : VE K X false e te va) (hl : VOe K X lo tl vl) (hh : VOe K X hi th vh) : VE K X m (.Subscript e (.Slice lo hi none p2) pos) (tSl rSlS te tl th) (vSlS va vl vh) :=
  ⟨pe_slice sl_str h.pe hl.pe hh.pe, fun H0 Z σ H S Q C k t hc => h.snd H0 Z σ H S _ _ k t fun v H1 r S1 k1 st1 rr t1 => by
    obtain ⟨z, rfl, t1⟩ := t1
    cases (show Rep K _ _ H1 v (.str z) from rr)
    exact hl.snd H0 Z σ H1 S1 _ _ k1 t1 fun lo H2 S2 k2 st2 t2 => hh.snd H0 Z σ H2 S2 _ _ k2 t2 fun hi H3 S3 k3 st3 zq1 =>
      ⟨z, rfl, zq1.1, hc _ H3 (.d (.str _)) S3 k3 ((st1.trans st2).trans st3) (Rep.str _) zq1.2⟩⟩
end
end VL
end
section
set_option maxHeartbeats 4000000
namespace L2
open PySem PySem.Spec PyProof.Rows
def Its (z : Str) : It := ⟨fun i _ => i < z.cps.size, fun i H x H' => H' = H ∧ ∃ c, z.cps[i]? = some c ∧ x = .str ⟨#[c]⟩, fun i _ => i = z.cps.size⟩
theorem turn_str {P : Program} {w : World} {K : PySem.W.Frag} {tg : Expr} (it : Addr) (z : Str) (t : Tok) (ty : String) (hn : ["enumerate", "zip", "dict_itemiterator", "dict_reverseitemiterator", "odict_iterator", "itertools.zip_longest", "itertools.pairwise"].contains ty = false)
    (W : ∀ A : Around, A.handled = none → Walks P w A it [it] [it] z.cps.size (SignAt z) (fun i h => h.IsStrIter it ty z t i))
    (hself : ∀ (A : Around) (i : Nat) (s : Shared) (Q : Value → Shared → Prop) (E : Value → Shared → Prop), s.heap.IsStrIter it ty z t i → Q (.ref it) s → wpAny (model P w) A (pyIter (.ref it)) Q E s) :
    Turn P w K tg (Its z) [it] it (fun i h => h.IsStrIter it ty z t i) where
  mem := by simp
  obj := fun i h st b hb => by
    have e : b = it := by simpa using hb
    subst e
    obtain ⟨o, e, c, d⟩ := st
    exact ⟨o, e, fun v z => by rw [d] at z; cases z⟩
  keep := fun i h h' st k => let ⟨o, e, r⟩ := st; ⟨o, k it (by simp) o e, r⟩
  item := by
    intro X hP hw hK hc i pins s σ H E I hf st hg
    subst hP hw hK
    obtain ⟨f0, f1, f2, f3, f4, f5⟩ := hf it (by simp)
    refine (W X.A (I.ok.hd hc)).item i s _ _ hg st fun v h' tk hv st' kk => ?_
    obtain ⟨c, u, hx, rfl⟩ := hv
    have I1 : Inv X pins σ H { s with heap := h', toks := tk } := I.turned (fun b o hb e => kk b o (by simpa using hb) e) f0 f1 f3 f4 f5
    obtain ⟨o, e, cc, d⟩ := id st'
    exact ⟨_, rfl, go_of (s := { s with heap := h', toks := tk }) e cc d hn ⟨.str ⟨#[c]⟩, H, I1, ⟨u, rfl⟩, ⟨rfl, c, hx, rfl⟩, st', fun b hb => (hf b hb).1⟩⟩
  done := by
    intro X hP hw hK hc i pins s σ H E I hf st hg
    subst hP hw hK
    obtain ⟨f0, f1, f2, f3, f4, f5⟩ := hf it (by simp)
    have hi : i = z.cps.size := hg
    subst hi
    exact (W X.A (I.ok.hd hc)).done s _ _ st fun h' tk kk => ⟨rfl, I.turned (fun b o hb e => kk b o (by simpa using hb) e) f0 f1 f3 f4 f5⟩
  self := fun A i s Q E st h => hself A i s Q E st h
section
variable {X : Cx} {tg : Expr}
def iStr (tl : TE) : TI := fun σ H R => tl σ H fun x H1 => ∃ z, x = .str z ∧ R (Its z) H1
theorem pi_str {l : Expr} {tl : TE} (hl : PE X l tl) : PI X tg l (iStr tl) := by
  intro pins s σ H R I h
  refine thn (hl pins s σ H _ I h) fun v s1 ⟨x, H1, I1, r1, q1⟩ => ?_
  obtain ⟨z, e, q⟩ := q1
  subst e
  obtain ⟨t, rfl⟩ := r1
  have fp : ∀ b ∈ [s1.heap.objs.size], FpOk X pins H1 b := fun b hb => by
    have e : b = s1.heap.objs.size := by simpa using hb
    subst e
    exact I1.fpOk (Nat.le_refl _) (I1.hok.fresh (Nat.le_refl _))
  cases ha : z.cps.all (· < 128)
  · exact wpAny_pyIter_wide ha ⟨s1.heap.objs.size, [s1.heap.objs.size], _, _, H1, rfl, I1.kept (t' := s1.toks) fun b o e => Heap.get?_push_of_some _ e, turn_str _ z t "str_iterator" (by decide) (fun A hA => Walks.strWide hA _ z t) (fun A i s Q E st h => wpAny_pyIter_striter_wide st h), ⟨_, Heap.get?_push_size _ rfl, rfl, rfl⟩, fp, q⟩
  · exact wpAny_pyIter_ascii ha ⟨s1.heap.objs.size, [s1.heap.objs.size], _, _, H1, rfl, I1.kept (t' := s1.toks) fun b o e => Heap.get?_push_of_some _ e, turn_str _ z t "str_ascii_iterator" (by decide) (fun A hA => Walks.strAscii hA _ z t) (fun A i s Q E st h => wpAny_pyIter_striter_ascii st h), ⟨_, Heap.get?_push_size _ rfl, rfl, rfl⟩, fp, q⟩
def rIntS : List V → Hp → VK → Prop := fun xs H Q => ∃ z n, xs = [.str z] ∧ PySem.intText? z = some n ∧ z.length ≤ 640 ∧ Q (.int n) H
theorem call_intS : CallR X (.type "int") rIntS := by
  intro pins s σ H xs us Q I r h
  obtain ⟨z, n, rfl, hn, hz, q⟩ := h
  obtain ⟨u, rfl, rx⟩ := vals1 r
  obtain ⟨t, rfl⟩ := rx
  exact PySem.W.KIN.call_text hn hz ⟨.int n, H, I.tok _, ⟨_, rfl⟩, q⟩
end
end L2
namespace VL
open PySem L2
section
variable {K : PySem.W.Frag} {X : Cx} {m : Bool} {e tg : Expr} {te : TE} {va : VT} {pos : Pos}
def sgs (z : Str) : List D := z.cps.toList.map fun c => .str ⟨#[c]⟩
def vItS (va : VT) : VTN := fun S Q => va S fun r S1 => ∃ z, r = .d (.str z) ∧ Q (sgs z) S1
theorem vi_str (h : VE K X false e te va) : VI K X tg e (iStr te) (vItS va) := ⟨pi_str h.pe, fun H0 Z σ H S Q C k t hc => h.snd H0 Z σ H S _ _ k t fun v H1 r S1 k1 st1 rr zq1 => by
  obtain ⟨z, e, q⟩ := zq1
  subst e
  cases (show Rep K _ _ H1 v (.str z) from rr)
  have hl : (sgs z).length = z.cps.size := by unfold sgs; rw [List.length_map, Array.length_toList]
  refine ⟨z, rfl, hc _ (sgs z) H1 S1 k1 st1 (fun σ2 S2 H2 _ st2 i => ⟨fun hi => (show i < z.cps.size by rw [← hl]; exact hi), fun x H3 hy hi => ?_, fun hi => hi.trans hl⟩) q⟩
  obtain ⟨rfl, c, hx, rfl⟩ := hy
  refine ⟨fun _ _ => rfl, .str ⟨#[c]⟩, ?_, .str _⟩
  unfold sgs
  rw [List.getElem?_map, Array.getElem?_toList, hx]
  rfl⟩
def wIntS : List D → (D → Prop) → Prop := fun ds q => ∃ (z : Str) (n : Int), ds = [.str z] ∧ PySem.intText? z = some n ∧ z.length ≤ 640 ∧ q (.int n)
theorem l_intS : LiftC K rIntS wIntS := by
  rintro xs H ds q C r ⟨z, n, rfl, hn, hz, h⟩ hc
  obtain ⟨v, rfl, rv⟩ := rep1 r
  cases rv
  exact ⟨z, n, rfl, hn, hz, hc _ _ h fun _ _ => .int _⟩
end
end VL
end
section
set_option maxHeartbeats 4000000
namespace VL
open PySem L2
section
variable {P : Program} {w : World} {K : PySem.W.Frag} {mg : Str → Option Value} {base : Heap}
end
section
variable {K : PySem.W.Frag} {X : Cx} {m : Bool} {e : Expr} {es : List Expr} {tr : TA} {vr : VTA} {pos p0 : Pos} {x : Str} {j k : Nat} {ps : List Str} {p : PJ2}
end
end VL
end
section
set_option maxHeartbeats 4000000
namespace VL
open PySem L2
section
variable {K : PySem.W.Frag} {X : Cx} {m : Bool} {e e0 : Expr} {te : TE} {pos p0 p1 : Pos} {x : Str} {j k jj : Nat} {ps : List Str} {t : VTN} {p : PJ2} {n : Int}
end
end VL
end
section
set_option maxHeartbeats 4000000
namespace VL
open PySem L2
section
variable {S : List Sl} {Q : VR → List Sl → Prop} {QN : List D → List Sl → Prop} {QJ : Str → List Sl → Prop} {q : D → Prop} {va vb : VT} {t : VTN} {vj : VTJ} {vl vh : VO} {vr : VTA} {p : PJ2} {x y z acc : Str}
theorem j_addS (hl : x.length + y.length ≤ sizeLine) (h : q (.str (x ++ y))) : wAddS (.str x) (.str y) q := ⟨x, y, rfl, rfl, hl, h⟩
theorem j_inS {b : Bool} (e : inS x y = b) (h : q (.bl b)) : wInS false (.str x) (.str y) q := ⟨x, y, rfl, rfl, by rw [if_neg Bool.false_ne_true, e]; exact h⟩
theorem j_lenS (hl : z.length ≤ sizeLine) (h : q (.int z.length)) : wLenS [.str z] q := ⟨z, rfl, hl, h⟩
theorem j_intS {n : Int} (hn : PySem.intText? z = some n) (hl : z.length ≤ 640) (h : q (.int n)) : wIntS [.str z] q := ⟨z, n, rfl, hn, hl, h⟩
@[irreducible] def kJoA (t : VTN) (Q : VR → List Sl → Prop) : VR → List Sl → Prop := fun ra S1 => ∃ z, ra = .d (.str z) ∧ t S1 fun ds S2 => ∃ zs : List Str, ds = zs.map .str ∧ JoinOk z zs = true ∧ Q (.d (.str (Txt.join z zs))) S2
@[irreducible] def kJoB (z : Str) (Q : VR → List Sl → Prop) : List D → List Sl → Prop := fun ds S2 => ∃ zs : List Str, ds = zs.map .str ∧ JoinOk z zs = true ∧ Q (.d (.str (Txt.join z zs))) S2
theorem j_joinN (h : va S (kJoA t Q)) : vJoinN va t S Q := by unfold kJoA at h; exact h
theorem j_kJoA (h : t S (kJoB z Q)) : kJoA t Q (.d (.str z)) S := by unfold kJoB at h; unfold kJoA; exact ⟨z, rfl, h⟩
theorem j_kJoB {ds : List D} {zs : List Str} (e : ds = zs.map .str) (hok : JoinOk z zs = true) (h : Q (.d (.str (Txt.join z zs))) S) : kJoB z Q ds S := by unfold kJoB; exact ⟨zs, e, hok, h⟩
@[irreducible] def kSpA (vb : VT) (Q : List D → List Sl → Prop) : VR → List Sl → Prop := fun ra S1 => ∃ z, ra = .d (.str z) ∧ vb S1 fun rb S2 => ∃ y, rb = .d (.str y) ∧ z.length + 2 ≤ sizeLine ∧ (y.length == 0) = false ∧ (Txt.split z y).length ≤ sizeLine ∧ Q ((Txt.split z y).map .str) S2
@[irreducible] def kSpB (z : Str) (Q : List D → List Sl → Prop) : VR → List Sl → Prop := fun rb S2 => ∃ y, rb = .d (.str y) ∧ z.length + 2 ≤ sizeLine ∧ (y.length == 0) = false ∧ (Txt.split z y).length ≤ sizeLine ∧ Q ((Txt.split z y).map .str) S2
theorem j_split (h : va S (kSpA vb QN)) : vSplit va vb S QN := by unfold kSpA at h; exact h
theorem j_kSpA (h : vb S (kSpB z QN)) : kSpA vb QN (.d (.str z)) S := by unfold kSpB at h; unfold kSpA; exact ⟨z, rfl, h⟩
theorem j_kSpB {ws : List Str} (hl : z.length + 2 ≤ sizeLine) (hy : (y.length == 0) = false) (e : Txt.split z y = ws) (hn : ws.length ≤ sizeLine) (h : QN (ws.map .str) S) : kSpB z QN (.d (.str y)) S := by unfold kSpB; subst e; exact ⟨y, rfl, hl, hy, hn, h⟩
@[irreducible] def kJd (Q : VR → List Sl → Prop) : Str → List Sl → Prop := fun z S1 => Q (.d (.str z)) S1
theorem j_joined (h : vj S Str.empty (kJd Q)) : vJoined vj S Q := by unfold kJd at h; exact h
theorem j_kJd (h : Q (.d (.str z)) S) : kJd Q z S := by unfold kJd; exact h
@[irreducible] def kJc (vj : VTJ) (acc : Str) (Q : Str → List Sl → Prop) : VR → List Sl → Prop := fun r S1 => ∃ y : Str, r = .d (.str y) ∧ (acc ++ y).length ≤ sizeLine ∧ vj S1 (acc ++ y) Q
theorem j_jc (h : va S (kJc vj acc QJ)) : vJc va vj S acc QJ := by unfold kJc at h; exact h
theorem j_kJc (hl : (acc ++ y).length ≤ sizeLine) (h : vj S (acc ++ y) QJ) : kJc vj acc QJ (.d (.str y)) S := by unfold kJc; exact ⟨y, rfl, hl, h⟩
theorem j_jn (hl : acc.length ≤ sizeLine) (h : QJ acc S) : vJn S acc QJ := ⟨hl, h⟩
@[irreducible] def kFmt (Q : VR → List Sl → Prop) : VR → List Sl → Prop := fun r S1 => (∃ i : Int, r = .d (.int i) ∧ i.natAbs.log2 < 1920 ∧ Q (.d (.str (toString i))) S1) ∨ ∃ z : Str, r = .d (.str z) ∧ z.length ≤ sizeLine ∧ Q (.d (.str z)) S1
theorem j_fmt (h : va S (kFmt Q)) : vFmt va S Q := by unfold kFmt at h; exact h
theorem j_kFmtI {i : Int} (hi : i.natAbs.log2 < 1920) (h : Q (.d (.str (toString i))) S) : kFmt Q (.d (.int i)) S := by unfold kFmt; exact .inl ⟨i, rfl, hi, h⟩
theorem j_kFmtS (hl : z.length ≤ sizeLine) (h : Q (.d (.str z)) S) : kFmt Q (.d (.str z)) S := by unfold kFmt; exact .inr ⟨z, rfl, hl, h⟩
@[irreducible] def kSsA (vl vh : VO) (Q : VR → List Sl → Prop) : VR → List Sl → Prop := fun r S1 => ∃ z : Str, r = .d (.str z) ∧ vl S1 fun lo S2 => vh S2 fun hi S3 => z.length ≤ sizeLine ∧ Q (.d (.str (Txt.slice z lo hi))) S3
@[irreducible] def kSsB (z : Str) (vh : VO) (Q : VR → List Sl → Prop) : Option Int → List Sl → Prop := fun lo S2 => vh S2 fun hi S3 => z.length ≤ sizeLine ∧ Q (.d (.str (Txt.slice z lo hi))) S3
@[irreducible] def kSsC (z : Str) (lo : Option Int) (Q : VR → List Sl → Prop) : Option Int → List Sl → Prop := fun hi S3 => z.length ≤ sizeLine ∧ Q (.d (.str (Txt.slice z lo hi))) S3
theorem j_slS (h : va S (kSsA vl vh Q)) : vSlS va vl vh S Q := by unfold kSsA at h; exact h
theorem j_kSsA (h : vl S (kSsB z vh Q)) : kSsA vl vh Q (.d (.str z)) S := by unfold kSsB at h; unfold kSsA; exact ⟨z, rfl, h⟩
theorem j_kSsB {lo : Option Int} (h : vh S (kSsC z lo Q)) : kSsB z vh Q lo S := by unfold kSsC at h; unfold kSsB; exact h
theorem j_kSsC {lo hi : Option Int} (hl : z.length ≤ sizeLine) (e : Txt.slice z lo hi = y) (h : Q (.d (.str y)) S) : kSsC z lo Q hi S := by unfold kSsC; subst e; exact ⟨hl, h⟩
@[irreducible] def kItS (Q : List D → List Sl → Prop) : VR → List Sl → Prop := fun r S1 => ∃ z, r = .d (.str z) ∧ Q (sgs z) S1
theorem j_itS (h : va S (kItS QN)) : vItS va S QN := by unfold kItS at h; exact h
theorem j_kItS (h : QN (sgs z) S) : kItS QN (.d (.str z)) S := by unfold kItS; exact ⟨z, rfl, h⟩
end
end VL
end
section
set_option maxHeartbeats 4000000
namespace My
open PySem
def jl (c : Nat) : List (List Nat) → List Nat
  | [] => []
  | [x] => x
  | x :: y :: r => x ++ c :: jl c (y :: r)
theorem sp_inj {c : Nat} {y y' : List Nat} : ∀ {x x' : List Nat}, c ∉ x → c ∉ x' → x ++ c :: y = x' ++ c :: y' → x = x' ∧ y = y'
  | [], [], _, _, e => ⟨rfl, (List.cons.inj e).2⟩
  | [], b :: x', _, h, e => by
    have := (List.cons.inj e).1
    subst this
    exact absurd List.mem_cons_self h
  | a :: x, [], h, _, e => by
    have := (List.cons.inj e).1
    subst this
    exact absurd List.mem_cons_self h
  | a :: x, b :: x', h, h', e => by
    obtain ⟨e1, e2⟩ := List.cons.inj e
    obtain ⟨e3, e4⟩ := sp_inj (fun z => h (List.mem_cons_of_mem _ z)) (fun z => h' (List.mem_cons_of_mem _ z)) e2
    exact ⟨by rw [e1, e3], e4⟩
theorem jl_inj {c : Nat} : ∀ {ws vs : List (List Nat)}, ws ≠ [] → vs ≠ [] → (∀ w ∈ ws, c ∉ w) → (∀ v ∈ vs, c ∉ v) → jl c ws = jl c vs → ws = vs
  | [], _, h, _, _, _, _ => absurd rfl h
  | _, [], _, h, _, _, _ => absurd rfl h
  | [x], [y], _, _, _, _, e => by rw [show x = y from e]
  | [x], y :: z :: r, _, _, h, _, e => by
    have e : x = y ++ c :: jl c (z :: r) := e
    exact absurd (by rw [e]; simp) (h x List.mem_cons_self)
  | x :: w :: r, [y], _, _, _, h, e => by
    have e : x ++ c :: jl c (w :: r) = y := e
    exact absurd (by rw [← e]; simp) (h y List.mem_cons_self)
  | x :: w :: r, y :: z :: r', _, _, h, h', e => by
    obtain ⟨e1, e2⟩ := sp_inj (h x List.mem_cons_self) (h' y List.mem_cons_self) e
    rw [e1, jl_inj (by simp) (by simp) (fun a m => h a (List.mem_cons_of_mem _ m)) (fun a m => h' a (List.mem_cons_of_mem _ m)) e2]
theorem join_jl (c : Nat) : ∀ ws : List Str, (Str.join ⟨#[c]⟩ ws).cps.toList = jl c (ws.map fun w => w.cps.toList)
  | [] => rfl
  | [x] => rfl
  | x :: y :: r => by
    have ih := join_jl c (y :: r)
    show (x ++ ⟨#[c]⟩ ++ Str.join ⟨#[c]⟩ (y :: r)).cps.toList = x.cps.toList ++ c :: jl c ((y :: r).map fun w => w.cps.toList)
    rw [← ih]
    show (x.cps ++ #[c] ++ (Str.join ⟨#[c]⟩ (y :: r)).cps).toList = _
    simp
theorem str_ext {x y : Str} (h : x.cps.toList = y.cps.toList) : x = y := by
  cases x; cases y
  exact congrArg Str.mk (Array.toList_inj.mp h)
theorem map_inj_str : ∀ {ws vs : List Str}, (ws.map fun w => w.cps.toList) = (vs.map fun w => w.cps.toList) → ws = vs
  | [], [], _ => rfl
  | [], _ :: _, h => by cases h
  | _ :: _, [], h => by cases h
  | _ :: _, _ :: _, h => by
    obtain ⟨h1, h2⟩ := List.cons.inj h
    rw [str_ext h1, map_inj_str h2]
theorem split_join {c : Nat} {ws : List Str} (h0 : ws ≠ []) (h : ∀ w ∈ ws, c ∉ w.cps.toList) : Txt.split (Txt.join ⟨#[c]⟩ ws) ⟨#[c]⟩ = ws := by
  have e : Str.join ⟨#[c]⟩ (Txt.split (Txt.join ⟨#[c]⟩ ws) ⟨#[c]⟩) = Str.join ⟨#[c]⟩ ws := (StrLaws.join_split _ _).trans (StrLaws.glued_eq_join _ _)
  have e2 := congrArg (fun z : Str => z.cps.toList) e
  simp only [join_jl] at e2
  refine map_inj_str (jl_inj (c := c) ?_ ?_ ?_ ?_ e2)
  · intro z
    have hp := PyProof.Rows.split_pos (Txt.join ⟨#[c]⟩ ws) ⟨#[c]⟩
    rw [List.map_eq_nil_iff.mp z] at hp
    exact absurd hp (by decide)
  · intro z; exact h0 (List.map_eq_nil_iff.mp z)
  · intro w hw
    obtain ⟨v, hv, rfl⟩ := List.mem_map.mp hw
    exact StrLaws.split_free _ c v hv
  · intro w hw
    obtain ⟨v, hv, rfl⟩ := List.mem_map.mp hw
    exact h v hv
end My
end
section
set_option maxHeartbeats 4000000
namespace My
open PySem VL
def mk (l : List Nat) : Str := ⟨l.toArray⟩
theorem mk_toList (l : List Nat) : (mk l).cps.toList = l := by unfold mk; simp
theorem mk_len (l : List Nat) : (mk l).length = l.length := by show l.toArray.size = _; simp
end My
end
section
set_option maxHeartbeats 4000000
namespace L2
open PySem PySem.Spec PyProof.Rows
theorem Inv.made_tup {X : Cx} {pins : List (Addr × Obj)} {σ : St} {H : Hp} {s : Shared} {m : Str → Option Value} {h' : Heap} {D : Addr} {vs' : List Value} {ws : List V} (hex : X.ex = []) (I : Inv X pins σ H s) (Fn : s.heap.Ns X.env.locals m) (F' : Fr X.base X.env.locals h' m)
    (N' : News X.base X.env.locals h' ((D, { cls := .type "tuple", data := .seq vs'.toArray }) :: allNews X.base s.heap X.env.locals)) (hlt : ∀ q ∈ allNews X.base s.heap X.env.locals, q.1 < D) (r : Vals ws vs') (hz : ws.length ≤ sizeLine) :
    H D = none ∧ Inv X pins σ (upd H D (.tup ws)) { s with heap := h' } := by
  have N1 : News X.base X.env.locals h' (allNews X.base s.heap X.env.locals) := fun p hp => N' p (List.mem_cons_of_mem _ hp)
  have I1 : Inv X pins σ H { s with heap := h' } := I.led (t' := s.toks) Fn F' N1
  have ND := N' (D, _) List.mem_cons_self
  have young : ∀ b o, s.heap.get? b = some o → b ≠ D := fun b o e z => by
    by_cases hb : b = X.env.locals
    · exact ND.2.1 (z ▸ hb)
    · cases q : X.base.get? b with
      | some u => rw [z, ND.2.2] at q; cases q
      | none => exact absurd (hlt (b, o) (mem_allNews hb q e)) (by rw [z]; exact Nat.lt_irrefl _)
  have hDn : H D = none := by
    cases z : H D with
    | none => rfl
    | some u =>
      obtain ⟨ob, eo⟩ := ObjOk.there (I.hok D u z)
      exact absurd rfl (young D ob eo)
  have s0D : X.s₀.heap.get? D = none := by
    cases z : X.s₀.heap.get? D with
    | none => rfl
    | some ob =>
      obtain ⟨o', e'⟩ := I.base.there D ob z (by rw [hex]; simp)
      exact absurd rfl (young D o' e')
  refine ⟨hDn, I1.trackN hDn s0D ND.2.1 (fun x c e z => ?_) (fun p hp z => ?_) ⟨hz, vs', r, _, ND.1, ?_⟩⟩
  · obtain ⟨v, o, ho, _⟩ := I.cell x c e
    exact young c o ho z
  · exact young p.1 p.2 (I.pin p hp).1 z
  · exact ⟨rfl, 0, rfl⟩
def rCnt : V → List V → Hp → VK → Prop := fun x xs H Q => ∃ z y, x = .str z ∧ xs = [.str y] ∧ Q (.int (Txt.count z y)) H
theorem mt_cnt {X : Cx} : MtR X "str.count" rCnt := by
  intro pins s σ H x xs v us Q I rx r ⟨z, y, e1, e2, q⟩
  subst e1; subst e2
  obtain ⟨u, rfl, t', rfl⟩ := Vals.one r
  obtain ⟨t, rfl⟩ := rx
  exact SC.count ⟨.int _, H, I.tok _, ⟨_, rfl⟩, q⟩
def rIdx : V → List V → Hp → VK → Prop := fun x xs H Q => ∃ z y i rest, x = .str z ∧ xs = [.str y] ∧ Builtin.Str.occurrences z y 0 z.length 1 = i :: rest ∧ Q (.int (i : Nat)) H
theorem mt_idx {X : Cx} : MtR X "str.index" rIdx := by
  intro pins s σ H x xs v us Q I rx r ⟨z, y, i, rest, e1, e2, e3, q⟩
  subst e1; subst e2
  obtain ⟨u, rfl, t', rfl⟩ := Vals.one r
  obtain ⟨t, rfl⟩ := rx
  exact SC.index e3 ⟨.int _, H, I.tok _, ⟨_, rfl⟩, q⟩
def part3 (z y : Str) : List Str := [(Txt.partition z y).1, (Txt.partition z y).2.1, (Txt.partition z y).2.2]
def rPart : V → List V → Hp → VK → Prop := fun x xs H Q => ∃ z y, x = .str z ∧ xs = [.str y] ∧ (y.length == 0) = false ∧ z.length ≤ sizeLine ∧ ∀ D, H D = none → Q (.ref D) (upd H D (.tup ((part3 z y).map V.str)))
theorem mt_part {X : Cx} (hex : X.ex = []) : MtR X "str.partition" rPart := by
  intro pins s σ H x xs v us Q I rx r ⟨z, y, e1, e2, hy, hz, q⟩
  subst e1; subst e2
  obtain ⟨u, rfl, t', rfl⟩ := Vals.one r
  obtain ⟨t, rfl⟩ := rx
  obtain ⟨m, F⟩ := I.fr
  refine PySem.W.KXpa.partition F news_all hy rfl rfl rfl hz fun D ta tb tc h' k F' N' l1 => ?_
  obtain ⟨hD, I2⟩ := I.made_tup (ws := (part3 z y).map V.str) hex F.ns F' N' l1 (.cons ⟨_, rfl⟩ (.cons ⟨_, rfl⟩ (.cons ⟨_, rfl⟩ .nil))) (by rw [sizeLine_eq]; simp [part3])
  exact ⟨.ref _, _, I2.tok k, rfl, q _ hD⟩
end L2
namespace VL
open PySem L2
section
variable {K : PySem.W.Frag} {X : Cx} {m : Bool} {e o : Expr} {te ta : TE} {va vb : VT} {pos apos : Pos} {S : List Sl} {Q : VR → List Sl → Prop}
def vCnt (va vb : VT) : VT := fun S Q => va S fun ra S1 => ∃ z, ra = .d (.str z) ∧ vb S1 fun rb S2 => ∃ y, rb = .d (.str y) ∧ Q (.d (.int (Txt.count z y))) S2
theorem ve_cnt (hK : X.K = K) (ho : VE K X false o ta va) (h : VE K X false e te vb) (hbase : attributeBase o "count" X.env (eval o X.env) = eval o X.env := by rfl)
    (hfew : ((backTo pos (starEach (e :: []) X.env)).all (fun x => !x.1) && (backToKw pos (keywordEach [] X.env)).all (fun x => x.1.isSome)
      && decide ((e :: []).length + ([] : List Keyword).length + (if ([] : List Keyword).isEmpty then 0 else 1) < 30)) = true := by rfl)
    (hline : (apos.endLine == pos.line) = true := by rfl) (hs : starEach (e :: []) X.env = (false, eval e X.env) :: starEach [] X.env := by rfl) (hplain : (backTo pos (starEach [] X.env)).any (·.1) = false := by rfl) :
    VE K X m (.Call (.Attribute o "count" apos) [e] [] pos) (tBM K "str" rCnt ta (tCons te tNil)) (vCnt va vb) := ⟨by
  have := pe_bm PySem.F.plainAttrs_str PySem.F.slot_str_count PySem.F.type_str_count mt_cnt ho.pe (pa_cons h.pe pa_nil hs) hbase hfew hline hs hplain
  rwa [hK] at this, fun H0 Z σ H S Q C k t hc => by
  refine ho.snd H0 Z σ H S _ _ k t fun x H1 ra S1 k1 st1 r1 t1 => ?_
  obtain ⟨z, rfl, t1⟩ := t1
  cases (show Rep K _ _ H1 x (.str z) from r1)
  refine ⟨rfl, h.snd H0 Z σ H1 S1 _ _ k1 t1 fun y H2 rb S2 k2 st2 r2 t2 => ?_⟩
  obtain ⟨yy, rfl, q⟩ := t2
  cases (show Rep K _ _ H2 y (.str yy) from r2)
  exact ⟨z, yy, rfl, rfl, hc _ H2 (.d (.int _)) S2 k2 (st1.trans st2) (Rep.int _) q⟩⟩
def vIdx (va vb : VT) : VT := fun S Q => va S fun ra S1 => ∃ z, ra = .d (.str z) ∧ vb S1 fun rb S2 => ∃ (y : Str) (i : Nat) (rest : List Nat), rb = .d (.str y) ∧ Builtin.Str.occurrences z y 0 z.length 1 = i :: rest ∧ Q (.d (.int (i : Nat))) S2
theorem ve_idx (hK : X.K = K) (ho : VE K X false o ta va) (h : VE K X false e te vb) (hbase : attributeBase o "index" X.env (eval o X.env) = eval o X.env := by rfl)
    (hfew : ((backTo pos (starEach (e :: []) X.env)).all (fun x => !x.1) && (backToKw pos (keywordEach [] X.env)).all (fun x => x.1.isSome)
      && decide ((e :: []).length + ([] : List Keyword).length + (if ([] : List Keyword).isEmpty then 0 else 1) < 30)) = true := by rfl)
    (hline : (apos.endLine == pos.line) = true := by rfl) (hs : starEach (e :: []) X.env = (false, eval e X.env) :: starEach [] X.env := by rfl) (hplain : (backTo pos (starEach [] X.env)).any (·.1) = false := by rfl) :
    VE K X m (.Call (.Attribute o "index" apos) [e] [] pos) (tBM K "str" rIdx ta (tCons te tNil)) (vIdx va vb) := ⟨by
  have := pe_bm PySem.F.plainAttrs_str PySem.F.slot_str_index PySem.F.type_str_index mt_idx ho.pe (pa_cons h.pe pa_nil hs) hbase hfew hline hs hplain
  rwa [hK] at this, fun H0 Z σ H S Q C k t hc => by
  refine ho.snd H0 Z σ H S _ _ k t fun x H1 ra S1 k1 st1 r1 t1 => ?_
  obtain ⟨z, rfl, t1⟩ := t1
  cases (show Rep K _ _ H1 x (.str z) from r1)
  refine ⟨rfl, h.snd H0 Z σ H1 S1 _ _ k1 t1 fun y H2 rb S2 k2 st2 r2 t2 => ?_⟩
  obtain ⟨yy, i, rest, rfl, e3, q⟩ := t2
  cases (show Rep K _ _ H2 y (.str yy) from r2)
  exact ⟨z, yy, i, rest, rfl, rfl, e3, hc _ H2 (.d (.int _)) S2 k2 (st1.trans st2) (Rep.int _) q⟩⟩
def vPart (va vb : VT) : VT := fun S Q => va S fun ra S1 => ∃ z, ra = .d (.str z) ∧ vb S1 fun rb S2 => ∃ y, rb = .d (.str y) ∧ (y.length == 0) = false ∧ z.length ≤ sizeLine ∧ Q (.d (.tup ((part3 z y).map .str))) S2
theorem ve_part (hex : X.ex = []) (hK : X.K = K) (ho : VE K X false o ta va) (h : VE K X false e te vb) (hbase : attributeBase o "partition" X.env (eval o X.env) = eval o X.env := by rfl)
    (hfew : ((backTo pos (starEach (e :: []) X.env)).all (fun x => !x.1) && (backToKw pos (keywordEach [] X.env)).all (fun x => x.1.isSome)
      && decide ((e :: []).length + ([] : List Keyword).length + (if ([] : List Keyword).isEmpty then 0 else 1) < 30)) = true := by rfl)
    (hline : (apos.endLine == pos.line) = true := by rfl) (hs : starEach (e :: []) X.env = (false, eval e X.env) :: starEach [] X.env := by rfl) (hplain : (backTo pos (starEach [] X.env)).any (·.1) = false := by rfl) :
    VE K X m (.Call (.Attribute o "partition" apos) [e] [] pos) (tBM K "str" rPart ta (tCons te tNil)) (vPart va vb) := ⟨by
  have := pe_bm PySem.F.plainAttrs_str PySem.F.slot_str_partition PySem.F.type_str_partition (mt_part hex) ho.pe (pa_cons h.pe pa_nil hs) hbase hfew hline hs hplain
  rwa [hK] at this, fun H0 Z σ H S Q C k t hc => by
  refine ho.snd H0 Z σ H S _ _ k t fun x H1 ra S1 k1 st1 r1 t1 => ?_
  obtain ⟨z, rfl, t1⟩ := t1
  cases (show Rep K _ _ H1 x (.str z) from r1)
  refine ⟨rfl, h.snd H0 Z σ H1 S1 _ _ k1 t1 fun y H2 rb S2 k2 st2 r2 t2 => ?_⟩
  obtain ⟨yy, rfl, hy, hz, q⟩ := t2
  cases (show Rep K _ _ H2 y (.str yy) from r2)
  refine ⟨z, yy, rfl, rfl, hy, hz, fun p hp => ?_⟩
  have g := upd_grow (o := .tup ((part3 z yy).map V.str)) hp
  exact hc _ _ (.d (.tup _)) S2 (k2.grow g) ((st1.trans st2).trans (.grow g)) (Rep.tup (k2.nm hp) (.inl upd_same) Reps.strs) q⟩
variable {z y : Str}
@[irreducible] def kCntA (vb : VT) (Q : VR → List Sl → Prop) : VR → List Sl → Prop := fun ra S1 => ∃ z, ra = .d (.str z) ∧ vb S1 fun rb S2 => ∃ y, rb = .d (.str y) ∧ Q (.d (.int (Txt.count z y))) S2
@[irreducible] def kCntB (z : Str) (Q : VR → List Sl → Prop) : VR → List Sl → Prop := fun rb S2 => ∃ y, rb = .d (.str y) ∧ Q (.d (.int (Txt.count z y))) S2
theorem j_cnt (h : va S (kCntA vb Q)) : vCnt va vb S Q := by unfold kCntA at h; exact h
theorem j_kCntA (h : vb S (kCntB z Q)) : kCntA vb Q (.d (.str z)) S := by unfold kCntB at h; unfold kCntA; exact ⟨z, rfl, h⟩
theorem j_kCntB (h : Q (.d (.int (Txt.count z y))) S) : kCntB z Q (.d (.str y)) S := by unfold kCntB; exact ⟨y, rfl, h⟩
@[irreducible] def kIdxA (vb : VT) (Q : VR → List Sl → Prop) : VR → List Sl → Prop := fun ra S1 => ∃ z, ra = .d (.str z) ∧ vb S1 fun rb S2 => ∃ (y : Str) (i : Nat) (rest : List Nat), rb = .d (.str y) ∧ Builtin.Str.occurrences z y 0 z.length 1 = i :: rest ∧ Q (.d (.int (i : Nat))) S2
@[irreducible] def kIdxB (z : Str) (Q : VR → List Sl → Prop) : VR → List Sl → Prop := fun rb S2 => ∃ (y : Str) (i : Nat) (rest : List Nat), rb = .d (.str y) ∧ Builtin.Str.occurrences z y 0 z.length 1 = i :: rest ∧ Q (.d (.int (i : Nat))) S2
theorem j_idx (h : va S (kIdxA vb Q)) : vIdx va vb S Q := by unfold kIdxA at h; exact h
theorem j_kIdxA (h : vb S (kIdxB z Q)) : kIdxA vb Q (.d (.str z)) S := by unfold kIdxB at h; unfold kIdxA; exact ⟨z, rfl, h⟩
theorem j_kIdxB {i : Nat} {rest : List Nat} (e : Builtin.Str.occurrences z y 0 z.length 1 = i :: rest) (h : Q (.d (.int (i : Nat))) S) : kIdxB z Q (.d (.str y)) S := by unfold kIdxB; exact ⟨y, i, rest, rfl, e, h⟩
@[irreducible] def kPartA (vb : VT) (Q : VR → List Sl → Prop) : VR → List Sl → Prop := fun ra S1 => ∃ z, ra = .d (.str z) ∧ vb S1 fun rb S2 => ∃ y, rb = .d (.str y) ∧ (y.length == 0) = false ∧ z.length ≤ sizeLine ∧ Q (.d (.tup ((part3 z y).map .str))) S2
@[irreducible] def kPartB (z : Str) (Q : VR → List Sl → Prop) : VR → List Sl → Prop := fun rb S2 => ∃ y, rb = .d (.str y) ∧ (y.length == 0) = false ∧ z.length ≤ sizeLine ∧ Q (.d (.tup ((part3 z y).map .str))) S2
theorem j_part (h : va S (kPartA vb Q)) : vPart va vb S Q := by unfold kPartA at h; exact h
theorem j_kPartA (h : vb S (kPartB z Q)) : kPartA vb Q (.d (.str z)) S := by unfold kPartB at h; unfold kPartA; exact ⟨z, rfl, h⟩
theorem j_kPartB {a b c : Str} (hy : (y.length == 0) = false) (hl : z.length ≤ sizeLine) (e : part3 z y = [a, b, c]) (h : Q (.d (.tup [.str a, .str b, .str c])) S) : kPartB z Q (.d (.str y)) S := by unfold kPartB; exact ⟨y, rfl, hy, hl, by rw [e]; exact h⟩
end
end VL
end
section
set_option maxHeartbeats 4000000
namespace L2
open PySem PySem.Spec PyProof.Rows
section
variable {X : Cx}
def rGeS : R2 := fun x y H Q => ∃ i j, x = .str i ∧ y = .str j ∧ Q (.bl (!decide (i.cps.toList < j.cps.toList))) H
theorem op_ge_str : OpR X (compareOp .GtE) rGeS := by
  intro pins s σ H x y v u Q I rx ry h
  obtain ⟨i, j, rfl, rfl, q⟩ := h
  obtain ⟨t, rfl⟩ := rx
  obtain ⟨t', rfl⟩ := ry
  exact PySem.P.ge_str (fin_bl I q rfl)
def rRevS : V → Hp → VK → Prop := fun x H Q => ∃ z : Str, x = .str z ∧ z.length ≤ sizeLine ∧ ∀ y : Str, y.length ≤ z.length → Q (.str y) H
variable {e : Expr} {te : TE} {p2 pos : Pos}
theorem pe_revS {j : Nat} {q1 q2 : Pos} (he : PE X e te) (hst : PE X (.UnaryOp .USub (.Constant (.int 1) j q1) q2) (fun _ H Q => Q (.int (-1)) H)) : PE X (.Subscript e (.Slice none none (some (.UnaryOp .USub (.Constant (.int 1) j q1) q2)) p2) pos) (fun σ H Q => te σ H fun x H1 => rRevS x H1 Q) := by
  intro pins s σ H Q I h
  refine Subscript_ (thn (he pins s σ H _ I h) fun v s1 ⟨x, H1, I1, r1, q1⟩ => ?_)
  refine wpAny_Slice ?_
  rw [evalPart_none]
  apply wpAny_pure
  apply wpAny_pure
  rw [evalPart_some]
  refine thn (hst pins s1 σ H1 (fun y H2 => y = .int (-1) ∧ H2 = H1) I1 ⟨rfl, rfl⟩) fun vk s3 ⟨y, H3, I3, r3, e3, e4⟩ => ?_
  subst e3; subst e4
  obtain ⟨t, rfl⟩ := r3
  obtain ⟨z, rfl, hz, q⟩ := q1
  obtain ⟨tz, rfl⟩ := r1
  have I4 : Inv X pins σ H3 { s3 with heap := s3.heap.push { cls := .type "slice", data := .fields #[.none, .none, .int (-1) t] } } := I3.kept (t' := s3.toks) fun b ob q => Heap.get?_push_of_some _ q
  show wpAny (model X.prog X.w) X.A (subscriptTail e (.Slice none none (some (.UnaryOp .USub (.Constant (.int 1) j q1) q2)) p2) (.str z tz) (.ref s3.heap.objs.size)) (EP X pins σ Q) X.xe { s3 with heap := s3.heap.push { cls := .type "slice", data := .fields #[.none, .none, .int (-1) t] } }
  refine tail_any (ops := [.str z tz, .ref s3.heap.objs.size]) (typeIs_str _ _ _) slot_str_getitem.lookup ?_ (by with_unfolding_all rfl)
  refine wpAny_getItem_str_slice (l := none) (u := none) (st := some (-1, t)) ⟨_, Heap.get?_push_size _ rfl, rfl, rfl⟩ rfl ?_
  have hl : (⟨((slicePicked z none none (some (-1, t))).filterMap (z.cps[·]?)).toArray⟩ : Str).length ≤ z.length := by
    show (((slicePicked z none none (some (-1, t))).filterMap (z.cps[·]?)).toArray).size ≤ _
    rw [List.size_toArray]
    exact Nat.le_trans (List.length_filterMap_le _ _) (sliceIndicesBy_le none none (-1) (by decide) z.length)
  have e0 : sliceMade z tz none none (some (-1, t)) = .str ⟨((slicePicked z none none (some (-1, t))).filterMap (z.cps[·]?)).toArray⟩ := by
    unfold sliceMade
    rw [if_neg (by simp)]
  rw [e0]
  exact ⟨Nat.le_trans hl hz, ⟨.str _, H3, I4.tok _, ⟨_, rfl⟩, q _ hl⟩⟩
end
end L2
namespace VL
open PySem L2
section
variable {K : PySem.W.Frag} {X : Cx} {m : Bool} {e : Expr} {te : TE} {va : VT} {p2 pos : Pos} {S : List Sl} {Q : VR → List Sl → Prop}
def wGeS : D → D → (D → Prop) → Prop := fun d1 d2 q => ∃ i j : Str, d1 = .str i ∧ d2 = .str j ∧ q (.bl (!decide (i.cps.toList < j.cps.toList)))
theorem l_geS : Lift2 K rGeS wGeS := by
  rintro x y H d1 d2 q Cc r1 r2 ⟨i, j, rfl, rfl, h⟩ hc
  cases r1; cases r2
  exact ⟨i, j, rfl, rfl, hc _ _ h fun _ _ => .bl _⟩
theorem j_geS {x y : Str} {q : D → Prop} (h : q (.bl (!decide (x.cps.toList < y.cps.toList)))) : wGeS (.str x) (.str y) q := ⟨x, y, rfl, rfl, h⟩
def vRevS (va : VT) : VT := fun S Q => va S fun r S1 => ∃ z : Str, r = .d (.str z) ∧ z.length ≤ sizeLine ∧ ∀ y : Str, y.length ≤ z.length → Q (.d (.str y)) S1
theorem ve_revS {j : Nat} {q1 q2 : Pos} (h : VE K X false e te va) : VE K X m (.Subscript e (.Slice none none (some (.UnaryOp .USub (.Constant (.int 1) j q1) q2)) p2) pos) (fun σ H Q => te σ H fun x H1 => rRevS x H1 Q) (vRevS va) :=
  ⟨pe_revS h.pe pe_m1, fun H0 Z σ H S Q C k t hc => h.snd H0 Z σ H S _ _ k t fun v H1 r S1 k1 st1 rr zq1 => by
    obtain ⟨z, rfl, hz, q⟩ := zq1
    cases (show Rep K _ _ H1 v (.str z) from rr)
    exact ⟨z, rfl, hz, fun y hy => hc _ H1 (.d (.str y)) S1 k1 st1 (Rep.str _) (q y hy)⟩⟩
@[irreducible] def kRevS (Q : VR → List Sl → Prop) : VR → List Sl → Prop := fun r S1 => ∃ z : Str, r = .d (.str z) ∧ z.length ≤ sizeLine ∧ ∀ y : Str, y.length ≤ z.length → Q (.d (.str y)) S1
theorem j_revS (h : va S (kRevS Q)) : vRevS va S Q := by unfold kRevS at h; exact h
theorem j_kRevS {z : Str} (hl : z.length ≤ sizeLine) (h : ∀ y : Str, y.length ≤ z.length → Q (.d (.str y)) S) : kRevS Q (.d (.str z)) S := by unfold kRevS; exact ⟨z, rfl, hl, h⟩
end
end VL
end
section
set_option maxHeartbeats 4000000
namespace VL
open PySem L2
section
variable {K : PySem.W.Frag} {X : Cx}
theorem o_notInS (hK : X.K = K) : OpR X (compareOp .NotIn) (rIn K true) := by subst hK; exact op_notIn_seq
theorem inV_strs {z : Str} : ∀ ws : List Str, inV (.str z) (ws.map V.str) = decide (z ∈ ws)
  | [] => by simp [inV]
  | w :: r => by
    have ih := inV_strs (z := z) r
    unfold inV at ih ⊢
    rw [List.map_cons, List.any_cons, ih]
    have e : eqV (V.str w) (V.str z) = decide (w = z) := by first | rfl | simp [eqV]
    rw [e]
    by_cases h : w = z
    · subst h; simp
    · simp [h, Ne.symm h]
def wInT (neg : Bool) : D → D → (D → Prop) → Prop := fun d1 d2 q => ∃ (z : Str) (ws : List Str), d1 = .str z ∧ (d2 = .lst (ws.map .str) ∨ d2 = .tup (ws.map .str)) ∧ q (.bl (if neg then !decide (z ∈ ws) else decide (z ∈ ws)))
theorem l_inT {neg : Bool} : Lift2 K (rIn K neg) (wInT neg) := by
  rintro x y H d1 d2 q Cc r1 r2 ⟨z, ws, rfl, e, h⟩ hc
  cases r1
  have fl : ∀ ws : List Str, (ws.map V.str).all flatV = true := fun ws => by simp [flatV]
  rcases e with rfl | rfl
  · obtain ⟨a, vs, rfl, hq, rr⟩ := r2.sqL
    cases Reps.toStrs rr
    exact ⟨a, _, rfl, .inl hq, rfl, fl ws, by rw [inV_strs]; exact hc _ _ h fun _ _ => .bl _⟩
  · obtain ⟨a, vs, rfl, hq, rr⟩ := Rep.sqT r2
    cases Reps.toStrs rr
    exact ⟨a, _, rfl, .inr hq, rfl, fl ws, by rw [inV_strs]; exact hc _ _ h fun _ _ => .bl _⟩
theorem j_niL {z : Str} {ws : List Str} {q : D → Prop} {b : Bool} (e : decide (z ∈ ws) = b) (h : q (.bl (!b))) : wInT true (.str z) (.lst (ws.map .str)) q := ⟨z, ws, rfl, .inl rfl, by rw [if_pos rfl, e]; exact h⟩
theorem j_niT {z : Str} {ws : List Str} {q : D → Prop} {b : Bool} (e : decide (z ∈ ws) = b) (h : q (.bl (!b))) : wInT true (.str z) (.tup (ws.map .str)) q := ⟨z, ws, rfl, .inr rfl, by rw [if_pos rfl, e]; exact h⟩
end
end VL
end
section
set_option maxHeartbeats 4000000
namespace VL
open PySem L2
section
variable {S : List Sl} {Q : VR → List Sl → Prop} {q : D → Prop} {va vb : VT} {x y z : Str}
@[irreducible] def kIxSA (vb : VT) (Q : VR → List Sl → Prop) : VR → List Sl → Prop := fun ra S1 => vb S1 fun rb S2 => ∃ (z : Str) (i : Int) (c : Nat), ra = .d (.str z) ∧ rb = .d (.int i) ∧ z.length ≤ sizeLine ∧ atI z.cps.toList i = some c ∧ Q (.d (.str ⟨#[c]⟩)) S2
theorem j_ixS (h : va S (kIxSA vb Q)) : vIxS va vb S Q := by unfold kIxSA at h; exact h
@[irreducible] def kIxSC (z : Str) (Q : VR → List Sl → Prop) : VR → List Sl → Prop := fun rb S2 => ∃ (z' : Str) (i : Int) (c : Nat), VR.d (.str z) = .d (.str z') ∧ rb = .d (.int i) ∧ z'.length ≤ sizeLine ∧ atI z'.cps.toList i = some c ∧ Q (.d (.str ⟨#[c]⟩)) S2
theorem j_kIxSA (h : vb S (kIxSC z Q)) : kIxSA vb Q (.d (.str z)) S := by unfold kIxSC at h; unfold kIxSA; exact h
theorem j_kIxSC {i : Int} {c : Nat} (hl : z.length ≤ sizeLine) (e : atI z.cps.toList i = some c) (h : Q (.d (.str ⟨#[c]⟩)) S) : kIxSC z Q (.d (.int i)) S := by unfold kIxSC; exact ⟨z, i, c, rfl, rfl, hl, e, h⟩
theorem j_notInS {b : Bool} (e : inS x y = b) (h : q (.bl (!b))) : wInS true (.str x) (.str y) q := ⟨x, y, rfl, rfl, by rw [if_pos rfl, e]; exact h⟩
end
end VL
end
section
set_option maxHeartbeats 4000000
namespace ST
open PySem PySem.Spec PySem.SetTable PyProof.Rows L2
section
variable {prog : Program} {w : World} {A : Around} {E : Value → Shared → Prop} {s : Shared} {led : Bool} {a : Addr} {o : Obj} {es : Array (Int × Value)} {ep : Nat} {t : SetTable}
theorem covers {ord : Array Nat} {n : Nat} (h : ord.toList.Perm (List.range n)) : coversAll ord n = true := List.isPerm_iff.mpr h
theorem relay_all (tb : Tb t (es.toList.map (·.1))) (h0 : 0 < es.size) (h1 : es.size ≤ 1001) :
    ∃ es' t', relayAll t es (grown es.size) = (es', t', false) ∧ es'.toList.Perm es.toList ∧ Tb t' (es'.toList.map (·.1)) ∧ es'.size * 5 < t'.mask * 3 ∧ (t'.plain = t.plain ∧ t'.led = t.led) ∧ es'.size = es.size := by
  have gr : grown es.size = es.size * 4 := by unfold grown; rw [if_neg (by lia)]
  obtain ⟨⟨k, a1⟩, a2, a3⟩ := above_spec (n := grown es.size) (Nat.lt_of_le_of_lt (show grown es.size ≤ 4004 by lia) (by decide))
  have hk : sizeAbove (grown es.size) - 1 + 1 = 2 ^ k := by lia
  have hsz : (es.map (·.1)).size = es.size := by simp
  obtain ⟨t', ord, e1, e2, e3, e4, e5, e6, e7⟩ := laid_eq hk t.finger (t.movedTo (sizeAbove (grown es.size) - 1)) t.led t.plain (es.map (·.1)) (by rw [hsz]; lia)
  rw [hsz] at e6
  have mem : ∀ i ∈ ord.toList, i < es.size := fun i hi => List.mem_range.mp (e6.mem_iff.mp hi)
  have eo : (ord.filterMap (es[·]?)).toList = ord.toList.filterMap (es.toList[·]?) := by
    rw [Array.toList_filterMap]
    congr 1
    funext i
    simp
  have esz : (ord.filterMap (es[·]?)).size = es.size := by
    rw [← Array.length_toList, eo, ord_len _ _ fun i hi => by simpa using mem i hi, e6.length_eq, List.length_range]
  have er : t.relaid (es.map (·.1)) (grown es.size) = some (t', ord) := e1
  have hh : (ord.filterMap (es[·]?)).toList.map (·.1) = ord.toList.map fun i => (es.map (·.1)).getD i 0 := by
    rw [eo, filterMap_ord es.toList _ fun i hi => by simpa using mem i hi]
    rw [ord_hash _ _ fun i hi => by simpa using mem i hi]
    congr 1
    funext i
    congr 1
    apply Array.ext'
    simp
  have pm : (ord.filterMap (es[·]?)).toList.Perm es.toList := by rw [eo]; exact ord_perm (by simpa using e6)
  have T' : Tb t' ((ord.filterMap (es[·]?)).toList.map (·.1)) := by rw [hh]; exact e7
  have few : (ord.filterMap (es[·]?)).size * 5 < t'.mask * 3 := by rw [esz, e2]; lia
  have ps : t'.place.size = es.size := by
    have h3 := T'.len
    have h2 := pm.length_eq
    rw [List.length_map, h2] at h3
    simpa using h3
  have ft : t'.fits (ord.filterMap (es[·]?)).size = true := by
    unfold SetTable.fits SetTable.fill
    rw [T'.nd]
    simp only [Bool.and_eq_true, beq_iff_eq, decide_eq_true_eq, Array.size_empty]
    lia
  refine ⟨ord.filterMap (es[·]?), t', ?_, pm, T', few, ⟨e4, e3⟩, esz⟩
  unfold relayAll
  rw [er]
  dsimp only
  rw [covers e6, ft]
  rfl
theorem add_intN (S : SetW led s.heap a o es ep t) (hel : ElemsOf (intKind prog w) es.toList) (nd : (ksI es).Nodup) (hz : es.size ≤ 1000) {n : Int} {tk : Tok} {Q : Bool → Shared → Prop}
    (q : ∀ r h' o' es' ep' t', Heap.SameBut a s.heap h' → SetW led h' a o' es' ep' t' → ElemsOf (intKind prog w) es'.toList → (ksI es').Nodup → (∀ k, k ∈ ksI es' ↔ k ∈ ksI es ∨ k = n) → es'.size ≤ es.size + 1 → Q r { s with heap := h' }) :
    wpAny (model prog w) A (setAddHashed a (.int n tk) (hashInt n)) Q E s := by
  have hb : es.size < scanBound := by unfold scanBound; omega
  unfold setAddHashed setAddHashedIn
  refine wpAny_holding (wpAny_bind (wpAny_setState_of S.ob S.da S.fits ?_))
  dsimp only
  rw [byScan_of (x := .int n tk) (by rfl) hb hel]
  simp only [↓reduceIte]
  unfold setAddByScan
  refine wpAny_bind (wpAny_bind (wpAny_rule (wpAny_bind (wpAny_setScan_of (knd := intKind prog w) (k := n) (intKind_is _ _ _ _) S.ob S.da S.fits hel ?_))))
  cases hr : List.findIdx? (fun e => (intKind prog w).is n e.2) es.toList with
  | some j =>
    dsimp only
    obtain ⟨hj, hpj, _⟩ := List.findIdx?_eq_some_iff_getElem.mp hr
    have hin : n ∈ ksI es := (elem_num hel).mp ⟨es.toList[j], List.getElem_mem hj, hpj⟩
    refine wpAny_pure (wpAny_pure ?_)
    exact q false s.heap o es ep t (Heap.SameBut.refl _ _) S hel nd (fun k => ⟨.inl, fun z => z.elim id fun e => e ▸ hin⟩) (by omega)
  | none =>
    dsimp only
    have hout : n ∉ ksI es := fun hin => by
      obtain ⟨e, he, hp⟩ := (elem_num hel).mpr hin
      have := List.findIdx?_eq_none_iff.mp hr e he
      rw [hp] at this; exact Bool.noConfusion this
    have few := S.few
    obtain ⟨kk, hkk⟩ := S.tb.pow
    obtain ⟨y, y1, y2⟩ := free_place (mask := t.mask) (g := t.place.toList) (by have := S.psize; simp; omega)
    obtain ⟨d, d1, d2⟩ := pth_all (b := bits (hashInt n)) hkk (bits_lt _) y1
    obtain ⟨u, u1, u2, u3, u4⟩ := probe_at S.tb (fun _ => hashInt n + 1) (hashInt n) (s := 0) (d := d) (by rw [Nat.zero_add, d2]; exact y2) (by unfold turns; omega)
    have u3' : ∀ v, v < u → (pth t.mask (bits (hashInt n)) v).j ∈ t.place.toList := fun v hv => let ⟨i, e, _⟩ := u3 v (Nat.zero_le _) hv; pl_mem e
    rcases u4 with ⟨n1, n2⟩ | ⟨i, _, c2, _⟩
    · have T1 := S.tb.put (h := hashInt n) n1 u3'
      have fs : t.freeSlot (hashInt n) = some ((pth t.mask (bits (hashInt n)) u).j, false) := by
        unfold SetTable.freeSlot
        rw [start_eq, n2]
        rfl
      generalize hp : below t.place (pth t.mask (bits (hashInt n)) u).j = p at *
      have e1 : (insertAt es p (hashInt n, Value.int n tk)).toList = es.toList.take p ++ (hashInt n, .int n tk) :: es.toList.drop p := insertAt_list _ _ _
      have sz1 : (insertAt es p (hashInt n, Value.int n tk)).size = es.size + 1 := by rw [← Array.length_toList, e1, len_ins]; simp
      have ps1 : (insertAt t.place p (pth t.mask (bits (hashInt n)) u).j).size = es.size + 1 := by
        rw [← Array.length_toList, insertAt_list, len_ins]; have := S.psize; simp; omega
      have ft : ({ t with place := insertAt t.place p (pth t.mask (bits (hashInt n)) u).j } : SetTable).fits (es.size + 1) = true := by
        show ((insertAt t.place p (pth t.mask (bits (hashInt n)) u).j).size == es.size + 1 && decide ((insertAt t.place p (pth t.mask (bits (hashInt n)) u).j).size + t.dummies.size ≤ t.mask)) = true
        rw [ps1, S.tb.nd, beq_self_eq_true, Bool.true_and]
        refine decide_eq_true ?_
        show es.size + 1 + 0 ≤ t.mask
        omega
      have ly : layNew t es (hashInt n) (.int n tk) = (insertAt es p (hashInt n, .int n tk), { t with place := insertAt t.place p (pth t.mask (bits (hashInt n)) u).j }, false, false) := by
        unfold layNew
        rw [fs]
        dsimp only
        rw [put_eq S.tb.nd, hp]
        dsimp only
        unfold SetTable.orStandIn
        rw [sz1, ft]
        rfl
      rw [ly]
      dsimp only
      refine wpAny_bind (wpAny_pure ?_)
      rw [if_pos S.pl]
      refine wpAny_bind (int_byv _ ?_)
      simp only [if_true]
      refine wpAny_bind (wpAny_storeSet_of S.ob S.da ?_ (by rw [sz1, sizeLine_eq]; omega))
      have st := stored (es' := insertAt es p (hashInt n, Value.int n tk)) (t' := { t with place := insertAt t.place p (pth t.mask (bits (hashInt n)) u).j }) S.ob S.da
      simp only [Bool.not_false, Bool.true_and]
      have ek : ksI (insertAt es p (hashInt n, .int n tk)) = (ksI es).take p ++ n :: (ksI es).drop p := by
        unfold ksI
        rw [e1, List.map_append, List.map_cons, List.map_take, List.map_drop]; rfl
      have el1 : ElemsOf (intKind prog w) (insertAt es p (hashInt n, Value.int n tk)).toList := fun e he => by
        rw [e1] at he
        rcases mem_ins.mp he with rfl | he
        · exact ⟨⟨n, intKind_is _ _ _ _, rfl⟩, rfl⟩
        · exact hel e he
      have nd1 : (ksI (insertAt es p (hashInt n, Value.int n tk))).Nodup := by
        rw [ek]
        have : ((ksI es).take p ++ n :: (ksI es).drop p).Perm (n :: ((ksI es).take p ++ (ksI es).drop p)) := List.perm_middle
        rw [List.take_append_drop] at this
        exact this.nodup_iff.mpr (List.nodup_cons.mpr ⟨hout, nd⟩)
      have ky1 : ∀ k, k ∈ ksI (insertAt es p (hashInt n, Value.int n tk)) ↔ k ∈ ksI es ∨ k = n := fun k => by rw [ek, mem_ins]; exact or_comm
      have tb1 : Tb ({ t with place := insertAt t.place p (pth t.mask (bits (hashInt n)) u).j } : SetTable) ((insertAt es p (hashInt n, Value.int n tk)).toList.map (·.1)) := by
        rw [e1, List.map_append, List.map_cons, List.map_take, List.map_drop]; exact T1
      by_cases hf : ({ t with place := insertAt t.place p (pth t.mask (bits (hashInt n)) u).j } : SetTable).tooFull = true
      · rw [if_pos hf]
        obtain ⟨es2, t2, r1, r2, r3, r4, r5, r6⟩ := relay_all (es := insertAt es p (hashInt n, Value.int n tk)) tb1 (by rw [sz1]; omega) (by rw [sz1]; omega)
        have mm : ∀ e, e ∈ es2.toList ↔ e ∈ (insertAt es p (hashInt n, Value.int n tk)).toList := fun e => r2.mem_iff
        rw [r1]
        dsimp only
        refine wpAny_bind (wpAny_pure ?_)
        refine wpAny_bind (wpAny_storeSet_of st rfl ?_ (by rw [r6, sz1, sizeLine_eq]; omega))
        have st2 := stored (es' := es2) (t' := t2) st rfl
        refine wpAny_pure (wpAny_pure ?_)
        refine q true _ _ _ _ _ ((Heap.SameBut.update _ _ _).trans (Heap.SameBut.update _ _ _)) ⟨st2, S.ex, rfl, r3, r4, by rw [r5.1]; exact S.pl, by rw [r5.2]; exact S.ld⟩ (fun e he => el1 e ((mm e).mp he)) ((r2.map _).nodup_iff.mpr nd1) (fun k => ?_) (by rw [r6, sz1]; omega)
        rw [← ky1]
        exact (r2.map (fun e : Int × Value => numOf e.2)).mem_iff
      · rw [if_neg hf]
        refine wpAny_pure (wpAny_pure ?_)
        refine q true _ _ _ _ _ (Heap.SameBut.update _ _ _) ⟨st, S.ex, rfl, tb1, ?_, S.pl, S.ld⟩ el1 nd1 ky1 (by omega)
        unfold SetTable.tooFull SetTable.fill at hf
        simp only [decide_eq_true_eq, ps1, S.tb.nd, Array.size_empty] at hf
        rw [sz1]
        show (es.size + 1) * 5 < t.mask * 3
        omega
    · exact absurd c2 (by omega)
end
end ST
end
section
set_option maxHeartbeats 4000000
namespace ST
open PySem PySem.Spec PySem.SetTable PyProof.Rows L2
section
variable {prog : Program} {w : World} {A : Around} {R : Result → Shared → Prop} {I a : Addr} {fp wr : List Addr} {G : Array GenState → Array GenState → Prop} {n : Nat} {P : Nat → Value → Prop} {St : Nat → Shared → Prop} {led : Bool}
structure SIN (prog : Program) (w : World) (led : Bool) (h : Heap) (a : Addr) (o : Obj) (es : Array (Int × Value)) (ep : Nat) (t : SetTable) (ks : List Int) : Prop where
  tab : SetW led h a o es ep t
  el : ElemsOf (intKind prog w) es.toList
  nd : (ksI es).Nodup
  kys : ∀ k, k ∈ ksI es ↔ k ∈ ks
  sz : es.size ≤ ks.length
theorem SIN.at {h h' : Heap} {o : Obj} {es : Array (Int × Value)} {ep : Nat} {t : SetTable} {ks : List Int} (S : SIN prog w led h a o es ep t ks) (e : h'.get? a = some o) : SIN prog w led h' a o es ep t ks :=
  ⟨⟨e, S.tab.ex, S.tab.da, S.tab.tb, S.tab.few, S.tab.pl, S.tab.ld⟩, S.el, S.nd, S.kys, S.sz⟩
theorem upd_intsN (W : WalksS prog w A.in1 I fp wr G n P St) (haf : a ∉ fp) {ns : List Int} (hkn : ns.length = n) (hP : ∀ i v, P i v → ∃ k tk, ns[i]? = some k ∧ v = .int k tk) (hn : n ≤ 63) :
    ∀ (m i : Nat) (s : Shared) (o : Obj) (es : Array (Int × Value)) (ep : Nat) (t : SetTable), n - i = m → i ≤ n → St i s → SIN prog w led s.heap a o es ep t (ns.take i) →
      (∀ s' o es ep t, Moved (a :: wr) G s s' → SIN prog w led s'.heap a o es ep t ns → R (.ok (.ret .none)) s') →
      codeAny (model prog w) A (.builtin "set.update.loop" ⟨[.ref a, .ref I], []⟩) R s := by
  have haw : a ∉ wr := fun z => haf (W.sub _ z)
  have sub : ∀ b ∈ wr, b ∈ a :: wr := fun b hb => List.mem_cons_of_mem _ hb
  intro m
  induction m with
  | zero =>
    intro i s o es ep t hm hi st S fin
    obtain rfl : i = n := by omega
    refine codeAny_builtin F.entry_set_update_loop ?_
    rw [Around.under_plainId F.plain_set_update_loop _]
    show wpAny _ A.in1 (pyNext (.ref I) >>= _) _ _ s
    refine wpAny_bind (W.done s _ _ st fun s' mv => wpAny_pure ?_)
    rw [← hkn, List.take_length] at S
    exact fin s' o es ep t (mv.mono sub) (S.at (mv.heap a o haw S.tab.ob))
  | succ m ih =>
    intro i s o es ep t hm hi st S fin
    have lt : i < n := by omega
    refine codeAny_builtin F.entry_set_update_loop ?_
    rw [Around.under_plainId F.plain_set_update_loop _]
    show wpAny _ A.in1 (pyNext (.ref I) >>= _) _ _ s
    refine wpAny_bind (W.item i s _ _ lt st fun v s' hv st' mv => ?_)
    have mv' := mv.mono sub
    obtain ⟨k, tk, hk, rfl⟩ := hP i v hv
    have S' := S.at (mv.heap a o haw S.tab.ob)
    have zl := S.sz
    rw [List.length_take] at zl
    show wpAny _ A.in1 (holding [Value.int k tk] (setAdd a (.int k tk)) >>= _) _ _ s'
    refine wpAny_bind (wpAny_holding ?_)
    unfold setAdd
    refine wpAny_holding (wpAny_bind ((intKind prog w).pyHash (k := k) (intKind_is _ _ _ _) ?_))
    refine add_intN (s := { s' with toks := s'.toks + 1 }) S'.tab S'.el S'.nd (by omega) fun r h' o' es' ep' t' sb T1 T2 T3 T5 T6 => ?_
    have step : Moved (a :: wr) G s' { s' with heap := h', toks := s'.toks + 1 } := (Moved.refl W.grefl).then_heap (Nat.le_add_right _ _) fun c oc hc e => (sb.2 c (fun z => hc (by rw [z]; exact List.mem_cons_self))).trans e
    have mv2 := Moved.trans W.gtrans mv' step
    refine wpAny_pure ⟨plainId_quiet F.plain_set_update_loop _, ih (i + 1) _ o' es' ep' t' (by omega) lt (W.frame _ s' _ _ st' (Nat.le_add_right _ _) fun c hc oc e => (sb.2 c (fun z => haf (by rw [← z]; exact hc))).trans e) ⟨T1, T2, T3, fun c => ?_, ?_⟩ fun s2 o2 es2 ep2 t2 mv3 S3 => fin s2 o2 es2 ep2 t2 (Moved.trans W.gtrans mv2 mv3) S3⟩
    · rw [T5, S.kys, List.take_succ, hk, List.mem_append]; simp
    · rw [List.take_succ, hk, List.length_append, List.length_take]
      simp; omega
end
section
variable {prog : Program} {w : World} {A : Around} {E : Value → Shared → Prop} {s : Shared}
theorem set_intsN {l : Addr} {items : Array Value} {ns : List Int} {Q : Value → Shared → Prop} (hh : A.handled = none) (hl : s.heap.IsList l items) (hi : IntsAre items.toList ns) (hb : ns.length ≤ 63)
    (h : ∀ (h' : Heap) (tk : Nat) o es ep t, (∀ b o, s.heap.get? b = some o → h'.get? b = some o) → SIN prog w (ledOf w) h' s.heap.objs.size o es ep t ns → Q (.ref s.heap.objs.size) { s with heap := h', toks := tk }) :
    wpAny (model prog w) A (call (.type "set") [.ref l]) Q E s := by
  have hlen : ns.length = items.size := by have := IntsAre.length hi; simpa using this.symm
  refine type_called F.called_set (F.typeCall_set_1 _) (set_made (Q1 := fun v s1 => v = .ref s.heap.objs.size ∧ s1 = { s with heap := s.heap.push (noSet (ledOf w)) }) _ ⟨rfl, rfl⟩) ?_
  rintro v s1 ⟨rfl, rfl⟩
  have e0 : (s.heap.push (noSet (ledOf w))).get? s.heap.objs.size = some (noSet (ledOf w)) := Heap.get?_push_size _ rfl
  have llt : l < s.heap.objs.size := by obtain ⟨o, e, _⟩ := hl; exact Heap.lt_size e
  refine ⟨⟨_, e0, rfl⟩, codeAny_call_builtin F.called_set.init.plain F.entry_set_init (check_set_init_1 ⟨_, e0, rfl⟩ ?_)⟩
  have hl1 := hl.push (noSet (ledOf w))
  have ty : Shared.TypeIs { s with heap := s.heap.push (noSet (ledOf w)) } (.ref s.heap.objs.size) "set" := ⟨_, e0, rfl⟩
  have tt : Shared.TypeIs { s with heap := s.heap.push (noSet (ledOf w)) } (.ref l) "list" := hl1.typeIs
  have n1 : isSubtype (.type "list") (.type "set") = pure false := by rw [isSubtype_type]; kernel_rfl
  have n2 : isSubtype (.type "list") (.type "frozenset") = pure false := by rw [isSubtype_type]; kernel_rfl
  simp only [Builtin.«set.__init__», noKeywords, Builtin.Frozenset.updateFrom]
  wp_walk using wpAny_pyIter_list hl1
  have W := Walks.list (prog := prog) (w := w) (A := A.in1.in1.in1) (by simp [hh]) (s.heap.push (noSet (ledOf w))).objs.size l (by rw [Heap.size_push]; exact Nat.ne_of_lt (Nat.lt_succ_of_lt llt)) items
  refine upd_intsN W.toS (a := s.heap.objs.size) ?_ hlen (fun i v e => ?_) (by omega) _ 0 _ (noSet (ledOf w)) #[] 0 _ rfl (Nat.zero_le _) ⟨⟨_, Heap.get?_push_size _ rfl, rfl, rfl⟩, hl1.push _⟩ ⟨⟨Heap.get?_push_of_some _ e0, ⟨rfl, rfl, rfl⟩, rfl, Tb.fresh _ _ _, show 0 * 5 < 7 * 3 by decide, rfl, rfl⟩, fun e he => absurd he List.not_mem_nil, List.nodup_nil, fun k => by simp [ksI], by simp⟩ fun s' o es ep t mv S' => wpAny_pure (wpAny_pure ⟨rfl, ?_⟩)
  · rw [Heap.size_push]
    simp only [List.mem_cons, List.not_mem_nil, or_false, not_or]
    exact ⟨Nat.ne_of_lt (Nat.lt_succ_self _), Nat.ne_of_gt llt⟩
  · obtain ⟨tk, q⟩ := hi.int_at i v (by rwa [Array.getElem?_toList])
    have hi' : i < ns.length := by rw [hlen]; exact (Array.getElem?_eq_some_iff.mp e).1
    exact ⟨ns.getD i 0, tk, by rw [List.getD_eq_getElem?_getD, List.getElem?_eq_getElem hi']; rfl, q⟩
  · rw [mv.eq_with] at S' ⊢
    refine h s'.heap s'.toks o es ep t (fun b o e => ?_) S'
    have lt := Heap.lt_size e
    refine mv.heap b o ?_ (Heap.get?_push_of_some _ (Heap.get?_push_of_some _ e))
    simp only [List.mem_cons, List.not_mem_nil, or_false, Heap.size_push]
    exact fun z => z.elim (fun q => Nat.ne_of_lt lt q) fun q => Nat.ne_of_lt (Nat.lt_succ_of_lt lt) q
end
end ST
namespace L2
open PySem PySem.Spec PyProof.Rows ST
def SeNP (w : World) (a : Addr) (ns : List Int) (h : Heap) : Prop := ∃ o es ep t, SetW (ledOf w) h a o es ep t ∧ (∀ e ∈ es.toList, ∃ n tk, e.2 = .int n tk) ∧ ksI es = ns ∧ ns.length ≤ 63
def SeNO (w : World) (a : Addr) (ns : List Int) : HO := .ext (SeNP w a ns)
theorem SeNP.ok {P : Program} {w w' : World} {H : Hp} {h : Heap} {a : Addr} {ns : List Int} (d : SeNP w' a ns h) : ObjOk P w H h a (SeNO w' a ns) :=
  ⟨d, let ⟨o, _, _, _, S, _⟩ := d; ⟨o, S.ob⟩, fun h1 h2 ⟨o, es, ep, t, S, r⟩ k => ⟨o, es, ep, t, ⟨k o S.ob, S.ex, S.da, S.tb, S.few, S.pl, S.ld⟩, r⟩⟩
def rSeN (X : Cx) : List V → Hp → VK → Prop := fun xs H Q => ∃ (l : Addr) (ns : List Int), xs = [.ref l] ∧ SqL X.K H l (ns.map V.int) ∧ ns.length ≤ 63 ∧ ∀ (a : Addr) (ks : List Int), H a = none → ks.Nodup → (∀ k, k ∈ ks ↔ k ∈ ns) → Q (.ref a) (upd H a (SeNO X.w a ks))
theorem call_seN {X : Cx} (hc : X.calm = true) : CallR X (.type "set") (rSeN X) := by
  intro pins s σ H xs us Q I r h
  obtain ⟨l, ns, rfl, hl, hn, q⟩ := h
  obtain ⟨u, rfl, rx⟩ := vals1 r
  cases rx
  obtain ⟨vs, rv, pl, hz⟩ := I.list hl
  refine set_intsN (I.ok.hd hc) pl.isList (by simpa using intsAre_of rv) hn fun h' tk o es ep t old S => ?_
  refine ⟨.ref s.heap.objs.size, _, I.laid (t' := tk) old (Nat.le_refl _) (SeNP.ok ⟨o, es, ep, t, S.tab, fun e he => ?_, rfl, ?_⟩), rfl, q _ (ksI es) (I.hok.fresh (Nat.le_refl _)) S.nd S.kys⟩
  · obtain ⟨⟨k, hk, _⟩, _⟩ := S.el e he
    obtain ⟨tk, q⟩ := Value.isInt_shape (show Value.isInt k e.2 = true from hk)
    exact ⟨k, tk, q⟩
  · unfold ksI; rw [List.length_map, Array.length_toList]; have := S.sz; omega
def rSortSN (X : Cx) : List V → Hp → VK → Prop := fun xs H Q => ∃ (a : Addr) (ns : List Int), xs = [.ref a] ∧ H a = some (SeNO X.w a ns) ∧ ∀ (D : Addr) (ns' : List Int), H D = none → ns'.Perm ns → ns'.Pairwise (· ≤ ·) → Q (.ref D) (upd H D (.lst (ns'.map V.int)))
theorem call_sortSN {X : Cx} (hc : X.calm = true) : CallR X (.builtin "sorted") (rSortSN X) := by
  intro pins s σ H xs us Q I r h
  obtain ⟨a, ns, rfl, ha, q0⟩ := h
  obtain ⟨u, rfl, rx⟩ := vals1 r
  cases rx
  obtain ⟨o, es, ep, t, S, e1, e2, e3⟩ := (show ObjOk X.prog X.w H s.heap a (.ext (SeNP X.w a ns)) from I.hok a _ ha).1
  have sz : es.size = ns.length := by rw [← e2]; unfold ksI; simp
  refine Calls.call_function_entry kind_sorted plain_sorted entry_sorted (args_sorted1 _) (wpAny_bind (m := checkCount "sorted" 1 1 _) (wpAny_pure (wpAny_bind (m := collect (.ref a)) ?_)))
  refine PySem.W.kdu_collect (A := X.A.in1) (si_src S) (I.ok.hd hc) S.ob (by rw [sizeLine_eq]; omega) fun h1 tk acc old its => ?_
  have osz : (ordr X.w a ep es).size = es.size := by rw [← Array.length_toList, (ordr_perm X.w a ep es).length_eq, Array.length_toList]
  have ea : acc.toList = (ordr X.w a ep es).toList.map (·.2) := by
    refine List.ext_getElem? fun i => ?_
    rw [Array.getElem?_toList, List.getElem?_map, Array.getElem?_toList]
    cases hq : acc[i]? with
    | some v =>
      obtain ⟨e, h1, h2⟩ := its.2 i v hq
      rw [h1, h2]; rfl
    | none =>
      have : acc.size ≤ i := by simpa using hq
      rw [Array.getElem?_eq_none (by rw [osz, ← its.1]; exact this)]
      rfl
  have pz := ordr_perm X.w a ep es
  have hI := ints_of (vs := acc.toList) fun v hv => by
    rw [ea] at hv
    obtain ⟨e, he, rfl⟩ := List.mem_map.mp hv
    exact e1 e (pz.mem_iff.mp he)
  have pk : (acc.toList.map numOf).Perm ns := by
    rw [ea, List.map_map, ← e2]
    exact pz.map _
  have I1 : Inv X pins σ H { s with heap := h1, toks := tk } := I.kept old
  have al : acc.toList.length ≤ 63 := by rw [← List.length_map (f := numOf), pk.length_eq]; exact e3
  have hD : (h1.push (seqObj "list" acc.toList.toArray 0)).get? h1.objs.size = some (seqObj "list" acc.toList.toArray 0) := Heap.get?_push_size _ rfl
  refine wpAny_bind (wpAny_newList ?_ (hsz := by rw [sizeLine_eq]; omega))
  refine wpAny_bind (wpAny_holding (wpAny_call_entry slot_list_sort ⟨_, hD, rfl⟩ entry_list_sort ?_ (args_list_sort _)))
  refine list_sort_tree hD hI (by omega) fun out ns' i1 i2 i3 => ⟨_, rfl, wpAny_pure ⟨_, rfl, ?_⟩⟩
  obtain ⟨c, hc'⟩ := sortedHeap_here (h := h1) (vs := acc.toList) (out := out)
  refine ⟨.ref h1.objs.size, _, I1.laid (t' := tk) (o := .lst (ns'.map V.int)) (fun b o e => sortedHeap_keeps (Nat.ne_of_lt (Heap.lt_size e)) (Heap.get?_push_of_some _ e)) (Nat.le_refl _) ⟨?_, out.toList, c, vals_of_ints i1, by simpa using hc'⟩, rfl, q0 _ ns' (I1.hok.fresh (Nat.le_refl _)) (i2.trans pk) i3⟩
  rw [List.length_map, i2.length_eq, List.length_map, sizeLine_eq]
  omega
end L2
namespace VL
open PySem L2 ST
section
variable {K : PySem.W.Frag} {X : Cx} {m : Bool} {e : Expr} {tr : TA} {vr : VTA} {pos p1 p2 pos2 : Pos} {S : List Sl} {QN : List D → List Sl → Prop}
def vSortSN (vr : VTA) : VTN := fun S Q => vr S fun rs S1 => ∃ (r : VR) (ns : List Int), rs = [r] ∧ get S1 r = some (.lst (ns.map .int)) ∧ ns.length ≤ 63 ∧ ∀ ns' : List Int, ns'.Nodup → (∀ k, k ∈ ns' ↔ k ∈ ns) → ns'.Pairwise (· ≤ ·) → Q (ns'.map .int) S1
theorem vn_sortSN (hK : X.K = K) (hcm : X.calm = true) (hg1 : Gl X "sorted") (hm1 : X.mg "sorted" = none) (hg2 : Gl X "set") (hm2 : X.mg "set" = none) (ha : VA K X false [e] tr vr) (he : starEach [e] X.env = [(false, eval e X.env)] := by rfl) :
    VN K X (.Call (.Name "sorted" p1) [.Call (.Name "set" p2) [e] [] pos2] [] pos) (tCB (rSortSN X) (tCons (tCB (rSeN X) tr) tNil)) (vSortSN vr) :=
  ⟨pe_callB (call_sortSN hcm) hg1 hm1 bt_sorted (pa_cons (pe_callTy (call_seN hcm) hg2 hm2 bt_set ha.pe (by decide) (by decide) he rfl) pa_nil), fun H0 Z σ H S Q C k t hc => ha.snd H0 Z σ H S _ _ k t fun vs H1 rs S1 k1 st1 rrs zq => by
    obtain ⟨r, ns, e1, e2, hl, q⟩ := zq
    subst e1 hK
    obtain ⟨v, rfl, rv⟩ := rrs.one
    obtain ⟨l, ys, rfl, hq, rr⟩ := rv.elems k1 e2
    cases Reps.toInts rr
    refine ⟨l, ns, rfl, hq, hl, fun a ks hn nd hk => ?_⟩
    have g := upd_grow (o := SeNO X.w a ks) hn
    refine ⟨a, ks, rfl, upd_same, fun d ns' hd hp hs => ?_⟩
    exact hc d _ _ _ _ S1 (k1.grow g) (st1.trans (.grow g)) hd (upd_grow hd) upd_same Reps.ints (q ns' (hp.nodup_iff.mpr nd) (fun c => hp.mem_iff.trans (hk c)) hs)⟩
def kSortSN (QN : List D → List Sl → Prop) : List VR → List Sl → Prop := fun rs S1 => ∃ (r : VR) (ns : List Int), rs = [r] ∧ get S1 r = some (.lst (ns.map .int)) ∧ ns.length ≤ 63 ∧ ∀ ns' : List Int, ns'.Nodup → (∀ k, k ∈ ns' ↔ k ∈ ns) → ns'.Pairwise (· ≤ ·) → QN (ns'.map .int) S1
theorem j_sortSN (h : vr S (kSortSN QN)) : vSortSN vr S QN := h
theorem j_kSortSN {r : VR} {ns : List Int} (e : get S r = some (.lst (ns.map .int))) (hl : ns.length ≤ 63) (h : ∀ ns' : List Int, ns'.Nodup → (∀ k, k ∈ ns' ↔ k ∈ ns) → ns'.Pairwise (· ≤ ·) → QN (ns'.map .int) S) : kSortSN QN [r] S := ⟨r, ns, rfl, e, hl, h⟩
end
end VL
end
section
set_option maxHeartbeats 4000000
namespace VL
open PySem L2 PySem.W
structure VXe (K : PySem.W.Frag) (X : Cx) (Hin : Hp) (E : XK) (e : Expr) (te : TE) (t : (Addr → Prop) → List Sl → Prop) : Prop where
  pe : PE X e te
  snd : ∀ Wc : Addr → Prop, (∀ C, Wc C → ∀ H', (∀ a, Hin a ≠ none → H' a = Hin a) → E (.ref C) none H') → ∀ H0 Z σ H S Q, OK K H0 Z σ H S → Fz Hin Z σ S H → t Wc S → te σ H Q
structure VXa (K : PySem.W.Frag) (X : Cx) (Hin : Hp) (E : XK) (es : List Expr) (ta : TA) (t : (Addr → Prop) → List Sl → Prop) : Prop where
  pe : PA X es ta
  snd : ∀ Wc : Addr → Prop, (∀ C, Wc C → ∀ H', (∀ a, Hin a ≠ none → H' a = Hin a) → E (.ref C) none H') → ∀ H0 Z σ H S Q, OK K H0 Z σ H S → Fz Hin Z σ S H → t Wc S → ta σ H Q
section
variable {K : PySem.W.Frag} {X : Cx} {Hin : Hp} {E : XK} {e : Expr} {es : List Expr} {rest : List Stmt} {te te' : TE} {tr tr' : TA} {t u : (Addr → Prop) → List Sl → Prop} {v : VT} {vr : VTA} {pos : Pos}
theorem vxe_call {k j : Nat} {x : Str} {ps : List Str} {bad : List D → Addr → Prop} {p0 : Pos} (T : Hands X Hin E) (F : HasX X.prog X.w X.K X.mg X.base k x ps bad) (hK : X.K = K) (hr : Room j X.A) (ha : VA K X false (e :: es) tr vr)
    (hk : k ≤ j := by decide) (hg : Gl X x := by rfl) (hdb : (x == ("__debug__" : Str)) = false := by decide) (he : starEach (e :: es) X.env = (false, eval e X.env) :: starEach es X.env := by rfl)
    (hpl : (backTo pos (starEach es X.env)).any (·.1) = false := by rfl) :
    VXe K X Hin E (.Call (.Name x p0) (e :: es) [] pos) (tCall (spX K bad) [] (fun c _ H' => (∀ b, Hin b ≠ none → H' b = Hin b) ∧ E c none H') tr) (fun Wc S => vr S fun rs S1 => ∃ ds C, gets S1 rs = some ds ∧ bad ds C ∧ Wc C) := by
  subst hK
  obtain ⟨f, fd, F, hm, kp, hb⟩ := F
  refine ⟨pe_call F (hr.mono hk) hg hm kp hb .nil (fun pins σ H s e s' I h => T pins σ H s e s' I h) ha.pe hdb he hpl, fun Wc hE H0 Z σ H S Q k f h => ?_⟩
  refine ha.snd H0 Z σ H S _ _ k h fun vs H1 rs S1 k1 st1 rrs ⟨ds, C, e, hb, hw⟩ => ?_
  have f1 := f.step st1
  refine ⟨ds, C, by rw [List.append_nil]; exact rrs.gets k1 e, hb, fun H' g => ?_⟩
  have fr : ∀ b, Hin b ≠ none → H' b = Hin b := fun b e => by
    have q := (f1 b e).1
    rw [← q]
    exact g b (by rw [q]; exact e)
  exact ⟨fr, hE C hw H' fr⟩
theorem vxe_alt (h1 : VXe K X Hin E e te t) (h2 : VXe K X Hin E e te' u) : VXe K X Hin E e (fun σ H Q => te σ H Q ∨ te' σ H Q) (fun Wc S => t Wc S ∨ u Wc S) :=
  ⟨fun pins s σ H Q I h => h.elim (h1.pe pins s σ H Q I) (h2.pe pins s σ H Q I), fun Wc hE H0 Z σ H S Q k f zq => zq.elim (fun z => .inl (h1.snd Wc hE H0 Z σ H S Q k f z)) fun z => .inr (h2.snd Wc hE H0 Z σ H S Q k f z)⟩
theorem vxa_head (h : VXe K X Hin E e te t) (h2 : VA K X false es tr vr) (hs : starEach (e :: es) X.env = (false, eval e X.env) :: starEach es X.env := by rfl) : VXa K X Hin E (e :: es) (tCons te tr) t :=
  ⟨pa_cons h.pe h2.pe hs, fun Wc hE H0 Z σ H S Q k f z => h.snd Wc hE H0 Z σ H S _ k f z⟩
theorem vxa_tail (h : VE K X false e te v) (h2 : VXa K X Hin E es tr t) (hs : starEach (e :: es) X.env = (false, eval e X.env) :: starEach es X.env := by rfl) : VXa K X Hin E (e :: es) (tCons te tr) (fun Wc S => v S fun _ S1 => t Wc S1) :=
  ⟨pa_cons h.pe h2.pe hs, fun Wc hE H0 Z σ H S Q k f z => h.snd H0 Z σ H S _ _ k z fun x H1 r S1 k1 st1 rr q => h2.snd Wc hE H0 Z σ H1 S1 _ k1 (f.step st1) q⟩
theorem vxe_tup {x1} (h : VXa K X Hin E es tr t) : VXe K X Hin E (.Tuple es x1 pos) (tTup tr) t := ⟨pe_tup h.pe, fun Wc hE H0 Z σ H S Q k f z => h.snd Wc hE H0 Z σ H S _ k f z⟩
theorem vx_ret (h : VXe K X Hin E e te t) : VXs K X Hin E (.Return (some e) pos :: rest) (tSeq (tRet te) tNever) t :=
  ⟨pss_cons (ps_ret h.pe) pss_never, fun Wc hE H0 Z σ H S D k f z => h.snd Wc hE H0 Z σ H S _ k f z⟩
end
def strsV : List Value → Option (List Str)
  | [] => some []
  | .str i _ :: r => (strsV r).map (i :: ·)
  | _ :: _ => none
theorem strsV_ok : ∀ {us : List Value} {ns : List Str}, strsV us = some ns → Vals (ns.map V.str) us
  | [], ns, e => by cases e; exact .nil
  | u :: r, ns, e => by
    cases u with
    | str i t =>
      obtain ⟨ms, h1, rfl⟩ := Option.map_eq_some_iff.mp (show (strsV r).map (i :: ·) = some ns from e)
      exact .cons ⟨t, rfl⟩ (strsV_ok h1)
    | _ => cases e
def okTS (K : PySem.W.Frag) (v : Value) (ns : List Str) : Bool := match v with
  | .ref a => (match L2.kTup K a with | some us => decide (strsV us = some ns) | none => false)
  | _ => false
theorem okTS_ok {K : PySem.W.Frag} {H : Hp} {v : Value} {ns : List Str} (e : okTS K v ns = true) : ∃ a, v = .ref a ∧ SqT K H a (ns.map V.str) := by
  unfold okTS at e
  split at e
  · rename_i a
    split at e
    · rename_i us h
      exact ⟨a, rfl, kTup_ok h (strsV_ok (of_decide_eq_true e))⟩
    · cases e
  · cases e
theorem rep_ts {K : PySem.W.Frag} {a : Addr} {zs : List Str} (e : okTS K (.ref a) zs = true) {N : AP} {F : FP} {H : Hp} : Rep K N F H (.ref a) (.tup (zs.map .str)) := by
  obtain ⟨b, eb, h⟩ := okTS_ok (H := fun _ => none) e
  cases eb
  exact .tupK h Reps.strs
end VL
end
section
set_option maxHeartbeats 4000000
namespace L2
open PySem PySem.Spec PyProof.Rows PySem.W
section
variable {X : Cx} {k i : Nat} {f CB : Addr} {fd : FuncData} {ps : List Str} {sp : Sp} {e0 : Expr} {es : List Expr} {ta : TA} {x cb en nn : Str} {b0 : Stmt} {suite : List Stmt} {th : TS} {p pos pe np hp tp pos' : Pos}
theorem ps_tryA (F : FnOk X.prog X.w X.K X.mg X.base (CX1 X.prog X.w) k f fd ps sp) (hr : Room k X.A) (hm : X.mg x = some (.ref f)) (hk : PySem.W.keepIn X.K (.ref f) = true) (hb : Binds X.K fd ps []) (ha : PA X (e0 :: es) ta) (hcb : X.mg cb = some (.ref CB))
    (hs : ∀ y, PSs (X.caught y) (b0 :: suite) th) (hxe : ∀ e s, ¬X.xe e s) (hex0 : X.ex = []) (hst : X.stack = X.env :: X.outer) (hfr : X.env.frame = some X.env.locals) (hN : X.N.Nodup) (hi : X.N[i]? = some en) (hloc : X.env.scope.names.lookup en = some .local)
    (hg : Gl X x := by rfl) (hgc : Gl X cb := by rfl) (hd : (x == ("__debug__" : Str)) = false := by decide) (hdc : (cb == ("__debug__" : Str)) = false := by decide) (he : starEach (e0 :: es) X.env = (false, eval e0 X.env) :: starEach es X.env := by rfl) (hpl : (backTo pos (starEach es X.env)).any (·.1) = false := by rfl)
    (hsw : swapsWith (.Call (.Name x p) (e0 :: es) [] pos) (some (.Name nn pos')) pe.line X.env = pure false := by rfl) :
    PS X (.Try [.Assign [.Name nn pos'] (.Call (.Name x p) (e0 :: es) [] pos) pe] [.ExceptHandler (some (.Name cb np)) (some en) (b0 :: suite) hp] [] [] tp) (tTry X.K CB sp ta i th) := by
  intro pins s σ H D I h
  refine wpAny_Try_except (wpAny_execs_cons (wpAny_Assign_Name ?_ hsw))
  refine wpAny_Call_Name_kw (ld_glob I hg hm ?_ hd)
  refine PySem.W.callWith_K (h₀ := X.base) I.ok.mod.kin hk (wpAny_mono (ha pos pins s σ H _ I h) (fun us s1 ⟨vs, H1, I1, r, q⟩ => ⟨I1.kIn, ?_⟩) fun e s z => (hxe e s z).elim) he hpl
  have hl : us.length = ps.length := by rw [← r.length]; exact F.len _ _ _ _ q
  have hbd := hb s1 us I1.kIn (by rw [List.append_nil]; exact hl)
  rw [List.append_nil] at hbd
  refine wpAny_call (codeAny_mono (F.run X.A X.stack s1 H1 ⟨us, []⟩ us vs _ _ hr I1.env0 hbd r q) fun res s' hq => ?_)
  match res, hq with
  | .ok (.ret u), hq => obtain ⟨_, _, _, _, _, _, _, z⟩ := hq; exact z.elim
  | .error e, hq =>
    obtain ⟨y, cls, a0, B, H', rfl, Fl, C, rfl, hex, fin⟩ := hq
    have fr : X.A.frames = some (X.env :: X.outer) := hst ▸ I.ok.frames
    have fly0 := Fl.fly
    rw [hst] at fly0
    refine wpAny_looks_onW fr hfr fly0 fun h4 held up4 => ?_
    refine wpAny_landsW held fun h5 fly5 up5 => ?_
    have F5 : Flies X.prog X.w X.stack H1 s1 y (.ref C) a0 B H' { s' with heap := h5, toks := s'.toks } := Fl.on I1 (by rw [hst]; exact fly5) (up4.trans up5)
    have I5 := I1.lands F5
    obtain ⟨o5, ho5, hc5⟩ := fly5.there
    refine wpAny_handleBy_cons (codeAny_handlers_test (ld_glob (I5.caught y) hgc hcb ?_ hdc)) (by intro q; cases q)
    refine exm_one (h := h5) I5.kIn (hc5 ▸ (Looks.ld ho5).andThen .now) hex _ _ _ _ (fun _ _ e => e) ?_
    refine codeAny_handlers_suite_as ?_
    refine lands_againW fly5 fun h6 fly6 up6 => ?_
    have F6 : Flies X.prog X.w X.stack H1 s1 y (.ref C) a0 B H' { s' with heap := h6, toks := s'.toks } := Fl.on I1 (by rw [hst]; exact fly6) ((up4.trans up5).trans up6)
    have I6 := I1.lands F6
    obtain ⟨o6, ho6, hc6⟩ := fly6.there
    have here : ∀ b o, s1.heap.get? b = some o → b ≠ y := fun b o e z => by rw [z, Fl.new] at e; cases e
    have I7 : Inv (X.caught y) pins σ (upd H' y (.frz o6 (.own y))) { s' with heap := h6, toks := s'.toks } := by
      refine (I6.caught y).trackN F6.noX ?_ ?_ ?_ ?_ ⟨ho6, o6, ho6⟩
      · cases z : X.s₀.heap.get? y with
        | none => rfl
        | some o =>
          obtain ⟨o', e'⟩ := I1.base.there y o z (by rw [hex0]; intro q; cases q)
          exact absurd rfl (here y o' e')
      · obtain ⟨m, ⟨o, es, ep, e, _⟩, _⟩ := I1.loc
        exact (here _ o e).symm
      · intro n c e
        obtain ⟨v, o, e', _⟩ := I1.cell n c e
        exact here c o e'
      · intro p hp
        exact here p.1 p.2 (I1.pin p hp).1
    refine store_ok (X := X.caught y) I7 hN hi (.inl hloc) (show RelV (.ref y) (.ref y) from rfl) (fun s8 I8 => ?_) (.inr hloc)
    refine wpAny_mono (hs y pins s8 _ _ (unE D i) I8 (fin y o6 F6.noX hc6)) (fun fl s9 q9 => ?_) fun e s z => (hxe e s z).elim
    have let_go : ∀ {σ' : St} {H9 : Hp} {R : Unit → Shared → Prop}, Inv (X.caught y) pins σ' H9 s9 → (∀ s', Inv X pins (σ'.set i none) H9 s' → R () s') → wpAny (model X.prog X.w) X.A (do bindName X.env en .none; unbindBehindTheSuite X.env en hp) R X.xe s9 := fun {σ' H9 R} J g => by
      have J0 := J.uncaught I.ok
      refine wpAny_bind (wpAny_bindName (store_ok J0 hN hi (.inl hloc) (show RelV .non .none from rfl) (fun s10 I10 => ?_) (.inr hloc)))
      refine wpAny_onRaise (drop_ok I10 hN hi hloc (List.getElem?_set_self (by rw [J0.len]; exact (List.getElem?_eq_some_iff.mp hi).1)) fun s11 I11 => ?_)
      rw [List.set_set] at I11
      exact g s11 I11
    cases fl with
    | next => obtain ⟨σ', H9, J, q⟩ := q9; exact let_go J fun s' I' => ⟨_, _, I', q⟩
    | brk => obtain ⟨σ', H9, J, q⟩ := q9; exact let_go J fun s' I' => ⟨_, _, I', q⟩
    | cont => obtain ⟨σ', H9, J, q⟩ := q9; exact let_go J fun s' I' => ⟨_, _, I', q⟩
    | ret u => obtain ⟨v, σ', H9, J, r, q⟩ := q9; exact let_go J fun s' I' => ⟨v, _, _, I', r, q⟩
end
end L2
namespace VL
open PySem L2 PySem.W
section
variable {K : PySem.W.Frag} {X : Cx} {k j i : Nat} {CB : Addr} {ps : List Str} {bad : List D → Addr → Prop} {e0 : Expr} {es : List Expr} {tr : TA} {vr : VTA} {x cb en nn : Str} {b0 : Stmt} {suite : List Stmt} {th : TS} {vh : VTS} {p pos pe np hp tp pos' : Pos}
theorem vs_tryA (F : HasX X.prog X.w X.K X.mg X.base k x ps bad) (hK : X.K = K) (hr : Room j X.A) (ha : VA K X false (e0 :: es) tr vr) (hcb : X.mg cb = some (.ref CB)) (hs : ∀ y, VSs K (X.caught y) (b0 :: suite) th vh) (hxe : ∀ e s, ¬X.xe e s) (hex0 : X.ex = [])
    (hst : X.stack = X.env :: X.outer) (hfr : X.env.frame = some X.env.locals) (hN : X.N.Nodup) (hi : X.N[i]? = some en) (hloc : X.env.scope.names.lookup en = some .local) (hk : k ≤ j := by decide)
    (hg : Gl X x := by rfl) (hgc : Gl X cb := by rfl) (hd : (x == ("__debug__" : Str)) = false := by decide) (hdc : (cb == ("__debug__" : Str)) = false := by decide) (he : starEach (e0 :: es) X.env = (false, eval e0 X.env) :: starEach es X.env := by rfl) (hpl : (backTo pos (starEach es X.env)).any (·.1) = false := by rfl)
    (hsw : swapsWith (.Call (.Name x p) (e0 :: es) [] pos) (some (.Name nn pos')) pe.line X.env = pure false := by rfl) :
    VS K X (.Try [.Assign [.Name nn pos'] (.Call (.Name x p) (e0 :: es) [] pos) pe] [.ExceptHandler (some (.Name cb np)) (some en) (b0 :: suite) hp] [] [] tp) (tTry K CB (spX K bad) tr i th) (vTry K CB bad vr i vh) := by
  subst hK
  obtain ⟨f, fd, F, hm, kp, hb⟩ := F
  refine ⟨ps_tryA F (hr.mono hk) hm kp hb ha.pe hcb (fun y => (hs y).ps) hxe hex0 hst hfr hN hi hloc hg hgc hd hdc he hpl hsw, fun H0 Z σ H S V D k t l => ?_⟩
  refine ha.snd H0 Z σ H S _ _ k t fun vs H1 rs S1 k1 st1 rrs ⟨hl, ds, C, e, hbd, hex, q⟩ => ⟨ds, C, rrs.gets k1 e, hbd, fun H' g => ⟨C, rfl, hex, fun y o hy hc => ?_⟩⟩
  have g2 := upd_grow (o := .frz o (.own y)) hy
  have k2 := (k1.grow g).grow g2
  have st2 : Step Z σ S H σ S1 (upd H' y (.frz o (.own y))) := (st1.trans (.grow g)).trans (.grow g2)
  obtain ⟨k3, st3⟩ := k2.setVal hl (Rep.exc (c := .ref C) ((k1.grow g).nm hy) upd_same hc)
  exact (hs 0).snd H0 Z _ _ _ _ _ k3 q ((l.step (st2.trans st3)).letGo)
end
section
variable {K : PySem.W.Frag} {X : Cx} {Hin : Hp} {E : XK} {e tg : Expr} {rest : List Stmt} {te : TE} {t : (Addr → Prop) → List Sl → Prop} {pos : Pos} {g : TG} {vg : VG}
end
end VL
end
set_option maxHeartbeats 4000000
local macro_rules | `(tactic| walk_at "rd1") => `(tactic| first
  | with_reducible refine VL.j_sortSN ?_
  | with_reducible refine VL.j_cnt ?_
  | with_reducible refine VL.j_kCntA ?_
  | with_reducible refine VL.j_kCntB ?_
  | with_reducible refine VL.j_idx ?_
  | with_reducible refine VL.j_kIdxA ?_
  | with_reducible refine VL.j_part ?_
  | with_reducible refine VL.j_kPartA ?_
  | with_reducible refine VL.j_revS ?_
  | with_reducible refine VL.j_geS ?_
  | with_reducible refine VL.j_ixS ?_
  | with_reducible refine VL.j_kIxSA ?_
  | with_reducible refine VL.j_joinN ?_
  | with_reducible refine VL.j_kJoA ?_
  | with_reducible refine VL.j_split ?_
  | with_reducible refine VL.j_kSpA ?_
  | with_reducible refine VL.j_joined ?_
  | with_reducible refine VL.j_kJd ?_
  | with_reducible refine VL.j_jc ?_
  | with_reducible refine VL.j_fmt ?_
  | with_reducible refine VL.j_slS ?_
  | with_reducible refine VL.j_kSsA ?_
  | with_reducible refine VL.j_kSsB ?_
  | with_reducible refine VL.j_itS ?_
  | with_reducible refine VL.j_kItS ?_
  | ((with_reducible refine' VL.j_var ?h ?_); (case h => exact rfl))
  | with_reducible refine VL.j_c ?_
  | with_reducible refine VL.j_2 ?_
  | with_reducible refine VL.j_2a ?_
  | ((with_reducible refine' VL.j_2b ?h1 ?h2 ?_); (case h1 => exact rfl); (case h2 => exact rfl))
  | with_reducible refine VL.j_wI0 ?_
  | with_reducible refine VL.j_eqI ?_
  | with_reducible refine VL.j_neI ?_
  | ((with_reducible refine' VL.j_wI ?h ?_); (case h => first | exact (by decide) | exact .inl ⟨by decide, by decide⟩ | exact .inr ⟨by decide, by decide⟩ | (show (0 : Int) < _; lia) | (show (0 : Int) ≤ _; lia) | exact ⟨by decide, by decide, by decide⟩ | exact ⟨by lia, by lia, by lia⟩ | exact ⟨by lia, by lia⟩ | exact .inl ⟨by lia, by lia⟩ | exact .inr ⟨by lia, by lia⟩))
  | with_reducible refine VL.j_test ?_
  | with_reducible refine VL.j_kTest ?_
  | with_reducible refine VL.i_seq ?_
  | with_reducible refine VL.i_asg ?_
  | with_reducible refine VL.i_kAsg ?_
  | ((with_reducible refine' VL.i_gN ?h ?_); (case h => exact rfl); (try dsimp only [List.set_cons_zero, List.set_cons_succ]))
  | with_reducible refine VL.i_kSeq ?_
  | with_reducible refine VL.i_ifS ?_
  | with_reducible refine VL.i_kIfT ?_
  | with_reducible refine VL.i_kIfF ?_
  | with_reducible refine VL.i_ret ?_
  | ((with_reducible refine' VL.i_kRet ?h ?_); (case h => exact rfl))
  | with_reducible refine VL.i_drop ?_
  | with_reducible refine VL.i_kDrop ?_
  | with_reducible refine VL.i_next ?_
  | with_reducible refine VL.j_flat ?_
  | ((with_reducible refine' VL.j_kFlat ?h ?_); (case h => first | exact rfl | simp only [VL.flat, VL.flats, VL.flats_ints, VL.eT, VL.flats_eT, Bool.and_self]))
  | with_reducible refine VL.j_ix ?_
  | with_reducible refine VL.j_ix1 ?_
  | ((with_reducible refine' VL.j_ixL ?h1 ?h2 ?h3 ?_); (case h1 => exact rfl); (case h2 => exact rfl); (case h3 => exact rfl))
  | with_reducible refine VL.j_nil ?_
  | with_reducible refine VL.j_cons ?_
  | with_reducible refine VL.j_kCons ?_
  | with_reducible refine VL.j_tup ?_
  | ((with_reducible refine' VL.j_kTup ?h1 ?h2 ?_); (case h1 => exact rfl); (case h2 => exact rfl))
  | with_reducible refine VL.j_lst ?_
  | ((with_reducible refine' VL.j_kLst ?h1 ?h2 ?_); (case h1 => exact rfl); (case h2 => exact rfl))
  | with_reducible refine VL.j_new ?_
  | with_reducible refine VL.j_kNew ?_
  | with_reducible refine VL.j_cb ?_
  | ((with_reducible refine' VL.j_kCB ?h ?_); (case h => exact rfl))
  | with_reducible refine VL.j_lenL ?_
  | with_reducible refine VL.j_lenT ?_
  | with_reducible refine VL.j_fn ?_
  | with_reducible refine VL.j_fnN ?_
  | ((with_reducible refine' VL.j_kFnN ?h ?_); (case h => exact rfl))
  | with_reducible refine VL.j_fnI ?_
  | ((with_reducible refine' VL.j_kFnI ?h1 ?h2 ?h3 ?_); (case h1 => exact rfl); (case h2 => exact rfl); (case h3 => exact rfl))
  | with_reducible refine VL.i_setN ?_
  | ((with_reducible refine' VL.i_kSetN ?h ?_); (case h => exact rfl); (try dsimp only [List.set_cons_zero, List.set_cons_succ]))
  | with_reducible refine VL.i_setP ?_
  | ((with_reducible refine' VL.i_kSetP ?h ?_); (case h => exact rfl); (try dsimp only [List.set_cons_zero, List.set_cons_succ]))
  | with_reducible refine VL.i_setIx ?_
  | ((with_reducible refine' VL.i_kSetIx ?h1 ?h2 ?_); (case h1 => exact rfl); (case h2 => exact rfl))
  | ((with_reducible refine' VL.i_kSetIxP ?h1 ?h2 ?h3 ?_); (case h1 => exact rfl); (case h2 => exact rfl); (case h3 => exact rfl); (try dsimp only [List.set_cons_zero, List.set_cons_succ]))
  | ((with_reducible refine' VL.j_app ?h ?_); (case h => exact rfl))
  | with_reducible refine VL.i_for ?_
  | with_reducible refine VL.i_runC ?_
  | with_reducible refine VL.i_runN ?_
  | ((with_reducible refine' VL.j_kApp ?h1 ?h2 ?_); (case h1 => exact rfl); (case h2 => first | lia | (simp only [List.length_append, List.length_cons, List.length_nil, List.length_map]; lia) | exact Nat.le_of_ble_eq_true rfl); (try dsimp only [List.set_cons_zero, List.set_cons_succ]))
  | with_reducible refine VL.j_itL ?_
  | with_reducible refine VL.j_itT ?_
  | with_reducible refine VL.j_kItL ?_
  | with_reducible refine VL.j_kItT ?_
  | with_reducible refine VL.j_rg1 ?_
  | ((with_reducible refine' VL.j_kRg1 ?h ?_); (case h => exact ⟨by lia, by lia⟩))
  | with_reducible refine VL.j_comp ?_
  | with_reducible refine VL.j_true ?_
  | with_reducible refine VL.j_kCompTT ?_
  | with_reducible refine VL.j_kCompE ?_
  | with_reducible refine VL.j_and ?_
  | with_reducible refine VL.j_or ?_
  | with_reducible refine VL.j_not ?_
  | with_reducible refine VL.j_kNot ?_
  | with_reducible refine VL.j_kOrF ?_
  | with_reducible refine VL.j_kOrT ?_
  | with_reducible refine VL.j_kAndT ?_
  | with_reducible refine VL.j_kAndF ?_
  | with_reducible refine VL.j_andV ?_
  | with_reducible refine VL.j_notV ?_
  | with_reducible refine VL.j_kNotV ?_
  | with_reducible refine VL.j_isN ?_
  | ((with_reducible refine' VL.j_isi ?h1 ?h2 ?_); (case h1 => (intro n z; cases z)); (case h2 => first | exact L2.isiB_int_int | exact L2.isiB_int_bool | exact L2.isiB_list_list | exact L2.isiB_tuple_tuple | exact L2.isiB_bool_bool | exact L2.isiB_f1 | exact L2.isiB_f2 | exact L2.isiB_f3 | exact L2.isiB_f4 | exact L2.isiB_f5 | exact L2.isiB_f6 | exact L2.isiB_g1 | exact L2.isiB_g2 | exact L2.isiB_g3 | exact L2.isiB_g4 | exact L2.isiB_g5 | exact L2.isiB_g6 | exact L2.isiB_h1 | exact L2.isiB_h2 | exact L2.isiB_h3 | exact L2.isiB_h4 | exact L2.isiB_h5 | exact L2.isiB_h6 | exact L2.isiB_h7))
  | with_reducible refine VL.i_gNil ?_
  | with_reducible refine VL.i_gCons ?_
  | ((with_reducible refine' VL.i_gT ?h ?_); (case h => exact rfl); (try simp only [List.map_cons, List.map_nil]))
  | with_reducible refine VL.j_tupOf ?_
  | ((with_reducible refine' VL.j_cat ?h ?_); (case h => exact rfl))
  | with_reducible refine VL.j_voNo ?_
  | with_reducible refine VL.j_voSome ?_
  | with_reducible refine VL.j_kVo ?_
  | ((with_reducible refine' VL.j_ixO ?h ?_); (case h => exact rfl))
  | with_reducible refine VL.j_neS ?_
  | with_reducible refine VL.j_lr ?_
  | ((with_reducible refine' VL.j_kLR ?h ?_); (case h => exact ⟨by lia, by lia⟩))
  | with_reducible refine VL.j_dnil ?_
  | with_reducible refine VL.j_newD ?_
  | with_reducible refine VL.j_kNewD ?_
  | with_reducible refine VL.j_lenSetA ?_
  | with_reducible refine VL.j_isi2gL ?_
  | with_reducible refine VL.j_isi2gT ?_
  | with_reducible refine VL.j_sortIT ?_
  | with_reducible refine VL.j_sortI ?_
  | with_reducible refine VL.j_rev ?_)
local macro_rules | `(tactic| walk_at "rc1") => `(tactic| first
  | walk_at "rd1"
  | ((with_reducible refine' VL.c_ifT ?h ?_); (case h => exact rfl))
  | ((with_reducible refine' VL.c_ifF ?h ?_); (case h => exact rfl))
  | ((with_reducible refine' VL.c_orT ?h ?_); (case h => exact rfl))
  | ((with_reducible refine' VL.c_orF ?h ?_); (case h => exact rfl))
  | ((with_reducible refine' VL.c_avT ?h ?_); (case h => exact rfl)))
local macro_rules | `(tactic| walk_at "rc") => `(tactic| repeat walk_at "rc1")
local macro_rules | `(tactic| walk_at "rd") => `(tactic| repeat walk_at "rd1")
local macro_rules | `(tactic| walk_at "sl") => `(tactic| simp only [VL.slots, VL.slotsI, List.map_cons, List.map_nil, List.length_cons, List.length_nil, List.cons_append, List.nil_append, Nat.reduceAdd, Nat.reduceSub, Nat.zero_add, List.replicate_succ, List.replicate_zero])

namespace My
open PySem L2 VL
def top (i : Nat) : Stmt := PySem.Challenge.pw_cellships_k67_rule_texts.main.body.getD i (.Pass ⟨0, 0, 0, 0⟩)
abbrev sIsWhole : Stmt := top 1
theorem scIsWhole : FnScope ["thing"] ["thing"] (defScope sIsWhole) := ⟨rfl, rfl, rfl, by decide +kernel, rfl, by decide +kernel, by decide +kernel⟩
abbrev sShowCounts : Stmt := top 10
theorem scShowCounts : FnScope ["counts"] ["counts"] (defScope sShowCounts) := ⟨rfl, rfl, rfl, by decide +kernel, rfl, by decide +kernel, by decide +kernel⟩
abbrev sShowRule : Stmt := top 11
theorem scShowRule : FnScope ["rule", "kind", "born", "stay"] ["rule"] (defScope sShowRule) := ⟨rfl, rfl, rfl, by decide +kernel, rfl, by decide +kernel, by decide +kernel⟩
abbrev sReadCounts : Stmt := top 12
theorem scReadCounts : FnScope ["kind", "text", "counts"] ["kind", "text"] (defScope sReadCounts) := ⟨rfl, rfl, rfl, by decide +kernel, rfl, by decide +kernel, by decide +kernel⟩
abbrev sReadRule : Stmt := top 13
theorem scReadRule : FnScope ["text", "words", "kind"] ["text"] (defScope sReadRule) := ⟨rfl, rfl, rfl, by decide +kernel, rfl, by decide +kernel, by decide +kernel⟩
abbrev sIsRowOfCounts : Stmt := top 15
theorem scIsRowOfCounts : FnScope ["kind", "thing"] ["kind", "thing"] (defScope sIsRowOfCounts) := ⟨rfl, rfl, rfl, by decide +kernel, rfl, by decide +kernel, by decide +kernel⟩
abbrev sRule : Stmt := top 16
theorem scRule : FnScope ["kind", "born", "stay"] ["kind", "born", "stay"] (defScope sRule) := ⟨rfl, rfl, rfl, by decide +kernel, rfl, by decide +kernel, by decide +kernel⟩
abbrev sLPen : Stmt := top 18
theorem scLPen : FnScope ["_law_script", "_law_k", "_law_cell"] ["_law_script", "_law_k"] (defScope sLPen) := ⟨rfl, rfl, rfl, by decide +kernel, rfl, by decide +kernel, by decide +kernel⟩
abbrev sLDraw : Stmt := top 19
theorem scLDraw : FnScope ["_law_pen_here", "_law_many", "_law_drawn", "_law_number"] ["_law_pen_here", "_law_many"] (defScope sLDraw) := ⟨rfl, rfl, rfl, by decide +kernel, rfl, by decide +kernel, by decide +kernel⟩
abbrev sLCounts : Stmt := top 20
theorem scLCounts : FnScope ["_law_pen_here", "_law_kind", "_law_way"] ["_law_pen_here", "_law_kind"] (defScope sLCounts) := ⟨rfl, rfl, rfl, by decide +kernel, rfl, by decide +kernel, by decide +kernel⟩
abbrev sLText : Stmt := top 21
theorem scLText : FnScope ["_law_kind", "_law_born", "_law_stay", "_law_text_here", "_law_count"] ["_law_kind", "_law_born", "_law_stay"] (defScope sLText) := ⟨rfl, rfl, rfl, by decide +kernel, rfl, by decide +kernel, by decide +kernel⟩
abbrev sLRising : Stmt := top 22
theorem scLRising : FnScope ["_law_part", "_law_kind", "_law_at"] ["_law_part", "_law_kind"] (defScope sLRising) := ⟨rfl, rfl, rfl, by decide +kernel, rfl, by decide +kernel, by decide +kernel⟩
abbrev sLDue : Stmt := top 23
theorem scLDue : FnScope ["_law_text_here", "_law_kind", "_law_born", "_law_colon", "_law_stay"] ["_law_text_here"] (defScope sLDue) := ⟨rfl, rfl, rfl, by decide +kernel, rfl, by decide +kernel, by decide +kernel⟩
abbrev sLSpoilt : Stmt := top 24
theorem scLSpoilt : FnScope ["_law_pen_here", "_law_text_here", "_law_way", "_law_at", "_law_sign", "_law_some", "_law_pair"] ["_law_pen_here", "_law_text_here"] (defScope sLSpoilt) := ⟨rfl, rfl, rfl, by decide +kernel, rfl, by decide +kernel, by decide +kernel⟩
abbrev sLRight : Stmt := top 25
theorem scLRight : FnScope ["_law_text_here", "_law_due_here", "_law_caught", "_law_found", "e"] ["_law_text_here", "_law_due_here"] (defScope sLRight) := ⟨rfl, rfl, rfl, by decide +kernel, rfl, by decide +kernel, by decide +kernel⟩
abbrev sLaw : Stmt := top 26
theorem scLaw : FnScope ["_law_script", "_law_k", "_law_pen_here", "_law_kind", "_law_born", "_law_stay", "_law_text_here", "_law_made", "_law_shown", "_law_spoilt_here", "_law_thing"] ["_law_script"] (defScope sLaw) := ⟨rfl, rfl, rfl, by decide +kernel, rfl, by decide +kernel, by decide +kernel⟩

structure Txt (mg : Str → Option Value) : Prop where
  len_ : mg "len" = none
  range : mg "range" = none
  abs_ : mg "abs" = none
  isinstance_ : mg "isinstance" = none
  int_ : mg "int" = none
  bool_ : mg "bool" = none
  list_ : mg "list" = none
  tuple_ : mg "tuple" = none
  sorted_ : mg "sorted" = none
  max_ : mg "max" = none
  min_ : mg "min" = none
  all_ : mg "all" = none
  any_ : mg "any" = none
  set_ : mg "set" = none
  sum_ : mg "sum" = none
  str_ : mg "str" = none
def Pn (b : Nat) (pn : List Int) : Prop := ∃ x y c : Int, pn = [x, y, c] ∧ 0 ≤ c ∧ c ≤ b
theorem Pn.le {b b' : Nat} {pn : List Int} (h : Pn b pn) (e : b ≤ b') : Pn b' pn := let ⟨x, y, c, h1, h2, h3⟩ := h; ⟨x, y, c, h1, h2, by lia⟩
def pPen : List D → (D → Prop) → Prop := fun ds R => ∃ (ns : List Int) (k : Nat), ds = [.lst (ns.map .int), .int k] ∧ k ≤ 1000 ∧ ∀ x y : Int, R (.lst ([x, y, 0].map .int))
def pLaw : List D → (D → Prop) → Prop := fun ds R => ∃ ns : List Int, ds = [.lst (ns.map .int)] ∧ ns.length ≤ 63 ∧ R (.bl true)
def pDraw : List Int → List D → (D → List Int → Prop) → Prop := fun pn ds R => ∃ (b : Nat) (m : Int), ds = [.int m] ∧ Pn b pn ∧ b ≤ 1000000 ∧ 0 < m ∧ m < 1073741824 ∧ ∀ (pn' : List Int) (r : Int), Pn (b + 1) pn' → 0 ≤ r → r < m → R (.int r) pn'
theorem atI_ints {ns : List Int} {j : Nat} (h : j < ns.length) : atI (ns.map D.int) (j : Int) = some (.int (ns[j])) := by
  exact atI_nat (by simp [h])
section
variable {P : Program} {w : World} {K : PySem.W.Frag} {mg : Str → Option Value} {base : Heap}
theorem ok_pen (S : Src K mg "_law_pen" sLPen) (T : Txt mg) : Has P w K mg base 1 "_law_pen" ["_law_script", "_law_k"] (spP K pPen) := by
  refine has_P S scLPen (fun _ _ _ _ _ _ us hl => match us, hl with | [_, _], _ => rfl) (fun ds R zq1 => by obtain ⟨_, _, e, _⟩ := zq1; rw [e]; rfl) fun f cdv A outer s H E hr => ⟨_, _, (vss_cons (vs_set1 (i := 2) scLPen.nd rfl (Or.inl rfl) (ve_op op_add l_rI0 (ve_op op_mul l_rI ve_int (ve_var 1 (pv 1))) ve_int))
    (vss_cons (vs_if (vt_cmp op_lt l_rI0 (ve_var 1 (pv 1)) (ve_callB (c_len (K := K) rfl) l_len (by rfl) T.len_ bt_len (va_cons (ve_var 0 (pv 0)) va_nil)) (nomark _)) (vss_one (vs_set1 (i := 2) scLPen.nd rfl (Or.inl rfl) (ve_ix rfl (ve_var 0 (pv 0)) (ve_var 1 (pv 1)) (fun _ _ => rfl)))) (vss_one (vs_if (vt_cmp op_gt l_rI0 (ve_callB (c_len (K := K) rfl) l_len (by rfl) T.len_ bt_len (va_cons (ve_var 0 (pv 0)) va_nil)) ve_int (nomark _)) (vss_one (vs_set1 (i := 2) scLPen.nd rfl (Or.inl rfl) (ve_op op_add l_rI0 (ve_op op_mod l_rI (ve_ix rfl (ve_var 0 (pv 0)) (ve_op op_mod l_rI (ve_var 1 (pv 1)) (ve_callB (c_len (K := K) rfl) l_len (by rfl) T.len_ bt_len (va_cons (ve_var 0 (pv 0)) va_nil))) (fun _ _ => rfl)) ve_int) (ve_op op_mul l_rI ve_int (ve_var 1 (pv 1)))))) vss_nil)))
    (vss_cons (vs_if (vt_cmp op_ge l_rI0 (ve_var 2 (pv 2)) (ve_op op_pow l_rI ve_int ve_int) (nomark _)) (vss_one (vs_ret (ve_new (vn_lst (va_cons (ve_op op_sub l_rI0 (ve_var 2 (pv 2)) (ve_op op_pow l_rI ve_int ve_int)) (va_cons (ve_op op_mod l_rI (ve_var 2 (pv 2)) ve_int) (va_cons ve_int va_nil))))))) vss_nil)
    (vss_one (vs_ret (ve_new (vn_lst (va_cons ve_int (va_cons (ve_op op_mod l_rI (ve_var 2 (pv 2)) ve_int) (va_cons ve_int va_nil)))))))))), ?_⟩
  rintro ds R ⟨ns, k, rfl, hk, q⟩
  have fin : ∀ (x y : Int), R (.lst [.int x, .int y, .int 0]) := fun x y => q x y
  walk_at "sl"
  walk_at "rd"
  rw [List.length_map]
  refine i_kIfd (fun h1 => ?_) (fun h1 => ?_)
  · have h1' : k < ns.length := by lia
    walk_at "rd"
    refine j_ixL rfl rfl (atI_ints h1') ?_
    walk_at "rd"
    refine i_kIfd (fun h1 => ?_) (fun h1 => ?_)
    all_goals (walk_at "rd"; exact fin _ _)
  · walk_at "rd"
    rw [List.length_map]
    refine i_kIfd (fun h2 => ?_) (fun h2 => ?_)
    · walk_at "rd"
      rw [List.length_map]
      have h2' : 0 < ns.length := by lia
      have e : ((k : Int) % (ns.length : Int)) = ((k % ns.length : Nat) : Int) := by lia
      refine j_wI (by show (0 : Int) < _; lia) ?_
      dsimp only [ofV]
      rw [e]
      refine j_ixL rfl rfl (atI_ints (Nat.mod_lt _ h2')) ?_
      walk_at "rd"
      refine i_kIfd (fun h1 => ?_) (fun h1 => ?_)
      all_goals (walk_at "rd"; exact fin _ _)
    · walk_at "rd"
      refine i_kIfd (fun h1 => ?_) (fun h1 => ?_)
      all_goals (walk_at "rd"; exact fin _ _)
theorem ok_draw (S : Src K mg "_law_draw" sLDraw) (T : Txt mg) : Has P w K mg base 1 "_law_draw" ["_law_pen_here", "_law_many"] (spI K 0 pDraw) := by
  refine has_I 0 S scLDraw (fun _ _ _ _ _ _ us hl => match us, hl with | [_, _], _ => rfl) (fun ns ds R zq1 => by obtain ⟨_, _, e, _⟩ := zq1; rw [e]; rfl) fun f cdv A outer s H E hr => ⟨_, _, (vss_cons (vs_setIx 0 (pv 0) (ve_op op_add l_rI0 (ve_ix rfl (ve_var 0 (pv 0)) ve_int (fun _ _ => rfl)) ve_int) ve_int)
    (vss_cons (vs_if (vt_cmp op_gt l_rI0 (ve_ix rfl (ve_var 0 (pv 0)) ve_int (fun _ _ => rfl)) ve_int (nomark _)) (vss_cons (vs_set1 (i := 2) scLDraw.nd rfl (Or.inl rfl) (ve_op op_mod l_rI (ve_ix rfl (ve_var 0 (pv 0)) ve_int (fun _ _ => rfl)) (ve_var 1 (pv 1))))
    (vss_cons (vs_setIx 0 (pv 0) (ve_op op_fdiv l_rI (ve_ix rfl (ve_var 0 (pv 0)) ve_int (fun _ _ => rfl)) (ve_var 1 (pv 1))) ve_int)
    (vss_one (vs_ret (ve_flat (ve_var 2 (pv 2))))))) vss_nil)
    (vss_cons (vs_set1 (i := 3) scLDraw.nd rfl (Or.inl rfl) (ve_op op_mod l_rI (ve_op op_add l_rI0 (ve_op op_add l_rI0 (ve_ix rfl (ve_var 0 (pv 0)) ve_int (fun _ _ => rfl)) (ve_op op_mul l_rI ve_int (ve_ix rfl (ve_var 0 (pv 0)) ve_int (fun _ _ => rfl)))) ve_int) ve_int))
    (vss_cons (vs_set1 (i := 3) scLDraw.nd rfl (Or.inl rfl) (ve_op op_add l_rI0 (ve_op op_mod l_rI (ve_op op_mul l_rI (ve_var 3 (pv 3)) (ve_var 3 (pv 3))) ve_int) (ve_op op_mul l_rI ve_int (ve_ix rfl (ve_var 0 (pv 0)) ve_int (fun _ _ => rfl)))))
    (vss_cons (vs_set1 (i := 3) scLDraw.nd rfl (Or.inl rfl) (ve_op op_mod l_rI (ve_op op_mul l_rI (ve_var 3 (pv 3)) (ve_var 3 (pv 3))) ve_int))
    (vss_one (vs_ret (ve_op op_mod l_rI (ve_op op_fdiv l_rI (ve_var 3 (pv 3)) ve_int) (ve_var 1 (pv 1)))))))))), ?_⟩
  rintro a pn ds es R hl ⟨b, m, e, ⟨x, y, c, rfl, hc0, hc1⟩, hb, hm0, hm1, q⟩
  obtain rfl : ds = [] := List.eq_nil_of_length_eq_zero hl
  obtain rfl : es = [.int m] := e
  walk_at "sl"
  walk_at "rd"
  refine i_kIfd (fun h1 => ?_) (fun h1 => ?_)
  · walk_at "rd"
    exact ⟨_, rfl, q _ _ ⟨_, _, _, rfl, by lia, by lia⟩ (Int.emod_nonneg _ (by lia)) (Int.emod_lt_of_pos _ hm0)⟩
  · walk_at "rd"
    exact ⟨_, rfl, q _ _ ⟨_, _, _, rfl, by lia, by lia⟩ (Int.emod_nonneg _ (by lia)) (Int.emod_lt_of_pos _ hm0)⟩
end
end My
namespace My
open PySem VL
theorem app_toList (x y : Str) : (x ++ y).cps.toList = x.cps.toList ++ y.cps.toList := by
  show (x.cps ++ y.cps).toList = _
  simp
theorem mk_back (s : Str) : mk s.cps.toList = s := str_ext (by rw [mk_toList])
theorem mk_app (a b : List Nat) : mk a ++ mk b = mk (a ++ b) := str_ext (by rw [app_toList, mk_toList, mk_toList, mk_toList])
def ris (k : Nat) (l : List Nat) : Bool := decide (∀ c ∈ l, 48 ≤ c ∧ c ≤ 48 + k) && decide (l.Pairwise (· < ·))
def cts (l : List Nat) : List Int := l.map fun (c : Nat) => (c : Int) - 48
def kdOf : List Nat → Option Nat
  | [52] => some 4
  | [54] => some 6
  | [56] => some 8
  | _ => none
theorem kd_some {a : List Nat} {k : Nat} (h : kdOf a = some k) : a = [48 + k] ∧ (k = 4 ∨ k = 6 ∨ k = 8) := by
  unfold kdOf at h
  split at h
  · cases h; exact ⟨rfl, .inl rfl⟩
  · cases h; exact ⟨rfl, .inr (.inl rfl)⟩
  · cases h; exact ⟨rfl, .inr (.inr rfl)⟩
  · cases h
theorem kd_none {a : List Nat} (h : kdOf a = none) : a ≠ [52] ∧ a ≠ [54] ∧ a ≠ [56] := by
  refine ⟨?_, ?_, ?_⟩ <;> (rintro rfl; cases h)
def rdW : List (List Nat) → Option (Nat × List Nat × List Nat)
  | [a, b, c] => match kdOf a with
    | some k => if ris k b = true ∧ ris k c = true then some (k, b, c) else none
    | none => none
  | _ => none
def rdR (z : Str) : Option (Nat × List Nat × List Nat) := rdW ((Txt.split z (mk [58])).map fun w => w.cps.toList)
def dueD : Option (Nat × List Nat × List Nat) → D
  | none => .non
  | some (k, b, c) => .tup [.int k, .tup ((cts b).map .int), .tup ((cts c).map .int)]
theorem cnt_split (z : Str) : Txt.count z (mk [58]) = ((Txt.split z (mk [58])).length : Int) - 1 := by
  have none_of : 58 ∉ z.cps.toList → Builtin.Str.occurrences z (mk [58]) 0 z.length (z.length + 1) = [] := fun hf => by
    rcases StrLaws.occ_head z (mk [58]) (z.length + 1) (by lia) with ⟨h0, _⟩ | ⟨i, r, h0, hi, hn⟩
    · exact h0
    · exact absurd (List.mem_of_getElem? ((StrLaws.subAt_one _ 58 i).mp hi)) hf
  have h : (Txt.split z (mk [58])).length = (Builtin.Str.occurrences z (mk [58]) 0 z.length (z.length + 1)).length + 1 := by
    have hf : ∀ p ∈ Txt.split z (mk [58]), 58 ∉ p.cps.toList := StrLaws.split_free z 58
    unfold Txt.split at hf ⊢
    by_cases hc : (decide (z.length < (mk [58]).length) || decide (Builtin.Str.strKind z < Builtin.Str.strKind (mk [58]))) = true
    · rw [if_pos hc] at hf ⊢
      rw [none_of (hf z List.mem_cons_self)]; rfl
    · rw [if_neg hc] at hf ⊢
      by_cases he : (Builtin.Str.occurrences z (mk [58]) 0 z.length (z.length + 1)).isEmpty = true
      · rw [if_pos he, List.isEmpty_iff.mp he]; rfl
      · rw [if_neg he]
        exact PyProof.Rows.len_partsBetween _ _ _
  show ((Builtin.Str.occurrences z (mk [58]) 0 z.length (z.length + 1)).length : Int) = _
  lia
theorem by_parts (z : Str) : jl 58 ((Txt.split z (mk [58])).map fun w => w.cps.toList) = z.cps.toList := by
  rw [← join_jl]
  exact congrArg (fun s : Str => s.cps.toList) (StrLaws.join_split z (mk [58]))
theorem parts_free (z : Str) : ∀ w ∈ (Txt.split z (mk [58])).map fun w => w.cps.toList, 58 ∉ w := by
  intro w hw
  obtain ⟨v, hv, rfl⟩ := List.mem_map.mp hw
  exact StrLaws.split_free z 58 v hv
theorem part_free {b c : List Nat} (h : 58 ∉ b) : L2.part3 (mk (b ++ 58 :: c)) (mk [58]) = [mk b, mk [58], mk c] := by
  have hx : (mk (b ++ 58 :: c)).cps.toList = b ++ 58 :: c := mk_toList _
  have hp : Txt.partition (mk (b ++ 58 :: c)) (mk [58]) = (mk b, mk [58], mk c) := by
    unfold Txt.partition
    have at_b : (mk (b ++ 58 :: c)).cps.toList[b.length]? = some 58 := by rw [hx]; simp
    rcases StrLaws.occ_head (mk (b ++ 58 :: c)) (mk [58]) 1 (Nat.le_refl 1) with ⟨_, hn⟩ | ⟨i, r, h0, hi, hn⟩
    · exact absurd ((StrLaws.subAt_one _ 58 b.length).mpr at_b) (hn b.length)
    · rw [h0]
      have hm := (StrLaws.subAt_one _ 58 i).mp hi
      have e : i = b.length := by
        rcases Nat.lt_trichotomy i b.length with lt | e | gt
        · rw [hx, List.getElem?_append_left lt] at hm
          exact absurd (List.mem_of_getElem? hm) h
        · exact e
        · exact absurd ((StrLaws.subAt_one _ 58 b.length).mpr at_b) (hn b.length gt)
      subst e
      show (Builtin.Str.strSub _ 0 b.length, mk [58], Builtin.Str.strSub _ (b.length + 1) _) = _
      have e1 : Builtin.Str.strSub (mk (b ++ 58 :: c)) 0 b.length = mk b := str_ext (by
        rw [StrLaws.strSub_toList, hx, mk_toList]; simp)
      have e2 : Builtin.Str.strSub (mk (b ++ 58 :: c)) (b.length + 1) (mk (b ++ 58 :: c)).length = mk c := str_ext (by
        rw [StrLaws.strSub_toList, hx, mk_toList, mk_len]; simp; exact List.take_of_length_le (by lia))
      rw [e1, e2]
  unfold L2.part3
  rw [hp]
theorem slice_two {x y : Nat} {l : List Nat} : Txt.slice (mk (x :: y :: l)) none (some 2) = mk [x, y] := by
  have h := PyProof.Rows.slice_closes_to (x := mk (x :: y :: l)) (j := 2) ⟨by decide, by rw [mk_toList, List.length_cons, List.length_cons]; lia⟩
  rw [mk_toList] at h
  exact (eq_of_beq h).trans rfl
theorem slice_from2 {x y : Nat} {l : List Nat} : Txt.slice (mk (x :: y :: l)) (some 2) none = mk l := by
  have h := PyProof.Rows.slice_closes_from (x := mk (x :: y :: l)) (i := 2) ⟨by decide, by rw [mk_toList, List.length_cons, List.length_cons]; lia⟩
  rw [mk_toList] at h
  refine (eq_of_beq h).trans ?_
  show mk _ = mk _
  congr 1
  simp
  exact List.take_of_length_le (by lia)
theorem slice_short1 {x : Nat} : Txt.slice (mk [x]) none (some 2) = mk [x] := by
  show StrLaws.sliceText (mk [x]) none (some 2) = mk [x]
  unfold StrLaws.sliceText
  have e : Builtin.Str.strSliceIndices none (some 2) 1 (mk [x]).length = [0] := by
    rw [mk_len]; show Builtin.Str.strSliceIndices none (some 2) 1 1 = [0]; decide
  rw [e]
  rfl
theorem in_one (z : Str) (c : Nat) : inS ⟨#[c]⟩ z = decide (c ∈ z.cps.toList) := StrLaws.found_one z c
theorem in_figs (c : Nat) : inS ⟨#[c]⟩ "0123456789" = decide (48 ≤ c ∧ c ≤ 57) := by
  rw [in_one]
  have e : (Str.ofString "0123456789").cps.toList = [48, 49, 50, 51, 52, 53, 54, 55, 56, 57] := by decide
  show decide (c ∈ (Str.ofString "0123456789").cps.toList) = _
  rw [e]
  simp only [List.mem_cons, List.not_mem_nil, or_false]
  exact decide_eq_decide.mpr (by omega)
theorem int_fig : ∀ c, c < 58 → 48 ≤ c → PySem.intText? ⟨#[c]⟩ = some ((c : Int) - 48) := by decide +kernel
end My
namespace My
open PySem VL
theorem rdW_three {ws : List (List Nat)} (h : ws.length ≠ 3) : rdW ws = none := by
  unfold rdW
  split
  · exact absurd rfl h
  · rfl
theorem first_two {z : Str} {a b c : List Nat} (e : z.cps.toList = a ++ 58 :: (b ++ 58 :: c)) (ha : 58 ∉ a) {k : Nat} (hk : k ≠ 58) : Txt.slice z none (some 2) = mk [k, 58] ↔ a = [k] := by
  rw [← mk_back z, e]
  match a, ha with
  | [], _ =>
    constructor
    · intro h
      have : ∀ l : List Nat, Txt.slice (mk (58 :: l)) none (some 2) = mk [k, 58] → k = 58 := by
        intro l h
        match l with
        | [] => rw [slice_short1] at h; have := congrArg (fun s : Str => s.cps.toList) h; simp [mk_toList] at this
        | y :: l =>
          rw [slice_two] at h
          have := congrArg (fun s : Str => s.cps.toList) h
          simp [mk_toList] at this
          exact this.1.symm
      exact absurd (this _ h) hk
    · intro h; cases h
  | [x], _ =>
    rw [show [x] ++ 58 :: (b ++ 58 :: c) = x :: 58 :: (b ++ 58 :: c) from rfl, slice_two]
    constructor
    · intro h
      have := congrArg (fun s : Str => s.cps.toList) h
      simp [mk_toList] at this
      rw [this]
    · intro h; cases h; rfl
  | x :: y :: r, ha =>
    rw [show (x :: y :: r) ++ 58 :: (b ++ 58 :: c) = x :: y :: (r ++ 58 :: (b ++ 58 :: c)) from rfl, slice_two]
    constructor
    · intro h
      have := congrArg (fun s : Str => s.cps.toList) h
      simp [mk_toList] at this
      exact absurd (by rw [this.2]; simp) ha
    · intro h; cases h
theorem same_rising : ∀ {a b : List Int}, a.Pairwise (· < ·) → b.Pairwise (· < ·) → (∀ k, k ∈ a ↔ k ∈ b) → a = b
  | [], [], _, _, _ => rfl
  | [], y :: b, _, _, h => absurd ((h y).mpr List.mem_cons_self) (by simp)
  | x :: a, [], _, _, h => absurd ((h x).mp List.mem_cons_self) (by simp)
  | x :: a, y :: b, ha, hb, h => by
    have ha' := List.pairwise_cons.mp ha
    have hb' := List.pairwise_cons.mp hb
    have e : x = y := by
      rcases List.mem_cons.mp ((h x).mp List.mem_cons_self) with e | e
      · exact e
      · rcases List.mem_cons.mp ((h y).mpr List.mem_cons_self) with f | f
        · exact f.symm
        · have := hb'.1 x e
          have := ha'.1 y f
          omega
    subst e
    rw [same_rising ha'.2 hb'.2 fun k => ⟨fun hk => ?_, fun hk => ?_⟩]
    · rcases List.mem_cons.mp ((h k).mp (List.mem_cons_of_mem _ hk)) with e | e
      · have := ha'.1 k hk; omega
      · exact e
    · rcases List.mem_cons.mp ((h k).mpr (List.mem_cons_of_mem _ hk)) with e | e
      · have := hb'.1 k hk; omega
      · exact e
theorem lt_of_le {a : List Int} (h : a.Pairwise (· ≤ ·)) (n : a.Nodup) : a.Pairwise (· < ·) :=
  (h.and n).imp fun ⟨x, y⟩ => by omega
theorem cts_lt {l : List Nat} : (cts l).Pairwise (· < ·) ↔ l.Pairwise (· < ·) := by
  unfold cts
  rw [List.pairwise_map]
  constructor <;> (intro h; exact h.imp fun x => by omega)
theorem set_same {l : List Nat} {ns : List Int} (nd : ns.Nodup) (hm : ∀ k, k ∈ ns ↔ k ∈ cts l) (hs : ns.Pairwise (· ≤ ·)) : cts l = ns ↔ l.Pairwise (· < ·) := by
  constructor
  · intro e; rw [← cts_lt, e]; exact lt_of_le hs nd
  · intro h; exact same_rising (cts_lt.mpr h) (lt_of_le hs nd) fun k => (hm k).symm
end My


namespace My
open PySem L2 VL
def Kd (k : Int) : Prop := k = 4 ∨ k = 6 ∨ k = 8
def rl (k : Int) (b s : List Int) : D := .tup [.int k, .tup (b.map .int), .tup (s.map .int)]
def pWh : List D → (D → Prop) → Prop := fun ds R => ∃ n : Int, ds = [.int n] ∧ R (.bl true)
def Cn (k : Int) (ns : List Int) : Prop := ns.Nodup ∧ (∀ n ∈ ns, 0 ≤ n ∧ n ≤ k) ∧ ns.length ≤ 9
def pRowL : List D → (D → Prop) → Prop := fun ds R => ∃ k ns, ds = [.int k, .lst (ns.map .int)] ∧ Cn k ns ∧ R (.bl true)
def pRowT : List D → (D → Prop) → Prop := fun ds R => ∃ k ns, ds = [.int k, .tup (ns.map .int)] ∧ Cn k ns ∧ R (.bl true)
def pRow : List D → (D → Prop) → Prop := fun ds R => pRowL ds R ∨ pRowT ds R
theorem all_bl {α : Type} (l : List α) {q : D → Prop} (h : q (.bl true)) : wAll (fun x => x.all id) [.lst (l.map fun _ => D.bl true)] q :=
  ⟨l.map fun _ => true, by rw [List.map_map]; rfl, by show q (.bl ((l.map fun _ => true).all id)); rw [show ((l.map fun _ => true).all id) = true by simp]; exact h⟩
theorem chainC {m k : Int} {Q : VR → List Sl → Prop} (h0 : 0 ≤ m) (h1 : m ≤ k) (h : Q (.d (.bl true)) [.val (.int m), .val (.int k)]) :
    vChain (wI0 fun i j => V.bl (decide (i ≤ j))) (wI0 fun i j => V.bl (decide (i ≤ j))) (vC (D.int 0)) (vVar 0) (vVar 1) [.val (.int m), .val (.int k)] Q := by
  unfold vChain
  refine j_c ?_
  refine j_var rfl ?_
  refine ⟨.int 0, .int m, rfl, rfl, 0, m, rfl, rfl, _, rfl, ?_⟩
  rw [if_pos (decide_eq_true h0)]
  refine j_var rfl ?_
  refine ⟨.int m, .int k, rfl, rfl, m, k, rfl, rfl, ?_⟩
  show Q (.d (.bl (decide (m ≤ k)))) _
  rw [decide_eq_true h1]
  exact h
section
variable {P : Program} {w : World} {K : PySem.W.Frag} {mg : Str → Option Value} {base : Heap}
theorem ok_wh (S : Src K mg "is_whole" sIsWhole) (T : Txt mg) : Has P w K mg base 1 "is_whole" ["thing"] (spP K pWh) := by
  refine has_P S scIsWhole (fun _ _ _ _ _ _ us hl => match us, hl with | [_], _ => rfl) (fun ds R zq1 => by obtain ⟨_, e, _⟩ := zq1; rw [e]; rfl) fun f cdv A outer s H E hr => ⟨_, _, (vss_one (vs_ret (ve_and (ve_callB (c_isi (K := K) rfl) l_isi (by rfl) T.isinstance_ bt_isinstance (va_cons (ve_var 0 (pv 0)) (va_cons (ve_pe (pe_bltn (v := .ty "int") (by rfl) T.int_ bt_int rfl) (fun _ _ => .ty _)) va_nil))) (ve_one (ve_not (ve_callB (c_isi (K := K) rfl) l_isi (by rfl) T.isinstance_ bt_isinstance (va_cons (ve_var 0 (pv 0)) (va_cons (ve_pe (pe_bltn (v := .ty "bool") (by rfl) T.bool_ bt_bool rfl) (fun _ _ => .ty _)) va_nil)))))))), ?_⟩
  rintro ds R ⟨n, rfl, q⟩
  walk_at "sl"
  walk_at "rc"
  exact q
theorem ok_rowL (S : Src K mg "is_row_of_counts" sIsRowOfCounts) (T : Txt mg) (E_is_whole : Has P w K mg base 1 "is_whole" ["thing"] (spP K pWh)) : Has P w K mg base 2 "is_row_of_counts" ["kind", "thing"] (spP K pRowL) := by
  refine has_P S scIsRowOfCounts (fun _ _ _ _ _ _ us hl => match us, hl with | [_, _], _ => rfl) (fun ds R zq1 => by obtain ⟨_, _, e, _⟩ := zq1; rw [e]; rfl) fun f cdv A outer s H E hr => ⟨_, _, (vss_cons (vs_if (vt_not (vt_val (ve_callB (c_isi2g (K := K) rfl) l_isi2g (by rfl) T.isinstance_ bt_isinstance (va_cons (ve_var 1 (pv 1)) (va_cons (ve_tup (va_cons (ve_pe (pe_bltn (v := .ty "list") (by rfl) T.list_ bt_list rfl) (fun _ _ => .ty _)) (va_cons (ve_pe (pe_bltn (v := .ty "tuple") (by rfl) T.tuple_ bt_tuple rfl) (fun _ _ => .ty _)) va_nil))) va_nil))))) (vss_one (vs_ret ve_bl)) vss_nil)
    (vss_cons (vs_if (vt_not (vt_val (ve_callB (c_all (K := K) rfl rfl) l_all (by rfl) T.all_ bt_all (va_cons (ve_new (vn_comp (tg := ["count"]) (cs := ["kind"]) (ix := [0]) (comp_scope (defScope sIsRowOfCounts) ["kind", "thing"] (by decide +kernel)) rfl (keeps_name (by decide)) (by decide) (vi_list rfl (ve_var 1 (pv 1))) (fun _ _ _ _ => (vg_name (pg_name (i := 0) (show (["count", "kind"] : List Str).Nodup by decide +kernel) rfl (Or.inl rfl) (by first | exact Or.inl rfl | exact Or.inr rfl)))) (fun _ _ _ _ => vts_nil) (fun _ _ _ _ => (ve_and (ve_fn E_is_whole hr (va_cons (ve_var 0 (pv 0)) va_nil)) (ve_one (ve_chain op_le l_rI0 op_le l_rI0 ve_int (ve_var 0 (pv 0)) (ve_var 1 (pv 1)))))))) va_nil)))) (vss_one (vs_ret ve_bl)) vss_nil)
    (vss_one (vs_ret (ve_cmp op_eq l_eq (ve_lenSetA rfl rfl (by rfl) T.len_ (by rfl) T.set_ (va_cons (ve_var 1 (pv 1)) va_nil)) (ve_callB (c_len (K := K) rfl) l_len (by rfl) T.len_ bt_len (va_cons (ve_var 1 (pv 1)) va_nil)) (nomark _)))))), ?_⟩
  rintro ds R ⟨k, ns, rfl, ⟨nd, hr1, hl⟩, q⟩
  walk_at "sl"
  walk_at "rc"
  refine comp_map (xs := ns) (en := D.int) (f := fun _ => .bl true) (by lia) (fun n hn A B hA => ?_) ?_
  · dsimp only [capS, List.replicate, List.map_cons, List.map_nil, List.cons_append, List.nil_append]
    walk_at "rc"
    refine ⟨n, rfl, ?_⟩
    walk_at "rc"
    refine chainC (hr1 n hn).1 (hr1 n hn).2 ?_
    walk_at "rc"
    exact hA _ rfl
  walk_at "rc"
  refine all_bl ns ?_
  walk_at "rc"
  refine j_kLenSetA (ns := ns) (.inl rfl) (by lia) ?_
  walk_at "rc"
  rw [dl_all nd, List.length_map, decide_eq_true rfl]
  exact q
theorem ok_rowT (S : Src K mg "is_row_of_counts" sIsRowOfCounts) (T : Txt mg) (E_is_whole : Has P w K mg base 1 "is_whole" ["thing"] (spP K pWh)) : Has P w K mg base 2 "is_row_of_counts" ["kind", "thing"] (spP K pRowT) := by
  refine has_P S scIsRowOfCounts (fun _ _ _ _ _ _ us hl => match us, hl with | [_, _], _ => rfl) (fun ds R zq1 => by obtain ⟨_, _, e, _⟩ := zq1; rw [e]; rfl) fun f cdv A outer s H E hr => ⟨_, _, (vss_cons (vs_if (vt_not (vt_val (ve_callB (c_isi2g (K := K) rfl) l_isi2g (by rfl) T.isinstance_ bt_isinstance (va_cons (ve_var 1 (pv 1)) (va_cons (ve_tup (va_cons (ve_pe (pe_bltn (v := .ty "list") (by rfl) T.list_ bt_list rfl) (fun _ _ => .ty _)) (va_cons (ve_pe (pe_bltn (v := .ty "tuple") (by rfl) T.tuple_ bt_tuple rfl) (fun _ _ => .ty _)) va_nil))) va_nil))))) (vss_one (vs_ret ve_bl)) vss_nil)
    (vss_cons (vs_if (vt_not (vt_val (ve_callB (c_all (K := K) rfl rfl) l_all (by rfl) T.all_ bt_all (va_cons (ve_new (vn_comp (tg := ["count"]) (cs := ["kind"]) (ix := [0]) (comp_scope (defScope sIsRowOfCounts) ["kind", "thing"] (by decide +kernel)) rfl (keeps_name (by decide)) (by decide) (vi_tup rfl (ve_var 1 (pv 1))) (fun _ _ _ _ => (vg_name (pg_name (i := 0) (show (["count", "kind"] : List Str).Nodup by decide +kernel) rfl (Or.inl rfl) (by first | exact Or.inl rfl | exact Or.inr rfl)))) (fun _ _ _ _ => vts_nil) (fun _ _ _ _ => (ve_and (ve_fn E_is_whole hr (va_cons (ve_var 0 (pv 0)) va_nil)) (ve_one (ve_chain op_le l_rI0 op_le l_rI0 ve_int (ve_var 0 (pv 0)) (ve_var 1 (pv 1)))))))) va_nil)))) (vss_one (vs_ret ve_bl)) vss_nil)
    (vss_one (vs_ret (ve_cmp op_eq l_eq (ve_lenSetA rfl rfl (by rfl) T.len_ (by rfl) T.set_ (va_cons (ve_var 1 (pv 1)) va_nil)) (ve_callB (c_len (K := K) rfl) l_len (by rfl) T.len_ bt_len (va_cons (ve_var 1 (pv 1)) va_nil)) (nomark _)))))), ?_⟩
  rintro ds R ⟨k, ns, rfl, ⟨nd, hr1, hl⟩, q⟩
  walk_at "sl"
  walk_at "rc"
  refine comp_map (xs := ns) (en := D.int) (f := fun _ => .bl true) (by lia) (fun n hn A B hA => ?_) ?_
  · dsimp only [capS, List.replicate, List.map_cons, List.map_nil, List.cons_append, List.nil_append]
    walk_at "rc"
    refine ⟨n, rfl, ?_⟩
    walk_at "rc"
    refine chainC (hr1 n hn).1 (hr1 n hn).2 ?_
    walk_at "rc"
    exact hA _ rfl
  walk_at "rc"
  refine all_bl ns ?_
  walk_at "rc"
  refine j_kLenSetA (ns := ns) (.inr rfl) (by lia) ?_
  walk_at "rc"
  rw [dl_all nd, List.length_map, decide_eq_true rfl]
  exact q
theorem ok_rowR (S : Src K mg "is_row_of_counts" sIsRowOfCounts) (T : Txt mg) (E_is_whole : Has P w K mg base 1 "is_whole" ["thing"] (spP K pWh)) : Has P w K mg base 2 "is_row_of_counts" ["kind", "thing"] (spP K pRow) := has_or (ok_rowL S T E_is_whole) (ok_rowT S T E_is_whole)
def pRule : List D → (D → Prop) → Prop := fun ds R => ∃ k bo sy, ds = [.int k, .lst (bo.map .int), .tup (sy.map .int)] ∧ Kd k ∧ Cn k bo ∧ Cn k sy ∧ ∀ b s : List Int, b.Perm bo → b.Pairwise (· ≤ ·) → s.Perm sy → s.Pairwise (· ≤ ·) → R (rl k b s)
theorem ok_rule (S : Src K mg "rule" sRule) (T : Txt mg) (E_is_whole : Has P w K mg base 1 "is_whole" ["thing"] (spP K pWh)) (E_is_row_of_counts : Has P w K mg base 2 "is_row_of_counts" ["kind", "thing"] (spP K pRow)) : Has P w K mg base 3 "rule" ["kind", "born", "stay"] (spP K pRule) := by
  refine has_P S scRule (fun _ _ _ _ _ _ us hl => match us, hl with | [_, _, _], _ => rfl) (fun ds R zq1 => by obtain ⟨_, _, _, e, _⟩ := zq1; rw [e]; rfl) fun f cdv A outer s H E hr => ⟨_, _, (vss_cons (vs_if (vw_pt (vw_or (vt_not (vt_val (ve_fn E_is_whole hr (va_cons (ve_var 0 (pv 0)) va_nil)))) (vw_or1 (vt_cmp (op_notInD (K := K) rfl hr.units) l_inD (ve_var 0 (pv 0)) (ve_tup (va_cons ve_int (va_cons ve_int (va_cons ve_int va_nil)))) (by with_unfolding_all rfl))))) (vss_one vs_never) vss_nil)
    (vss_cons (vs_if (vw_pt (vw_or (vt_not (vt_val (ve_fn E_is_row_of_counts hr (va_cons (ve_var 0 (pv 0)) (va_cons (ve_var 1 (pv 1)) va_nil))))) (vw_or1 (vt_not (vt_val (ve_fn E_is_row_of_counts hr (va_cons (ve_var 0 (pv 0)) (va_cons (ve_var 2 (pv 2)) va_nil)))))))) (vss_one vs_never) vss_nil)
    (vss_one (vs_ret (ve_tup (va_cons (ve_flat (ve_var 0 (pv 0))) (va_cons (ve_tupleOf rfl (by rfl) T.tuple_ (va_cons (ve_new (vn_sortI rfl rfl (by rfl) T.sorted_ bt_sorted (va_cons (ve_var 1 (pv 1)) va_nil))) va_nil)) (va_cons (ve_tupleOf rfl (by rfl) T.tuple_ (va_cons (ve_new (vn_sortIT rfl rfl (by rfl) T.sorted_ bt_sorted (va_cons (ve_var 2 (pv 2)) va_nil))) va_nil)) va_nil)))))))), ?_⟩
  rintro ds R ⟨k, bo, sy, rfl, hk, hb, hs, q⟩
  walk_at "sl"
  walk_at "rc"
  refine ⟨k, rfl, ?_⟩
  walk_at "rc"
  refine i_notInET (f := D.int) (l := [4, 6, 8]) enc_int ?_
  rw [decide_eq_true (show k ∈ [4, 6, 8] by rcases hk with rfl | rfl | rfl <;> simp)]
  walk_at "rc"
  refine .inl ⟨k, bo, rfl, hb, ?_⟩
  walk_at "rc"
  refine .inr ⟨k, sy, rfl, hs, ?_⟩
  walk_at "rc"
  refine j_kSortI (ns := bo) rfl (by have := hb.2.2; lia) fun b pb sb => ?_
  walk_at "rc"
  refine j_kTupL rfl (flats_ints _) ?_
  walk_at "rc"
  refine j_kSortIT (ns := sy) rfl (by have := hs.2.2; lia) fun s' ps ss => ?_
  walk_at "rc"
  refine j_kTupL rfl (flats_ints _) ?_
  walk_at "rc"
  exact q b s' pb sb ps ss
end
end My


namespace My
open PySem L2 VL
theorem sl_le {n : Nat} (h : n ≤ 1000000) : n ≤ sizeLine := Nat.le_trans h (by rw [sizeLine_eq]; decide)
theorem log9 : ∀ n : Nat, n ≤ 9 → (n : Int).natAbs.log2 < 1920 := by decide
theorem fig_str : ∀ n : Nat, n ≤ 9 → Str.ofString (toString (n : Int)) = mk [48 + n] := by decide
theorem ones_sum : ∀ (l : List Nat), ((l.map fun c => mk [c]).map (·.length)).sum = l.length
  | [] => rfl
  | c :: r => by
    rw [List.map_cons, List.map_cons, List.sum_cons, ones_sum r, mk_len, List.length_cons]
    show 1 + r.length = r.length + 1
    exact Nat.add_comm _ _
theorem joinE_ok {l : List Nat} (h : l.length ≤ 100) : JoinOk (mk []) (l.map fun c => mk [c]) = true :=
  PyProof.Rows.joinOk_of (Nat.le_trans (show ((l.map fun c => mk [c]).map (·.length)).sum + (l.map fun c => mk [c]).length * (mk []).length ≤ 100 by rw [ones_sum, mk_len]; simpa using h) (by decide))
theorem joinE0 : ∀ l : List Nat, (Str.join (mk []) (l.map fun c => mk [c])).cps.toList = l
  | [] => rfl
  | [c] => rfl
  | c :: d :: r => by
    have ih := joinE0 (d :: r)
    show (mk [c] ++ mk [] ++ Str.join (mk []) (mk [d] :: r.map fun c => mk [c])).cps.toList = _
    rw [app_toList, app_toList]
    rw [List.map_cons] at ih
    rw [ih, mk_toList, mk_toList]
    rfl
theorem joinE (l : List Nat) : Txt.join (mk []) (l.map fun c => mk [c]) = mk l := str_ext (by
  show (Builtin.Str.glued _ _).cps.toList = _
  rw [StrLaws.glued_eq_join, joinE0, mk_toList])
theorem cts_map (l : List Nat) : (cts l).map D.int = l.map fun (c : Nat) => D.int ((c : Int) - 48) := by unfold cts; rw [List.map_map]; rfl
theorem app_len (x y : Str) : (x ++ y).length = x.length + y.length := Str.length_append x y
theorem j_kJcM {a b : List Nat} {vj : VTJ} {S : List Sl} {Q : Str → List Sl → Prop} (hl : (a ++ b).length ≤ 1000) (h : vj S (mk (a ++ b)) Q) : kJc vj (mk a) Q (.d (.str (mk b))) S :=
  j_kJc (by rw [mk_app, mk_len]; exact sl_le (by lia)) (by rw [mk_app]; exact h)
def pSC : List D → (D → Prop) → Prop := fun ds R => ∃ l : List Nat, ds = [.tup ((cts l).map .int)] ∧ (∀ c ∈ l, 48 ≤ c ∧ c ≤ 57) ∧ l.length ≤ 100 ∧ R (.str (mk l))
def txR (k : Nat) (b s : List Nat) : Str := mk ((48 + k) :: 58 :: (b ++ 58 :: s))
def pSR : List D → (D → Prop) → Prop := fun ds R => ∃ (k : Nat) (b s : List Nat), ds = [rl k (cts b) (cts s)] ∧ k ≤ 9 ∧ (∀ c ∈ b, 48 ≤ c ∧ c ≤ 57) ∧ (∀ c ∈ s, 48 ≤ c ∧ c ≤ 57) ∧ b.length ≤ 100 ∧ s.length ≤ 100 ∧ R (.str (txR k b s))
section
variable {P : Program} {w : World} {K : PySem.W.Frag} {mg : Str → Option Value} {base : Heap}
theorem ok_sc (S : Src K mg "show_counts" sShowCounts) (T : Txt mg) : Has P w K mg base 1 "show_counts" ["counts"] (spP K pSC) := by
  refine has_P S scShowCounts (fun _ _ _ _ _ _ us hl => match us, hl with | [_], _ => rfl) (fun ds R zq1 => by obtain ⟨_, e, _⟩ := zq1; rw [e]; rfl) fun f cdv A outer s H E hr => ⟨_, _, (vss_one (vs_ret (ve_joinN rfl ve_str (vn_comp (tg := ["count"]) (cs := []) (ix := []) (comp_scope (defScope sShowCounts) ["counts"] (by decide +kernel)) rfl (keeps_name (by decide)) (by decide) (vi_tup rfl (ve_var 0 (pv 0))) (fun _ _ _ _ => (vg_name (pg_name (i := 0) (show (["count"] : List Str).Nodup by decide +kernel) rfl (Or.inl rfl) (by first | exact Or.inl rfl | exact Or.inr rfl)))) (fun _ _ _ _ => vts_nil) (fun _ _ _ _ => (ve_callTy call_str_int l_strI (by rfl) T.str_ bt_str (va_cons (ve_var 0 (pv 0)) va_nil))))))), ?_⟩
  rintro ds R ⟨l, rfl, hf, hl, q⟩
  walk_at "sl"
  walk_at "rc"
  rw [cts_map]
  refine comp_map (xs := l) (f := fun c => D.str (mk [c])) (by lia) (fun c hc A B hA => ?_) ?_
  · dsimp only [capS, List.replicate, List.map_cons, List.map_nil, List.cons_append, List.nil_append]
    walk_at "rc"
    have h := hf c hc
    obtain ⟨n, rfl⟩ : ∃ n, c = 48 + n := ⟨c - 48, by lia⟩
    have e : (((48 + n : Nat) : Int) - 48) = (n : Int) := by lia
    rw [e]
    refine j_strI (log9 n (by lia)) ?_
    walk_at "rc"
    rw [fig_str n (by lia)]
    exact hA _ rfl
  refine j_kJoB (zs := l.map fun c => mk [c]) (by rw [List.map_map]; rfl) (joinE_ok hl) ?_
  rw [show Str.ofString "" = mk [] from rfl, joinE]
  walk_at "rc"
  exact q
theorem ok_sr (S : Src K mg "show_rule" sShowRule) (T : Txt mg) (E_show_counts : Has P w K mg base 1 "show_counts" ["counts"] (spP K pSC)) : Has P w K mg base 2 "show_rule" ["rule"] (spP K pSR) := by
  refine has_P S scShowRule (fun _ _ _ _ _ _ us hl => match us, hl with | [_], _ => rfl) (fun ds R zq1 => by obtain ⟨_, _, _, e, _⟩ := zq1; rw [e]; rfl) fun f cdv A outer s H E hr => ⟨_, _, (vss_cons (vs_asg (ve_var 0 (pv 0)) (vg_tup (n := 3) rfl rfl (vgs_cons (vg_name (pg_name (i := 1) scShowRule.nd rfl (Or.inl rfl) (Or.inl rfl))) (vgs_cons (vg_name (pg_name (i := 2) scShowRule.nd rfl (Or.inl rfl) (Or.inl rfl))) (vgs_cons (vg_name (pg_name (i := 3) scShowRule.nd rfl (Or.inl rfl) (Or.inl rfl))) vgs_nil)))))
    (vss_one (vs_ret (ve_joined (vj_cons (ve_fmt (ve_var 1 (pv 1))) (vj_cons ve_str (vj_cons (ve_fmt (ve_fn E_show_counts hr (va_cons (ve_var 2 (pv 2)) va_nil))) (vj_cons ve_str (vj_cons (ve_fmt (ve_fn E_show_counts hr (va_cons (ve_var 3 (pv 3)) va_nil))) vj_nil))))))))), ?_⟩
  rintro ds R ⟨k, b, s, rfl, hk, hb, hs, lb, ls, q⟩
  unfold rl
  walk_at "sl"
  walk_at "rc"
  refine j_kFmtI (log9 k hk) ?_
  have e0 : Str.empty ++ Str.ofString (toString (k : Int)) = mk [48 + k] := by rw [fig_str k hk]; exact str_ext (by rw [app_toList]; rfl)
  have e1 : Str.ofString ":" = mk [58] := rfl
  refine j_kJc (by rw [e0, mk_len]; exact sl_le (show 1 ≤ 1000000 by decide)) ?_
  rw [e0, e1]
  walk_at "rd"
  refine j_kJcM (by simp) ?_
  walk_at "rd"
  refine ⟨b, rfl, hb, lb, ?_⟩
  walk_at "rd"
  refine j_kFmtS (by rw [mk_len]; exact sl_le (by lia)) ?_
  refine j_kJcM (by simp; lia) ?_
  walk_at "rd"
  refine j_kJcM (by simp; lia) ?_
  walk_at "rd"
  refine ⟨s, rfl, hs, ls, ?_⟩
  walk_at "rd"
  refine j_kFmtS (by rw [mk_len]; exact sl_le (by lia)) ?_
  refine j_kJcM (by simp; lia) ?_
  refine j_jn (by rw [mk_len]; exact sl_le (by simp; lia)) ?_
  walk_at "rd"
  have e : [48 + k] ++ [58] ++ b ++ [58] ++ s = (48 + k) :: 58 :: (b ++ 58 :: s) := by simp
  rw [e]
  exact q
end
end My


namespace My
open PySem L2 VL
theorem sgs_mk (l : List Nat) : sgs (mk l) = l.map fun c => .str ⟨#[c]⟩ := by unfold sgs; rw [mk_toList]
theorem all_map {α : Type} (l : List α) (p : α → Bool) {q : D → Prop} (h : q (.bl (l.all p))) : wAll (fun x => x.all id) [.lst (l.map fun x => D.bl (p x))] q :=
  ⟨l.map p, by rw [List.map_map]; rfl, by show q (.bl ((l.map p).all id)); rw [List.all_map]; exact h⟩
def figB (c : Nat) : Bool := decide (48 ≤ c ∧ c ≤ 57)
theorem ris_figs {k : Nat} (hk : k ≤ 9) {l : List Nat} (h : ris k l = true) : l.all figB = true := by
  unfold ris at h
  rw [Bool.and_eq_true, decide_eq_true_eq] at h
  refine List.all_eq_true.mpr fun c hc => decide_eq_true ?_
  have := h.1 c hc
  lia
theorem ris_cts {k : Nat} {l : List Nat} (hf : l.all figB = true) : ris k l = (decide (l.Pairwise (· < ·)) && (cts l).all fun n => decide (n ≤ k)) := by
  have hf' : ∀ c ∈ l, 48 ≤ c ∧ c ≤ 57 := fun c hc => of_decide_eq_true (List.all_eq_true.mp hf c hc)
  unfold ris
  rw [Bool.and_comm]
  congr 1
  unfold cts
  rw [List.all_map]
  rw [Bool.eq_iff_iff, decide_eq_true_eq, List.all_eq_true]
  refine ⟨fun h c hc => decide_eq_true ?_, fun h c hc => ⟨(hf' c hc).1, ?_⟩⟩
  · have := h c hc
    show (c : Int) - 48 ≤ k
    lia
  · have := of_decide_eq_true (h c hc)
    have : (c : Int) - 48 ≤ k := this
    lia
def pRC : List D → (D → Prop) → Prop := fun ds R => ∃ (k : Nat) (l : List Nat), ds = [.int k, .str (mk l)] ∧ k ≤ 9 ∧ l.length ≤ 63 ∧ ris k l = true ∧ R (.tup ((cts l).map .int))
def bdC (cN : Addr) : List D → Addr → Prop := fun ds C => ∃ (k : Nat) (l : List Nat), ds = [.int k, .str (mk l)] ∧ k ≤ 9 ∧ l.length ≤ 63 ∧ ris k l = false ∧ C = cN
theorem enc_ints : Enc 1 (fun l : List Int => D.lst (l.map .int)) := enc_int.lst
theorem cts_len (l : List Nat) : (cts l).length = l.length := by unfold cts; rw [List.length_map]
section
variable {P : Program} {w : World} {K : PySem.W.Frag} {mg : Str → Option Value} {base : Heap}
theorem ok_rc {t1 : Tok} (S : Src K mg "read_counts" sReadCounts) (T : Txt mg) (g_FIGURES : mg "FIGURES" = some (.str "0123456789" t1)) : Has P w K mg base 1 "read_counts" ["kind", "text"] (spP K pRC) := by
  refine has_P S scReadCounts (fun _ _ _ _ _ _ us hl => match us, hl with | [_, _], _ => rfl) (fun ds R zq1 => by obtain ⟨_, _, e, _⟩ := zq1; rw [e]; rfl) fun f cdv A outer s H E hr => ⟨_, _, (vss_cons (vs_if (vt_not (vt_val (ve_callB (c_all (K := K) rfl rfl) l_all (by rfl) T.all_ bt_all (va_cons (ve_new (vn_comp (tg := ["sign"]) (cs := []) (ix := []) (comp_scope (defScope sReadCounts) ["kind", "text", "counts"] (by decide +kernel)) rfl (keeps_name (by decide)) (by decide) (vi_str (ve_var 1 (pv 1))) (fun _ _ _ _ => (vg_name (pg_name (i := 0) (show (["sign"] : List Str).Nodup by decide +kernel) rfl (Or.inl rfl) (by first | exact Or.inl rfl | exact Or.inr rfl)))) (fun _ _ _ _ => vts_nil) (fun _ _ _ _ => (ve_cmp op_in_str l_inS (ve_var 0 (pv 0)) (ve_pe (pe_glob (v := .str "0123456789") (by rfl) g_FIGURES ⟨_, rfl⟩) (fun _ _ => .str _)) (by with_unfolding_all rfl))))) va_nil)))) (vss_one vs_never) vss_nil)
    (vss_cons (vs_compV (ii := 2) (tg := ["sign"]) (cs := []) (ix := []) scReadCounts.nd rfl (Or.inl rfl) (Or.inl rfl) (comp_scope (defScope sReadCounts) ["kind", "text", "counts"] (by decide +kernel)) rfl (keeps_name (by decide)) (by decide) (vi_str (ve_var 1 (pv 1))) (fun _ _ _ _ => (vg_name (pg_name (i := 0) (show (["sign"] : List Str).Nodup by decide +kernel) rfl (Or.inl rfl) (by first | exact Or.inl rfl | exact Or.inr rfl)))) (fun _ _ _ _ => vts_nil) (fun _ _ _ _ => (ve_callTy call_intS l_intS (by rfl) T.int_ bt_int (va_cons (ve_var 0 (pv 0)) va_nil))))
    (vss_cons (vs_if (vw_pt (vw_or (vt_cmp (op_neD (K := K) rfl hr.units) l_eqD (ve_var 2 (pv 2)) (ve_new (vn_sortSN rfl rfl (by rfl) T.sorted_ (by rfl) T.set_ (va_cons (ve_var 2 (pv 2)) va_nil))) (nomark _)) (vw_or1 (vt_not (vt_val (ve_callB (c_all (K := K) rfl rfl) l_all (by rfl) T.all_ bt_all (va_cons (ve_new (vn_comp (tg := ["count"]) (cs := ["kind"]) (ix := [0]) (comp_scope (defScope sReadCounts) ["kind", "text", "counts"] (by decide +kernel)) rfl (keeps_name (by decide)) (by decide) (vi_list rfl (ve_var 2 (pv 2))) (fun _ _ _ _ => (vg_name (pg_name (i := 0) (show (["count", "kind"] : List Str).Nodup by decide +kernel) rfl (Or.inl rfl) (by first | exact Or.inl rfl | exact Or.inr rfl)))) (fun _ _ _ _ => vts_nil) (fun _ _ _ _ => (ve_cmp op_le l_rI0 (ve_var 0 (pv 0)) (ve_var 1 (pv 1)) (nomark _))))) va_nil))))))) (vss_one vs_never) vss_nil)
    (vss_one (vs_ret (ve_tupleOf rfl (by rfl) T.tuple_ (va_cons (ve_var 2 (pv 2)) va_nil))))))), ?_⟩
  rintro ds R ⟨k, l, rfl, hk, hl, hr1, q⟩
  have hf := ris_figs hk hr1
  have hf' : ∀ c ∈ l, 48 ≤ c ∧ c ≤ 57 := fun c hc => of_decide_eq_true (List.all_eq_true.mp hf c hc)
  have hc := hr1
  rw [ris_cts hf, Bool.and_eq_true, decide_eq_true_eq] at hc
  walk_at "sl"
  walk_at "rd"
  rw [sgs_mk]
  refine comp_map (xs := l) (f := fun c => D.bl (figB c)) (by lia) (fun c hc A B hA => ?_) ?_
  · dsimp only [capS, List.replicate, List.map_cons, List.map_nil, List.cons_append, List.nil_append]
    walk_at "rd"
    refine j_inS (in_figs c) ?_
    walk_at "rd"
    exact hA _ rfl
  walk_at "rd"
  refine all_map l figB ?_
  rw [hf]
  walk_at "rc"
  rw [sgs_mk]
  refine comp_map (xs := l) (f := fun (c : Nat) => D.int ((c : Int) - 48)) (by lia) (fun c hc A B hA => ?_) ?_
  · dsimp only [capS, List.replicate, List.map_cons, List.map_nil, List.cons_append, List.nil_append]
    have := hf' c hc
    walk_at "rd"
    refine j_intS (int_fig c (by lia) this.1) (by show (1 : Nat) ≤ 640; decide) ?_
    walk_at "rd"
    exact hA _ rfl
  rw [← cts_map]
  walk_at "rd"
  refine j_kSortSN (ns := cts l) rfl (by rw [cts_len]; exact hl) fun ns nd hm hs => ?_
  walk_at "rd"
  refine i_neF enc_ints (x := cts l) (y := ns) ((set_same nd hm hs).mpr hc.1) ?_
  walk_at "rd"
  refine comp_map (xs := cts l) (en := D.int) (f := fun n => D.bl (decide (n ≤ (k : Int)))) (by rw [cts_len]; lia) (fun n hn A B hA => ?_) ?_
  · dsimp only [capS, List.replicate, List.map_cons, List.map_nil, List.cons_append, List.nil_append]
    walk_at "rd"
    exact hA _ rfl
  walk_at "rd"
  refine all_map (cts l) (fun n => decide (n ≤ (k : Int))) ?_
  rw [hc.2]
  walk_at "rc"
  refine j_kTupL rfl (flats_ints _) ?_
  walk_at "rc"
  exact q
theorem ok_rcX {c_NoText : Addr} {t1 : Tok} (S : Src K mg "read_counts" sReadCounts) (T : Txt mg) (g_FIGURES : mg "FIGURES" = some (.str "0123456789" t1)) (g_NoText : mg "NoText" = some (.ref c_NoText)) (x_NoText : PySem.W.excIn K c_NoText [.type "ValueError", .type "Exception", .type "BaseException", .type "object"] "ValueError.__new__" = true) : HasX P w K mg base 1 "read_counts" ["kind", "text"] (bdC c_NoText) := by
  refine has_X S scReadCounts (fun _ _ _ _ _ _ us hl => match us, hl with | [_, _], _ => rfl) (fun ds C zq1 => by obtain ⟨_, _, e, _⟩ := zq1; rw [e]; rfl) fun f cdv A outer s H E hr TH => ⟨_, _, (vx_if (vt_not (vt_val (ve_callB (c_all (K := K) rfl rfl) l_all (by rfl) T.all_ bt_all (va_cons (ve_new (vn_comp (tg := ["sign"]) (cs := []) (ix := []) (comp_scope (defScope sReadCounts) ["kind", "text", "counts"] (by decide +kernel)) rfl (keeps_name (by decide)) (by decide) (vi_str (ve_var 1 (pv 1))) (fun _ _ _ _ => (vg_name (pg_name (i := 0) (show (["sign"] : List Str).Nodup by decide +kernel) rfl (Or.inl rfl) (by first | exact Or.inl rfl | exact Or.inr rfl)))) (fun _ _ _ _ => vts_nil) (fun _ _ _ _ => (ve_cmp op_in_str l_inS (ve_var 0 (pv 0)) (ve_pe (pe_glob (v := .str "0123456789") (by rfl) g_FIGURES ⟨_, rfl⟩) (fun _ _ => .str _)) (by with_unfolding_all rfl))))) va_nil)))) (vx_raise TH PySem.F.excBase_ValueError x_NoText g_NoText rfl)
    (vx_seq (vs_compV (ii := 2) (tg := ["sign"]) (cs := []) (ix := []) scReadCounts.nd rfl (Or.inl rfl) (Or.inl rfl) (comp_scope (defScope sReadCounts) ["kind", "text", "counts"] (by decide +kernel)) rfl (keeps_name (by decide)) (by decide) (vi_str (ve_var 1 (pv 1))) (fun _ _ _ _ => (vg_name (pg_name (i := 0) (show (["sign"] : List Str).Nodup by decide +kernel) rfl (Or.inl rfl) (by first | exact Or.inl rfl | exact Or.inr rfl)))) (fun _ _ _ _ => vts_nil) (fun _ _ _ _ => (ve_callTy call_intS l_intS (by rfl) T.int_ bt_int (va_cons (ve_var 0 (pv 0)) va_nil)))) (vx_if (vw_pt (vw_or (vt_cmp (op_neD (K := K) rfl hr.units) l_eqD (ve_var 2 (pv 2)) (ve_new (vn_sortSN rfl rfl (by rfl) T.sorted_ (by rfl) T.set_ (va_cons (ve_var 2 (pv 2)) va_nil))) (nomark _)) (vw_or1 (vt_not (vt_val (ve_callB (c_all (K := K) rfl rfl) l_all (by rfl) T.all_ bt_all (va_cons (ve_new (vn_comp (tg := ["count"]) (cs := ["kind"]) (ix := [0]) (comp_scope (defScope sReadCounts) ["kind", "text", "counts"] (by decide +kernel)) rfl (keeps_name (by decide)) (by decide) (vi_list rfl (ve_var 2 (pv 2))) (fun _ _ _ _ => (vg_name (pg_name (i := 0) (show (["count", "kind"] : List Str).Nodup by decide +kernel) rfl (Or.inl rfl) (by first | exact Or.inl rfl | exact Or.inr rfl)))) (fun _ _ _ _ => vts_nil) (fun _ _ _ _ => (ve_cmp op_le l_rI0 (ve_var 0 (pv 0)) (ve_var 1 (pv 1)) (nomark _))))) va_nil))))))) (vx_raise TH PySem.F.excBase_ValueError x_NoText g_NoText rfl)
    vx_never))), ?_⟩
  rintro ds C ⟨k, l, rfl, hk, hl, hr1, rfl⟩
  walk_at "sl"
  walk_at "rd"
  rw [sgs_mk]
  refine comp_map (xs := l) (f := fun c => D.bl (figB c)) (by lia) (fun c hc A B hA => ?_) ?_
  · dsimp only [capS, List.replicate, List.map_cons, List.map_nil, List.cons_append, List.nil_append]
    walk_at "rd"
    refine j_inS (in_figs c) ?_
    walk_at "rd"
    exact hA _ rfl
  walk_at "rd"
  refine all_map l figB ?_
  walk_at "rd"
  by_cases hf : l.all figB = true
  · have hf' : ∀ c ∈ l, 48 ≤ c ∧ c ≤ 57 := fun c hc => of_decide_eq_true (List.all_eq_true.mp hf c hc)
    rw [hf]
    show if (!true) = true then _ else _
    rw [if_neg (by decide)]
    walk_at "rc"
    rw [sgs_mk]
    refine comp_map (xs := l) (f := fun (c : Nat) => D.int ((c : Int) - 48)) (by lia) (fun c hc A B hA => ?_) ?_
    · dsimp only [capS, List.replicate, List.map_cons, List.map_nil, List.cons_append, List.nil_append]
      have := hf' c hc
      walk_at "rd"
      refine j_intS (int_fig c (by lia) this.1) (by show (1 : Nat) ≤ 640; decide) ?_
      walk_at "rd"
      exact hA _ rfl
    rw [← cts_map]
    walk_at "rd"
    refine j_kSortSN (ns := cts l) rfl (by rw [cts_len]; exact hl) fun ns nd hm hs => ?_
    walk_at "rd"
    rw [ris_cts hf] at hr1
    by_cases hp : l.Pairwise (· < ·)
    · refine i_neF enc_ints (x := cts l) (y := ns) ((set_same nd hm hs).mpr hp) ?_
      walk_at "rd"
      refine comp_map (xs := cts l) (en := D.int) (f := fun n => D.bl (decide (n ≤ (k : Int)))) (by rw [cts_len]; lia) (fun n hn A B hA => ?_) ?_
      · dsimp only [capS, List.replicate, List.map_cons, List.map_nil, List.cons_append, List.nil_append]
        walk_at "rd"
        exact hA _ rfl
      walk_at "rd"
      refine all_map (cts l) (fun n => decide (n ≤ (k : Int))) ?_
      rw [decide_eq_true hp, Bool.true_and] at hr1
      rw [hr1]
      walk_at "rc"
      show if (!false) = true then _ else _
      rw [if_pos (show (!false) = true from rfl)]
      trivial
    · refine i_neT enc_ints (x := cts l) (y := ns) (fun z => hp ((set_same nd hm hs).mp z)) ?_
      walk_at "rd"
      show if true = true then _ else _
      rw [if_pos rfl]
      trivial
  · rw [Bool.eq_false_iff.mpr hf]
    show if (!false) = true then _ else _
    rw [if_pos (show (!false) = true from rfl)]
    trivial
end
end My


namespace My
open PySem L2 VL
def prts (z : Str) : List (List Nat) := (Txt.split z (mk [58])).map fun w => w.cps.toList
theorem prts_strs (z : Str) : Txt.split z (mk [58]) = (prts z).map mk := by
  unfold prts
  rw [List.map_map]
  conv => lhs; rw [← List.map_id (Txt.split z (mk [58]))]
  exact List.map_congr_left fun w _ => (mk_back w).symm
theorem prts_len (z : Str) : (Txt.split z (mk [58])).length = (prts z).length := by unfold prts; rw [List.length_map]
theorem prts_three {z : Str} {a b c : List Nat} (h : prts z = [a, b, c]) : z.cps.toList = a ++ 58 :: (b ++ 58 :: c) ∧ 58 ∉ a ∧ 58 ∉ b ∧ 58 ∉ c := by
  have h1 := by_parts z
  have h2 := parts_free z
  change jl 58 (prts z) = _ at h1
  change ∀ w ∈ prts z, 58 ∉ w at h2
  rw [h] at h1 h2
  refine ⟨h1.symm, h2 a (by simp), h2 b (by simp), h2 c (by simp)⟩
theorem prts_small {z : Str} {n : Nat} (hz : z.length ≤ n) {a b c : List Nat} (h : prts z = [a, b, c]) : b.length ≤ n ∧ c.length ≤ n := by
  have h1 := congrArg List.length (prts_three h).1
  rw [List.length_append, List.length_cons, List.length_append, List.length_cons, Array.length_toList] at h1
  have : z.cps.size = z.length := rfl
  lia
theorem split_len {z : Str} {n : Nat} (hz : z.length ≤ n) : (Txt.split z (mk [58])).length ≤ n + 2 := by
  have h1 := cnt_split z
  have h2 : Txt.count z (mk [58]) = ((Builtin.Str.occurrences z (mk [58]) 0 z.length (z.length + 1)).length : Int) := rfl
  have h3 := StrLaws.occ_length_le_len z (mk [58]) 0 z.length (z.length + 1)
  have h5 := h1.symm.trans h2
  clear h1 h2
  generalize (Builtin.Str.occurrences z (mk [58]) 0 z.length (z.length + 1)).length = m at h3 h5
  generalize (Txt.split z (mk [58])).length = m2 at h5 ⊢
  lia
def three : List Str := ["4", "6", "8"]
theorem three_mem (a : List Nat) : decide (mk a ∈ three) = (kdOf a).isSome := by
  have e : three = [mk [52], mk [54], mk [56]] := by decide
  have inj : ∀ b : List Nat, mk a = mk b ↔ a = b := fun b => ⟨fun h => by have := congrArg (fun s : Str => s.cps.toList) h; simpa [mk_toList] using this, fun h => by rw [h]⟩
  rw [e]
  by_cases h : kdOf a = none
  · obtain ⟨n1, n2, n3⟩ := kd_none h
    rw [h, decide_eq_false (by simp [inj, n1, n2, n3])]; rfl
  · obtain ⟨k, hk⟩ := Option.ne_none_iff_exists'.mp h
    obtain ⟨rfl, rfl | rfl | rfl⟩ := kd_some hk
    · rw [hk, decide_eq_true (by simp)]; rfl
    · rw [hk, decide_eq_true (by simp)]; rfl
    · rw [hk, decide_eq_true (by simp)]; rfl
theorem kd_int : ∀ k : Nat, k ≤ 9 → PySem.intText? (mk [48 + k]) = some (k : Int) := by decide +kernel
def pRR : List D → (D → Prop) → Prop := fun ds R => ∃ (z : Str) (r : Nat × List Nat × List Nat), ds = [.str z] ∧ z.length ≤ 63 ∧ rdR z = some r ∧ R (dueD (some r))
def NoTx : D → Prop
  | .int _ => True
  | .bl _ => True
  | .non => True
  | .lst _ => True
  | .tup _ => True
  | .dic _ _ => True
  | _ => False
def bdR (cN : Addr) : List D → Addr → Prop := fun ds C => (∃ z : Str, ds = [.str z] ∧ z.length ≤ 63 ∧ rdR z = none ∧ C = cN) ∨ ∃ d, ds = [d] ∧ NoTx d ∧ C = cN
theorem rdR_eq (z : Str) : rdR z = rdW (prts z) := rfl
theorem rdW_some {ws : List (List Nat)} {r : Nat × List Nat × List Nat} (h : rdW ws = some r) : ∃ a b c k, ws = [a, b, c] ∧ kdOf a = some k ∧ ris k b = true ∧ ris k c = true ∧ r = (k, b, c) := by
  unfold rdW at h
  split at h
  · rename_i a b c
    split at h
    · rename_i k hk
      split at h
      · rename_i hr
        exact ⟨a, b, c, k, rfl, hk, hr.1, hr.2, (Option.some.inj h).symm⟩
      · cases h
    · cases h
  · cases h
section
variable {P : Program} {w : World} {K : PySem.W.Frag} {mg : Str → Option Value} {base : Heap}
theorem ok_rr {a_KINDS : Addr} (S : Src K mg "read_rule" sReadRule) (T : Txt mg) (E_read_counts : Has P w K mg base 1 "read_counts" ["kind", "text"] (spP K pRC)) (g_KINDS : mg "KINDS" = some (.ref a_KINDS)) (k_KINDS : okTS K (.ref a_KINDS) three = true) : Has P w K mg base 2 "read_rule" ["text"] (spP K pRR) := by
  have r_KINDS : ∀ N H, Rep K N AnyF H (.ref a_KINDS) (.tup (three.map .str)) := fun _ _ => rep_ts k_KINDS
  refine has_P S scReadRule (fun _ _ _ _ _ _ us hl => match us, hl with | [_], _ => rfl) (fun ds R zq1 => by obtain ⟨_, _, e, _⟩ := zq1; rw [e]; rfl) fun f cdv A outer s H E hr => ⟨_, _, (vss_cons (vs_if (vt_not (vt_val (ve_callB (c_isi (K := K) rfl) l_isi (by rfl) T.isinstance_ bt_isinstance (va_cons (ve_var 0 (pv 0)) (va_cons (ve_pe (pe_bltn (v := .ty "str") (by rfl) T.str_ bt_str rfl) (fun _ _ => .ty _)) va_nil))))) (vss_one vs_never) vss_nil)
    (vss_cons (vs_set1 (i := 1) scReadRule.nd rfl (Or.inl rfl) (ve_new (vn_split rfl rfl (ve_var 0 (pv 0)) ve_str)))
    (vss_cons (vs_if (vw_pt (vw_or (vt_cmp op_ne l_ne (ve_callB (c_len (K := K) rfl) l_len (by rfl) T.len_ bt_len (va_cons (ve_var 1 (pv 1)) va_nil)) ve_int (nomark _)) (vw_or1 (vt_cmp (o_notInS (K := K) rfl) l_inT (ve_ix rfl (ve_var 1 (pv 1)) ve_int (fun _ _ => rfl)) (ve_pe (pe_glob (v := .ref a_KINDS) (by rfl) g_KINDS rfl) r_KINDS) (by with_unfolding_all rfl))))) (vss_one vs_never) vss_nil)
    (vss_cons (vs_set1 (i := 2) scReadRule.nd rfl (Or.inl rfl) (ve_callTy call_intS l_intS (by rfl) T.int_ bt_int (va_cons (ve_ix rfl (ve_var 1 (pv 1)) ve_int (fun _ _ => rfl)) va_nil)))
    (vss_one (vs_ret (ve_tup (va_cons (ve_flat (ve_var 2 (pv 2))) (va_cons (ve_fn E_read_counts hr (va_cons (ve_var 2 (pv 2)) (va_cons (ve_ix rfl (ve_var 1 (pv 1)) ve_int (fun _ _ => rfl)) va_nil))) (va_cons (ve_fn E_read_counts hr (va_cons (ve_var 2 (pv 2)) (va_cons (ve_ix rfl (ve_var 1 (pv 1)) ve_int (fun _ _ => rfl)) va_nil))) va_nil)))))))))), ?_⟩
  rintro ds R ⟨z, r, rfl, hz, hrd, q⟩
  obtain ⟨a, b, c, k, e3, ek, rb, rc, rfl⟩ := rdW_some hrd
  change prts z = _ at e3
  obtain ⟨hzs, ha, hb, hc⟩ := prts_three e3
  obtain ⟨lb, lc⟩ := prts_small hz e3
  have es : Txt.split z (mk [58]) = [mk a, mk b, mk c] := by rw [prts_strs, e3]; rfl
  have kd := kd_some ek
  have k9 : k ≤ 9 := by rcases kd.2 with rfl | rfl | rfl <;> decide
  walk_at "sl"
  walk_at "rc"
  refine j_kSpB (sl_le (by lia)) rfl es (sl_le (show 3 ≤ 1000000 by decide)) ?_
  walk_at "rc"
  refine j_niT (b := true) (by rw [three_mem, ek]; rfl) ?_
  walk_at "rc"
  rw [kd.1]
  refine j_intS (kd_int k k9) (by show (1 : Nat) ≤ 640; decide) ?_
  walk_at "rc"
  refine ⟨k, b, rfl, k9, lb, rb, ?_⟩
  walk_at "rc"
  refine ⟨k, c, rfl, k9, lc, rc, ?_⟩
  walk_at "rc"
  exact q
theorem ok_rrX {a_KINDS c_NoText : Addr} (S : Src K mg "read_rule" sReadRule) (T : Txt mg) (E_read_counts : Has P w K mg base 1 "read_counts" ["kind", "text"] (spP K pRC)) (EX_read_counts : HasX P w K mg base 1 "read_counts" ["kind", "text"] (bdC c_NoText)) (g_KINDS : mg "KINDS" = some (.ref a_KINDS)) (k_KINDS : okTS K (.ref a_KINDS) three = true) (g_NoText : mg "NoText" = some (.ref c_NoText)) (x_NoText : PySem.W.excIn K c_NoText [.type "ValueError", .type "Exception", .type "BaseException", .type "object"] "ValueError.__new__" = true) : HasX P w K mg base 2 "read_rule" ["text"] (bdR c_NoText) := by
  have r_KINDS : ∀ N H, Rep K N AnyF H (.ref a_KINDS) (.tup (three.map .str)) := fun _ _ => rep_ts k_KINDS
  refine has_X S scReadRule (fun _ _ _ _ _ _ us hl => match us, hl with | [_], _ => rfl) (fun ds C h => by rcases h with ⟨_, e, _⟩ | ⟨_, e, _⟩ <;> (rw [e]; rfl)) fun f cdv A outer s H E hr TH => ⟨_, _, (vx_if (vt_not (vt_val (ve_callB (c_isi (K := K) rfl) l_isi (by rfl) T.isinstance_ bt_isinstance (va_cons (ve_var 0 (pv 0)) (va_cons (ve_pe (pe_bltn (v := .ty "str") (by rfl) T.str_ bt_str rfl) (fun _ _ => .ty _)) va_nil))))) (vx_raise TH PySem.F.excBase_ValueError x_NoText g_NoText rfl)
    (vx_seq (vs_set1 (i := 1) scReadRule.nd rfl (Or.inl rfl) (ve_new (vn_split rfl rfl (ve_var 0 (pv 0)) ve_str))) (vx_if (vw_pt (vw_or (vt_cmp op_ne l_ne (ve_callB (c_len (K := K) rfl) l_len (by rfl) T.len_ bt_len (va_cons (ve_var 1 (pv 1)) va_nil)) ve_int (nomark _)) (vw_or1 (vt_cmp (o_notInS (K := K) rfl) l_inT (ve_ix rfl (ve_var 1 (pv 1)) ve_int (fun _ _ => rfl)) (ve_pe (pe_glob (v := .ref a_KINDS) (by rfl) g_KINDS rfl) r_KINDS) (by with_unfolding_all rfl))))) (vx_raise TH PySem.F.excBase_ValueError x_NoText g_NoText rfl)
    (vx_seq (vs_set1 (i := 2) scReadRule.nd rfl (Or.inl rfl) (ve_callTy call_intS l_intS (by rfl) T.int_ bt_int (va_cons (ve_ix rfl (ve_var 1 (pv 1)) ve_int (fun _ _ => rfl)) va_nil))) (vx_ret (vxe_alt (vxe_tup (vxa_tail (ve_var 2 (pv 2)) (vxa_head (vxe_call TH.next EX_read_counts rfl hr (va_cons (ve_var 2 (pv 2)) (va_cons (ve_ix rfl (ve_var 1 (pv 1)) ve_int (fun _ _ => rfl)) va_nil))) (va_cons (ve_fn E_read_counts hr (va_cons (ve_var 2 (pv 2)) (va_cons (ve_ix rfl (ve_var 1 (pv 1)) ve_int (fun _ _ => rfl)) va_nil))) va_nil)))) (vxe_tup (vxa_tail (ve_var 2 (pv 2)) (vxa_tail (ve_fn E_read_counts hr (va_cons (ve_var 2 (pv 2)) (va_cons (ve_ix rfl (ve_var 1 (pv 1)) ve_int (fun _ _ => rfl)) va_nil))) (vxa_head (vxe_call TH.next EX_read_counts rfl hr (va_cons (ve_var 2 (pv 2)) (va_cons (ve_ix rfl (ve_var 1 (pv 1)) ve_int (fun _ _ => rfl)) va_nil))) va_nil)))))))))), ?_⟩
  rintro ds C (⟨z, rfl, hz, hn, rfl⟩ | ⟨d, rfl, hd, rfl⟩)
  · walk_at "sl"
    walk_at "rc"
    rw [if_neg (by decide)]
    walk_at "rc"
    refine j_kSpB (sl_le (by lia)) rfl (prts_strs z) (sl_le (by have := split_len hz; rw [prts_len] at this; rw [List.length_map]; lia)) ?_
    walk_at "rc"
    rw [List.length_map, List.length_map]
    by_cases h3 : (prts z).length = 3
    · obtain ⟨a, b, c, e3⟩ : ∃ a b c, prts z = [a, b, c] := by
        match prts z, h3 with
        | [a, b, c], _ => exact ⟨a, b, c, rfl⟩
      obtain ⟨lb, lc⟩ := prts_small hz e3
      rw [e3]
      rw [rdR_eq, e3] at hn
      walk_at "rc"
      cases ek : kdOf a with
      | none =>
        refine j_niT (b := false) (by rw [three_mem, ek]; rfl) ?_
        walk_at "rc"
        rw [if_pos (show (!false) = true from rfl)]
        trivial
      | some k =>
        have kd := kd_some ek
        have k9 : k ≤ 9 := by rcases kd.2 with rfl | rfl | rfl <;> decide
        refine j_niT (b := true) (by rw [three_mem, ek]; rfl) ?_
        walk_at "rc"
        rw [if_neg (show ¬(!true) = true from by decide)]
        walk_at "rc"
        rw [kd.1]
        refine j_intS (kd_int k k9) (by show (1 : Nat) ≤ 640; decide) ?_
        walk_at "rc"
        by_cases rb : ris k b = true
        · refine .inr ?_
          have rc : ris k c = false := by
            cases h : ris k c with
            | false => rfl
            | true => rw [rdW, ek] at hn; simp [rb, h] at hn
          walk_at "rc"
          refine ⟨k, b, rfl, k9, lb, rb, ?_⟩
          walk_at "rc"
          exact ⟨_, _, rfl, ⟨k, c, rfl, k9, lc, rc, rfl⟩, rfl⟩
        · refine .inl ?_
          walk_at "rc"
          exact ⟨_, _, rfl, ⟨k, b, rfl, k9, lb, Bool.eq_false_iff.mpr rb, rfl⟩, rfl⟩
    · rw [decide_eq_false (show ¬(((prts z).length : Int) = 3) by lia)]
      walk_at "rc"
      rw [if_pos rfl]
      trivial
  · walk_at "sl"
    cases d with
    | int n => walk_at "rc"; trivial
    | bl b => walk_at "rc"; trivial
    | non => walk_at "rc"; trivial
    | lst x => walk_at "rc"; trivial
    | tup x => walk_at "rc"; trivial
    | dic x y => walk_at "rc"; trivial
    | _ => cases hd
end
end My


namespace My
open PySem L2 VL
def risTo (k : Nat) (l : List Nat) (i : Nat) : Prop := ∀ j, j < i → (∀ c, l[j]? = some c → 48 ≤ c ∧ c ≤ 48 + k) ∧ ∀ c d, 0 < j → l[j - 1]? = some d → l[j]? = some c → d < c
theorem ris_to {k : Nat} {l : List Nat} (h : risTo k l l.length) : ris k l = true := by
  unfold ris
  rw [Bool.and_eq_true, decide_eq_true_eq, decide_eq_true_eq]
  refine ⟨fun c hc => ?_, ?_⟩
  · obtain ⟨j, hj⟩ := List.getElem?_of_mem hc
    exact (h j (List.getElem?_eq_some_iff.mp hj).1).1 c hj
  · have step : ∀ j, j + 1 < l.length → ∀ d c, l[j]? = some d → l[j + 1]? = some c → d < c := fun j hj d c e1 e2 => (h (j + 1) hj).2 c d (by lia) e1 e2
    have all : ∀ n i d c, l[i]? = some d → l[i + n + 1]? = some c → d < c := by
      intro n
      induction n with
      | zero => intro i d c e1 e2; exact step i (List.getElem?_eq_some_iff.mp e2).1 d c e1 e2
      | succ n ih =>
        intro i d c e1 e2
        have hl := (List.getElem?_eq_some_iff.mp e2).1
        obtain ⟨x, hx⟩ : ∃ x, l[i + n + 1]? = some x := ⟨l[i + n + 1], List.getElem?_eq_getElem (by lia)⟩
        exact Nat.lt_trans (ih i d x e1 hx) (step (i + n + 1) hl x c hx e2)
    rw [List.pairwise_iff_getElem]
    intro i j hi hj hij
    have := all (j - i - 1) i l[i] l[j] (List.getElem?_eq_getElem hi) (by rw [show i + (j - i - 1) + 1 = j by lia]; exact List.getElem?_eq_getElem hj)
    exact this
theorem ris_no {k : Nat} {l : List Nat} {i c : Nat} (e : l[i]? = some c) (h : ¬(48 ≤ c ∧ c ≤ 48 + k) ∨ ∃ d, 0 < i ∧ l[i - 1]? = some d ∧ ¬ d < c) : ris k l = false := by
  unfold ris
  rw [Bool.and_eq_false_iff, decide_eq_false_iff_not, decide_eq_false_iff_not]
  rcases h with h | ⟨d, h0, e2, h⟩
  · exact .inl fun z => h (z c (List.mem_of_getElem? e))
  · refine .inr fun z => h ?_
    rw [List.pairwise_iff_getElem] at z
    obtain ⟨h1, r1⟩ := List.getElem?_eq_some_iff.mp e
    obtain ⟨h2, r2⟩ := List.getElem?_eq_some_iff.mp e2
    have := z (i - 1) i h2 h1 (by lia)
    rw [r1, r2] at this
    exact this
theorem figs_cut : ∀ k : Nat, (k = 4 ∨ k = 6 ∨ k = 8) → (Txt.slice "0123456789" none (some ((k : Int) + 1))).cps.toList = (List.range (k + 1)).map (48 + ·) := by
  rintro k (rfl | rfl | rfl) <;> decide
theorem figs_mem {k c : Nat} : c ∈ (List.range (k + 1)).map (48 + ·) ↔ 48 ≤ c ∧ c ≤ 48 + k := by
  rw [List.mem_map]
  constructor
  · rintro ⟨x, hx, rfl⟩; have := List.mem_range.mp hx; lia
  · intro h; exact ⟨c - 48, List.mem_range.mpr (by lia), by lia⟩
theorem one_lt {d c : Nat} : ((⟨#[d]⟩ : Str).cps.toList < (⟨#[c]⟩ : Str).cps.toList) ↔ d < c := by
  show ([d] : List Nat) < [c] ↔ _
  rw [List.cons_lt_cons_iff]
  simp
theorem at_sign {l : List Nat} {i c : Nat} (e : l[i]? = some c) : atI (mk l).cps.toList (i : Int) = some c := by rw [mk_toList]; exact atI_nat e
def pRis : List D → (D → Prop) → Prop := fun ds R => ∃ (k : Nat) (l : List Nat), ds = [.str (mk l), .int k] ∧ (k = 4 ∨ k = 6 ∨ k = 8) ∧ l.length ≤ 63 ∧ R (.bl (ris k l))
def heads : List Str := ["4:", "6:", "8:"]
theorem heads_mem {z : Str} {a b c : List Nat} (e : z.cps.toList = a ++ 58 :: (b ++ 58 :: c)) (ha : 58 ∉ a) : decide (Txt.slice z none (some 2) ∈ heads) = (kdOf a).isSome := by
  have e0 : heads = [mk [52, 58], mk [54, 58], mk [56, 58]] := by decide
  have h4 := first_two e ha (k := 52) (by decide)
  have h6 := first_two e ha (k := 54) (by decide)
  have h8 := first_two e ha (k := 56) (by decide)
  rw [e0]
  by_cases h : kdOf a = none
  · obtain ⟨n1, n2, n3⟩ := kd_none h
    rw [h, decide_eq_false (by simp [h4, h6, h8, n1, n2, n3])]; rfl
  · obtain ⟨k, hk⟩ := Option.ne_none_iff_exists'.mp h
    rw [hk]
    obtain ⟨rfl, rfl | rfl | rfl⟩ := kd_some hk
    · rw [decide_eq_true (by simp [h4.mpr rfl])]; rfl
    · rw [decide_eq_true (by simp [h6.mpr rfl])]; rfl
    · rw [decide_eq_true (by simp [h8.mpr rfl])]; rfl
theorem idx_fig : ∀ k : Nat, k ≤ 9 → Builtin.Str.occurrences "0123456789" ⟨#[48 + k]⟩ 0 (Str.ofString "0123456789").length 1 = [k] := by decide +kernel
def pDue : List D → (D → Prop) → Prop := fun ds R => ∃ z : Str, ds = [.str z] ∧ z.length ≤ 63 ∧ R (dueD (rdR z))
section
variable {P : Program} {w : World} {K : PySem.W.Frag} {mg : Str → Option Value} {base : Heap}
theorem ok_ris (S : Src K mg "_law_rising" sLRising) (T : Txt mg) : Has P w K mg base 1 "_law_rising" ["_law_part", "_law_kind"] (spP K pRis) := by
  refine has_P S scLRising (fun _ _ _ _ _ _ us hl => match us, hl with | [_, _], _ => rfl) (fun ds R zq1 => by obtain ⟨_, _, e, _⟩ := zq1; rw [e]; rfl) fun f cdv A outer s H E hr => ⟨_, _, (vss_cons (vs_for PassesOwn.never rfl (vi_range1 rfl T.range (va_cons (ve_callB call_len_str l_lenS (by rfl) T.len_ bt_len (va_cons (ve_var 0 (pv 0)) va_nil)) va_nil)) (vg_name (pg_name (i := 2) scLRising.nd rfl (Or.inl rfl) (Or.inl rfl))) (vss_one (vs_if (vw_pt (vw_or (vt_cmp op_notIn_str l_notInS (ve_ixS rfl (ve_var 0 (pv 0)) (ve_var 2 (pv 2)) (fun _ _ => rfl)) (ve_slS ve_str vo_none (vo_some (ve_op op_add l_rI0 (ve_var 1 (pv 1)) ve_int))) (by with_unfolding_all rfl)) (vw_or1 (vw_pt (vw_and (vt_cmp op_gt l_rI0 (ve_var 2 (pv 2)) ve_int (nomark _)) (vw_and1 (vt_cmp op_ge_str l_geS (ve_ixS rfl (ve_var 0 (pv 0)) (ve_op op_sub l_rI0 (ve_var 2 (pv 2)) ve_int) (fun _ _ => rfl)) (ve_ixS rfl (ve_var 0 (pv 0)) (ve_var 2 (pv 2)) (fun _ _ => rfl)) (nomark _)))))))) (vss_one (vs_ret ve_bl)) vss_nil)))
    (vss_one (vs_ret ve_bl))), ?_⟩
  rintro ds R ⟨k, l, rfl, hk, hl, q⟩
  have hm : (mk l).length ≤ sizeLine := by rw [mk_len]; exact sl_le (by lia)
  walk_at "sl"
  walk_at "rc"
  refine j_lenS hm ?_
  rw [mk_len]
  walk_at "rc"
  refine i_kForR (fun i S => ∃ v2, S = [.val (.str (mk l)), .val (.int k), v2] ∧ risTo k l i) ⟨_, rfl, fun j hj => absurd hj (Nat.not_lt_zero _)⟩ ?_ ?_
  · rintro i S2 hi ⟨v2, rfl, hto⟩
    have hi' : i < l.length := by lia
    obtain ⟨c, ec⟩ : ∃ c, l[i]? = some c := ⟨l[i], List.getElem?_eq_getElem hi'⟩
    rw [Int.zero_add]
    walk_at "rc"
    refine j_kIxSC hm (at_sign ec) ?_
    walk_at "rc"
    refine j_kSsC (sl_le (show (10 : Nat) ≤ 1000000 by decide)) rfl ?_
    walk_at "rc"
    refine j_notInS (b := decide (48 ≤ c ∧ c ≤ 48 + k)) (by rw [in_one]; exact decide_eq_decide.mpr (by rw [← figs_mem, ← figs_cut k hk])) ?_
    walk_at "rc"
    by_cases hc : 48 ≤ c ∧ c ≤ 48 + k
    · rw [decide_eq_true hc]
      walk_at "rc"
      by_cases hi0 : 0 < i
      · rw [decide_eq_true (show (0 : Int) < (i : Int) by lia)]
        obtain ⟨d, ed⟩ : ∃ d, l[i - 1]? = some d := ⟨l[i - 1], List.getElem?_eq_getElem (by lia)⟩
        walk_at "rc"
        have e1 : (i : Int) - 1 = ((i - 1 : Nat) : Int) := by lia
        rw [e1]
        refine j_kIxSC hm (at_sign ed) ?_
        walk_at "rc"
        refine j_kIxSC hm (at_sign ec) ?_
        walk_at "rc"
        by_cases hlt : d < c
        · rw [decide_eq_true (one_lt.mpr hlt)]
          walk_at "rc"
          refine ⟨_, rfl, fun j hj => ?_⟩
          by_cases hji : j = i
          · subst hji
            refine ⟨fun c' e' => ?_, fun c' d' _ e1 e2 => ?_⟩
            · rw [ec] at e'; cases e'; exact hc
            · rw [ec] at e2; cases e2; rw [ed] at e1; cases e1; exact hlt
          · exact hto j (by lia)
        · rw [decide_eq_false (fun z => hlt (one_lt.mp z))]
          walk_at "rc"
          rw [ris_no ec (.inr ⟨d, hi0, ed, hlt⟩)] at q
          exact q
      · rw [decide_eq_false (show ¬(0 : Int) < (i : Int) by lia)]
        walk_at "rc"
        refine ⟨_, rfl, fun j hj => ?_⟩
        obtain rfl : j = i := by lia
        refine ⟨fun c' e' => ?_, fun c' d' h0 _ _ => absurd h0 hi0⟩
        rw [ec] at e'; cases e'; exact hc
    · rw [decide_eq_false hc]
      walk_at "rc"
      rw [ris_no ec (.inl hc)] at q
      exact q
  · rintro S2 ⟨v2, rfl, hto⟩
    have hto : risTo k l l.length := by simpa using hto
    walk_at "rc"
    rw [ris_to hto] at q
    exact q
theorem ok_due (S : Src K mg "_law_due" sLDue) (T : Txt mg) (E_law_rising : Has P w K mg base 1 "_law_rising" ["_law_part", "_law_kind"] (spP K pRis)) : Has P w K mg base 2 "_law_due" ["_law_text_here"] (spP K pDue) := by
  refine has_P S scLDue (fun _ _ _ _ _ _ us hl => match us, hl with | [_], _ => rfl) (fun ds R zq1 => by obtain ⟨_, e, _⟩ := zq1; rw [e]; rfl) fun f cdv A outer s H E hr => ⟨_, _, (vss_cons (vs_if (vw_pt (vw_or (vt_cmp (o_notInS (K := K) rfl) l_inT (ve_slS (ve_var 0 (pv 0)) vo_none (vo_some ve_int)) (ve_new (vn_lst (va_cons ve_str (va_cons ve_str (va_cons ve_str va_nil))))) (by with_unfolding_all rfl)) (vw_or1 (vt_cmp op_ne l_ne (ve_cnt rfl (ve_var 0 (pv 0)) ve_str) ve_int (nomark _))))) (vss_one (vs_ret ve_non)) vss_nil)
    (vss_cons (vs_set1 (i := 1) scLDue.nd rfl (Or.inl rfl) (ve_idx rfl ve_str (ve_ixS rfl (ve_var 0 (pv 0)) ve_int (fun _ _ => rfl))))
    (vss_cons (vs_asg (ve_part rfl rfl (ve_slS (ve_var 0 (pv 0)) (vo_some ve_int) vo_none) ve_str) (vg_tup (n := 3) rfl rfl (vgs_cons (vg_name (pg_name (i := 2) scLDue.nd rfl (Or.inl rfl) (Or.inl rfl))) (vgs_cons (vg_name (pg_name (i := 3) scLDue.nd rfl (Or.inl rfl) (Or.inl rfl))) (vgs_cons (vg_name (pg_name (i := 4) scLDue.nd rfl (Or.inl rfl) (Or.inl rfl))) vgs_nil)))))
    (vss_cons (vs_if (vw_pt (vw_or (vt_not (vt_val (ve_fn E_law_rising hr (va_cons (ve_var 2 (pv 2)) (va_cons (ve_var 1 (pv 1)) va_nil))))) (vw_or1 (vt_not (vt_val (ve_fn E_law_rising hr (va_cons (ve_var 4 (pv 4)) (va_cons (ve_var 1 (pv 1)) va_nil)))))))) (vss_one (vs_ret ve_non)) vss_nil)
    (vss_one (vs_ret (ve_tup (va_cons (ve_flat (ve_var 1 (pv 1))) (va_cons (ve_tupleOf rfl (by rfl) T.tuple_ (va_cons (ve_new (vn_comp (tg := ["_law_sign"]) (cs := []) (ix := []) (comp_scope (defScope sLDue) ["_law_text_here", "_law_kind", "_law_born", "_law_colon", "_law_stay"] (by decide +kernel)) rfl (keeps_name (by decide)) (by decide) (vi_str (ve_var 2 (pv 2))) (fun _ _ _ _ => (vg_name (pg_name (i := 0) (show (["_law_sign"] : List Str).Nodup by decide +kernel) rfl (Or.inl rfl) (by first | exact Or.inl rfl | exact Or.inr rfl)))) (fun _ _ _ _ => vts_nil) (fun _ _ _ _ => (ve_callTy call_intS l_intS (by rfl) T.int_ bt_int (va_cons (ve_var 0 (pv 0)) va_nil))))) va_nil)) (va_cons (ve_tupleOf rfl (by rfl) T.tuple_ (va_cons (ve_new (vn_comp (tg := ["_law_sign"]) (cs := []) (ix := []) (comp_scope (defScope sLDue) ["_law_text_here", "_law_kind", "_law_born", "_law_colon", "_law_stay"] (by decide +kernel)) rfl (keeps_name (by decide)) (by decide) (vi_str (ve_var 4 (pv 4))) (fun _ _ _ _ => (vg_name (pg_name (i := 0) (show (["_law_sign"] : List Str).Nodup by decide +kernel) rfl (Or.inl rfl) (by first | exact Or.inl rfl | exact Or.inr rfl)))) (fun _ _ _ _ => vts_nil) (fun _ _ _ _ => (ve_callTy call_intS l_intS (by rfl) T.int_ bt_int (va_cons (ve_var 0 (pv 0)) va_nil))))) va_nil)) va_nil)))))))))), ?_⟩
  rintro ds R ⟨z, rfl, hz, q⟩
  have hz' : z.length ≤ sizeLine := sl_le (by lia)
  have ecn := cnt_split z
  rw [prts_len] at ecn
  walk_at "sl"
  walk_at "rc"
  refine j_kSsC hz' rfl ?_
  walk_at "rc"
  by_cases h3 : (prts z).length = 3
  · obtain ⟨a, b, c, e3⟩ : ∃ a b c, prts z = [a, b, c] := by
      match prts z, h3 with
      | [a, b, c], _ => exact ⟨a, b, c, rfl⟩
    obtain ⟨hzs, ha, hb, hc⟩ := prts_three e3
    obtain ⟨lb, lc⟩ := prts_small hz e3
    rw [rdR_eq, e3] at q
    refine j_niL (ws := heads) (b := (kdOf a).isSome) (heads_mem hzs ha) ?_
    cases ek : kdOf a with
    | none =>
      walk_at "rc"
      rw [rdW, ek] at q
      exact q
    | some k =>
      have kd := kd_some ek
      have k9 : k ≤ 9 := by rcases kd.2 with rfl | rfl | rfl <;> decide
      have hz2 : z = mk ((48 + k) :: 58 :: (b ++ 58 :: c)) := by rw [← mk_back z, hzs, kd.1]; rfl
      walk_at "rc"
      rw [show Txt.count z (Str.ofString ":") = 2 by
        have : Txt.count z (mk [58]) = 2 := by lia
        exact this]
      walk_at "rc"
      refine j_kIxSC (c := 48 + k) hz' (by rw [hz2]; exact at_sign (i := 0) rfl) ?_
      walk_at "rc"
      refine j_kIdxB (i := k) (rest := []) (idx_fig k k9) ?_
      walk_at "rc"
      refine j_kSsC (y := mk (b ++ 58 :: c)) hz' (by rw [hz2]; exact slice_from2) ?_
      walk_at "rc"
      refine j_kPartB rfl (by rw [mk_len]; exact sl_le (by simp; lia)) (part_free hb) ?_
      walk_at "rc"
      refine ⟨k, b, rfl, kd.2, lb, ?_⟩
      cases rb : ris k b with
      | false =>
        walk_at "rc"
        rw [rdW, ek] at q
        simp [rb] at q
        exact q
      | true =>
        walk_at "rc"
        refine ⟨k, c, rfl, kd.2, lc, ?_⟩
        cases rc : ris k c with
        | false =>
          walk_at "rc"
          rw [rdW, ek] at q
          simp [rc] at q
          exact q
        | true =>
          walk_at "rc"
          rw [rdW, ek] at q
          simp [rb, rc] at q
          have fb := ris_figs k9 rb
          have fc := ris_figs k9 rc
          rw [sgs_mk]
          refine comp_map (xs := b) (f := fun (c : Nat) => D.int ((c : Int) - 48)) (by lia) (fun c hc A B hA => ?_) ?_
          · dsimp only [capS, List.replicate, List.map_cons, List.map_nil, List.cons_append, List.nil_append]
            have := of_decide_eq_true (List.all_eq_true.mp fb c hc)
            walk_at "rd"
            refine j_intS (int_fig c (by lia) this.1) (by show (1 : Nat) ≤ 640; decide) ?_
            walk_at "rd"
            exact hA _ rfl
          rw [← cts_map]
          walk_at "rc"
          refine j_kTupL rfl (flats_ints _) ?_
          walk_at "rc"
          rw [sgs_mk]
          refine comp_map (xs := c) (f := fun (c : Nat) => D.int ((c : Int) - 48)) (by lia) (fun c hc A B hA => ?_) ?_
          · dsimp only [capS, List.replicate, List.map_cons, List.map_nil, List.cons_append, List.nil_append]
            have := of_decide_eq_true (List.all_eq_true.mp fc c hc)
            walk_at "rd"
            refine j_intS (int_fig c (by lia) this.1) (by show (1 : Nat) ≤ 640; decide) ?_
            walk_at "rd"
            exact hA _ rfl
          rw [← cts_map]
          walk_at "rc"
          refine j_kTupL rfl (flats_ints _) ?_
          walk_at "rc"
          exact q
  · rw [rdR_eq, rdW_three h3] at q
    by_cases hm : Txt.slice z none (some 2) ∈ heads
    · refine j_niL (ws := heads) (b := true) (decide_eq_true hm) ?_
      walk_at "rc"
      rw [show (decide (Txt.count z (Str.ofString ":") = 2)) = false from decide_eq_false (by
        have : ¬Txt.count z (mk [58]) = 2 := by lia
        exact this)]
      walk_at "rc"
      exact q
    · refine j_niL (ws := heads) (b := false) (decide_eq_false hm) ?_
      walk_at "rc"
      exact q
end
end My


namespace My
open PySem L2 VL
def fr (p : Nat → Bool) (w : Nat) : List Nat := (List.range w).filter p
theorem fr_succ (p : Nat → Bool) (w : Nat) : fr p (w + 1) = fr p w ++ if p w = true then [w] else [] := by
  unfold fr
  rw [List.range_succ, List.filter_append]
  congr 1
  by_cases h : p w = true <;> simp [h]
theorem fr_upd (p : Nat → Bool) (b : Bool) (w : Nat) : fr (fun x => if x = w then b else p x) (w + 1) = fr p w ++ if b = true then [w] else [] := by
  rw [fr_succ]
  congr 1
  · unfold fr
    refine List.filter_congr fun x hx => ?_
    have := List.mem_range.mp hx
    rw [if_neg (by lia)]
  · rw [if_pos rfl]
theorem fr_len (p : Nat → Bool) (w : Nat) : (fr p w).length ≤ w := by
  unfold fr
  refine Nat.le_trans (List.length_filter_le _ _) (by simp)
theorem backFrom_id {T : List Sl} : ∀ (r : List Sl) (k : Nat), backFrom 1 [0] T (k + 1) r = r
  | [], _ => rfl
  | s :: r, k => by
    have : ([0] : List Nat).idxOf? (k + 1) = none := by simp [List.idxOf?, List.findIdx?_cons]
    unfold backFrom
    rw [this, backFrom_id r (k + 1)]
theorem backS_pen {ad : Option Addr} {pn pn2 : List Int} {rest : List Sl} {x : Sl} : backS 1 [0] (.pen ad pn :: rest) [x, .pen ad pn2] = .pen ad pn2 :: rest := by
  show backFrom 1 [0] _ 0 _ = _
  unfold backFrom
  rw [backFrom_id]
  rfl
theorem comp_fd {ad : Option Addr} {pn : List Int} {rest : List Sl} {QN : List D → List Sl → Prop} {vt : VTT} {lo : Int} {n b : Nat} (hb : b + n ≤ 1000000) (hp : Pn b pn)
    (hvt : ∀ (b' : Nat) (pn' : List Int) (x : Int) (A : Bool → List Sl → Prop), Pn b' pn' → b' ≤ 1000000 → (∀ v pn2, Pn (b' + 1) pn2 → A v [.val (.int x), .pen ad pn2]) → vt [.val (.int x), .pen ad pn'] A)
    (q : ∀ (p : Nat → Bool) pn', Pn (b + n) pn' → QN ((fr p n).map fun (i : Nat) => D.int (lo + (i : Int))) (.pen ad pn' :: rest)) : kComp 1 [0] (vgN 0) vt (vFlat (vVar 0)) QN (rg lo n) (.pen ad pn :: rest) := by
  refine j_kCompR (fun i ys S2 => ∃ (p : Nat → Bool) (pn' : List Int), Pn (b + i) pn' ∧ ys = ((fr p i).map fun (i : Nat) => D.int (lo + (i : Int))) ∧ S2 = .pen ad pn' :: rest) (by lia) ⟨fun _ => false, pn, hp, rfl, rfl⟩ ?_ ?_
  · rintro i ys S2 hi ⟨p, pn', h1, rfl, rfl⟩
    refine ⟨(by show 0 < _; simp [capS]), ?_⟩
    show vt [.val (.int (lo + (i : Int))), .pen ad pn'] _
    refine hvt (b + i) pn' _ _ h1 (by lia) fun v pn2 h2 => ?_
    cases v with
    | true =>
      refine j_kCompT (fun _ => ?_) (fun e => nomatch e)
      refine ⟨.d (.int (lo + (i : Int))), rfl, rfl, ?_⟩
      refine j_kCompE ?_
      rw [backS_pen]
      exact ⟨fun x => if x = i then true else p x, pn2, h2, by rw [fr_upd, List.map_append]; rfl, rfl⟩
    | false =>
      refine j_kCompT (fun e => nomatch e) (fun _ => ?_)
      rw [backS_pen]
      exact ⟨fun x => if x = i then false else p x, pn2, h2, by rw [fr_upd, List.map_append]; simp, rfl⟩
  · rintro ys S2 ⟨p, pn', h1, rfl, rfl⟩
    exact q p pn' h1
theorem fr_ris (p : Nat → Bool) (k : Nat) : ris k ((fr p (k + 1)).map (48 + ·)) = true := by
  unfold ris
  rw [Bool.and_eq_true, decide_eq_true_eq, decide_eq_true_eq]
  refine ⟨fun c hc => ?_, ?_⟩
  · obtain ⟨x, hx, rfl⟩ := List.mem_map.mp hc
    have := List.mem_range.mp (List.mem_filter.mp hx).1
    lia
  · rw [List.pairwise_map]
    exact (List.pairwise_lt_range.filter p).imp fun h => by lia
theorem fr_cts (l : List Nat) : (l.map fun (i : Nat) => D.int (0 + (i : Int))) = (cts (l.map (48 + ·))).map D.int := by
  rw [cts_map, List.map_map]
  refine List.map_congr_left fun x _ => ?_
  show D.int _ = D.int _
  congr 1
  show (0 : Int) + (x : Int) = ((48 + x : Nat) : Int) - 48
  lia
def pCo : List Int → List D → (D → List Int → Prop) → Prop := fun pn ds R => ∃ b k : Nat, ds = [.int k] ∧ (k = 4 ∨ k = 6 ∨ k = 8) ∧ Pn b pn ∧ b ≤ 1000 ∧ ∀ (l : List Nat) pn', ris k l = true → l.length ≤ 9 → Pn (b + 10) pn' → R (.lst ((cts l).map .int)) pn'
theorem j_kSsL {z : Str} {n : Nat} {lo hi : Option Int} {S : List Sl} {Q : VR → List Sl → Prop} (hz : z.length ≤ n) (hn : n ≤ 1000) (h : ∀ y : Str, y.length ≤ n → Q (.d (.str y)) S) : kSsC z lo Q hi S :=
  j_kSsC (sl_le (by lia)) rfl (h _ (Nat.le_trans (Txt.slice_le z _ _) hz))
theorem j_addL {x y : Str} {n m : Nat} {q : D → Prop} (hx : x.length ≤ n) (hy : y.length ≤ m) (hn : n + m ≤ 1000) (h : ∀ w : Str, w.length ≤ n + m → q (.str w)) : wAddS (.str x) (.str y) q :=
  j_addS (sl_le (by lia)) (h _ (by rw [app_len]; lia))
def pTx : List D → (D → Prop) → Prop := fun ds R => ∃ (k : Nat) (b s : List Nat), ds = [.int k, .lst ((cts b).map .int), .lst ((cts s).map .int)] ∧ (k = 4 ∨ k = 6 ∨ k = 8) ∧ ris k b = true ∧ ris k s = true ∧ b.length ≤ 9 ∧ s.length ≤ 9 ∧ R (.str (txR k b s))
def pSp : List Int → List D → (D → List Int → Prop) → Prop := fun pn ds R => ∃ (b : Nat) (z : Str), ds = [.str z] ∧ z.length ≤ 21 ∧ Pn b pn ∧ b ≤ 1000 ∧ ∀ (y : Str) pn', y.length ≤ 63 → Pn (b + 10) pn' → R (.str y) pn'
theorem sign_at : ∀ n : Nat, n ≤ 8 → atI (Str.ofString "012345678").cps.toList (n : Int) = some (48 + n) := by decide
theorem signs_at : ∀ n : Nat, n < 14 → ∃ c, atI (Str.ofString "0123456789: -a").cps.toList (n : Int) = some c := fun n h => ⟨(Str.ofString "0123456789: -a").cps.toList.getD n 0, by revert n; decide⟩
theorem ris_sign {k : Nat} (hk : k = 4 ∨ k = 6 ∨ k = 8) {l : List Nat} (h : ris k l = true) : ∀ c ∈ l, 48 ≤ c ∧ c ≤ 56 := by
  unfold ris at h
  rw [Bool.and_eq_true, decide_eq_true_eq] at h
  intro c hc
  have := h.1 c hc
  lia
theorem j_addM {a b : List Nat} {q : D → Prop} (hl : (a ++ b).length ≤ 1000) (h : q (.str (mk (a ++ b)))) : wAddS (.str (mk a)) (.str (mk b)) q :=
  j_addS (by rw [mk_len, mk_len, ← List.length_append]; exact sl_le (by lia)) (by rw [mk_app]; exact h)
theorem text_loop {a0 a1 a2 v4 : Sl} {W : VEnds} {l pre : List Nat} (hl : ∀ c ∈ l, 48 ≤ c ∧ c ≤ 56) (hn : pre.length + l.length ≤ 100) (h : ∀ v, W.nx [a0, a1, a2, .val (.str (mk (pre ++ l))), v]) :
    kFor (vgN 4) (vAsg (v2 wAddS (vVar 3) (vIxS (vC (D.str (Str.ofString "012345678"))) (vVar 4))) (vgN 3)) W ((cts l).map D.int) [a0, a1, a2, .val (.str (mk pre)), v4] := by
  rw [cts_map]
  refine i_kFor (fun i S => ∃ v, S = [a0, a1, a2, .val (.str (mk (pre ++ l.take i))), v]) ⟨_, by rw [List.take_zero, List.append_nil]⟩ ?_ ?_
  · rintro i d S2 e ⟨v, rfl⟩
    obtain ⟨c, _, rfl, hm, ht⟩ := take_succ_map e
    have hc := hl c hm
    obtain ⟨n, rfl⟩ : ∃ n, c = 48 + n := ⟨c - 48, by lia⟩
    have e0 : (((48 + n : Nat) : Int) - 48) = (n : Int) := by lia
    rw [e0]
    walk_at "rd"
    refine j_kIxSC (sl_le (show (9 : Nat) ≤ 1000000 by decide)) (sign_at n (by lia)) ?_
    walk_at "rd"
    have h5 : (l.take i).length ≤ l.length := by rw [List.length_take]; exact Nat.min_le_right _ _
    refine j_addM (a := pre ++ l.take i) (b := [48 + n]) (by rw [List.length_append, List.length_append, List.length_singleton]; lia) ?_
    walk_at "rd"
    exact ⟨_, by rw [ht, List.append_assoc]⟩
  · rintro S2 ⟨v, rfl⟩
    rw [List.length_map, List.take_length]
    exact h v
section
variable {P : Program} {w : World} {K : PySem.W.Frag} {mg : Str → Option Value} {base : Heap}
theorem ok_counts (S : Src K mg "_law_counts" sLCounts) (T : Txt mg) (E_law_draw : Has P w K mg base 1 "_law_draw" ["_law_pen_here", "_law_many"] (spI K 0 pDraw)) : Has P w K mg base 2 "_law_counts" ["_law_pen_here", "_law_kind"] (spI K 0 pCo) := by
  refine has_I 0 S scLCounts (fun _ _ _ _ _ _ us hl => match us, hl with | [_, _], _ => rfl) (fun ns ds R zq1 => by obtain ⟨_, _, e, _⟩ := zq1; rw [e]; rfl) fun f cdv A outer s H E hr => ⟨_, _, (vss_cons (vs_set1 (i := 2) scLCounts.nd rfl (Or.inl rfl) (ve_fnI E_law_draw hr (va_cons (ve_var 0 (pv 0)) (va_cons ve_int va_nil))))
    (vss_cons (vs_if (vt_cmp op_eq l_eq (ve_var 2 (pv 2)) ve_int (nomark _)) (vss_one (vs_ret (ve_new (vn_lst va_nil)))) vss_nil)
    (vss_cons (vs_if (vt_cmp op_eq l_eq (ve_var 2 (pv 2)) ve_int (nomark _)) (vss_one (vs_ret (ve_new (vn_listR rfl (by rfl) T.list_ (by rfl) T.range (va_cons (ve_op op_add l_rI0 (ve_var 1 (pv 1)) ve_int) va_nil))))) vss_nil)
    (vss_one (vs_ret (ve_new (vn_comp (tg := ["_law_count"]) (cs := ["_law_pen_here"]) (ix := [0]) (comp_scope (defScope sLCounts) ["_law_pen_here", "_law_kind", "_law_way"] (by decide +kernel)) rfl (keeps_name (by decide)) (by decide) (vi_range1 rfl T.range (va_cons (ve_op op_add l_rI0 (ve_var 1 (pv 1)) ve_int) va_nil)) (fun _ _ _ _ => (vg_name (pg_name (i := 0) (show (["_law_count", "_law_pen_here"] : List Str).Nodup by decide +kernel) rfl (Or.inl rfl) (by first | exact Or.inl rfl | exact Or.inr rfl)))) (fun _ _ _ _ => (vts_one (vt_cmp op_eq l_eq (ve_fnI E_law_draw hr (va_cons (ve_var 1 (pv 1)) (va_cons ve_int va_nil))) ve_int (nomark _)))) (fun _ _ _ _ => (ve_flat (ve_var 0 (pv 0))))))))))), ?_⟩
  rintro a pn ds es R hl ⟨b, k, e, hk, hpn, hb, q⟩
  obtain rfl : ds = [] := List.eq_nil_of_length_eq_zero hl
  obtain rfl : es = [.int k] := e
  have hkb : 4 ≤ k ∧ k ≤ 8 := by rcases hk with rfl | rfl | rfl <;> lia
  have ek : ((k : Int) + 1).toNat = k + 1 := by lia
  walk_at "sl"
  walk_at "rd"
  refine ⟨b, 6, rfl, hpn, by lia, by lia, by lia, fun pn1 r1 h1 r1a r1b => ?_⟩
  walk_at "rd"
  refine i_kIfd (fun c1 => ?_) (fun c1 => ?_)
  · walk_at "rd"
    exact ⟨_, rfl, q [] _ (by unfold ris; simp) (by simp) (h1.le (by lia))⟩
  · walk_at "rd"
    refine i_kIfd (fun c2 => ?_) (fun c2 => ?_)
    · walk_at "rd"
      have e : rg 0 ((k : Int) + 1).toNat = (cts ((fr (fun _ => true) (k + 1)).map (48 + ·))).map D.int := by
        rw [← fr_cts, ek]
        unfold rg fr
        rw [List.filter_eq_self.mpr (fun _ _ => rfl)]
      show ∃ ns', _ ∧ R (D.lst (rg 0 ((k : Int) + 1).toNat)) ns'
      rw [e]
      exact ⟨_, rfl, q _ _ (fr_ris _ k) (by rw [List.length_map]; have := fr_len (fun _ => true) (k + 1); lia) (h1.le (by lia))⟩
    · walk_at "rd"
      have hvt : ∀ (b' : Nat) (pn' : List Int) (x : Int) (A : Bool → List Sl → Prop), Pn b' pn' → b' ≤ 1000000 → (∀ v pn2, Pn (b' + 1) pn2 → A v [.val (.int x), .pen (some a) pn2]) → (vTest (v2 wEq (vFnI 0 pDraw (vCons (vVar 1) (vCons (vC (D.int 2)) vNil))) (vC (D.int 1)))) [.val (.int x), .pen (some a) pn'] A := by
        intro b' pn' x A h1 h2 h3
        walk_at "rd"
        refine ⟨b', 2, rfl, h1, by lia, by lia, by lia, fun pn3 r3 h4 r3a r3b => ?_⟩
        walk_at "rd"
        exact h3 _ _ h4
      refine comp_fd (b := b + 1) (by lia) h1 hvt fun p1 pn3 h3 => ?_
      rw [ek] at h3 ⊢
      rw [fr_cts]
      walk_at "rd"
      exact ⟨_, rfl, q _ _ (fr_ris p1 k) (by rw [List.length_map]; have := fr_len p1 (k + 1); lia) (h3.le (by lia))⟩
theorem ok_text (S : Src K mg "_law_text" sLText) (T : Txt mg) : Has P w K mg base 1 "_law_text" ["_law_kind", "_law_born", "_law_stay"] (spP K pTx) := by
  refine has_P S scLText (fun _ _ _ _ _ _ us hl => match us, hl with | [_, _, _], _ => rfl) (fun ds R zq1 => by obtain ⟨_, _, _, e, _⟩ := zq1; rw [e]; rfl) fun f cdv A outer s H E hr => ⟨_, _, (vss_cons (vs_set1 (i := 3) scLText.nd rfl (Or.inl rfl) (ve_op op_add_str l_addS (ve_callTy call_str_int l_strI (by rfl) T.str_ bt_str (va_cons (ve_var 0 (pv 0)) va_nil)) ve_str))
    (vss_cons (vs_for PassesOwn.never rfl (vi_list rfl (ve_var 1 (pv 1))) (vg_name (pg_name (i := 4) scLText.nd rfl (Or.inl rfl) (Or.inl rfl))) (vss_one (vs_set1 (i := 3) scLText.nd rfl (Or.inl rfl) (ve_op op_add_str l_addS (ve_var 3 (pv 3)) (ve_ixS rfl ve_str (ve_var 4 (pv 4)) (fun _ _ => rfl))))))
    (vss_cons (vs_set1 (i := 3) scLText.nd rfl (Or.inl rfl) (ve_op op_add_str l_addS (ve_var 3 (pv 3)) ve_str))
    (vss_cons (vs_for PassesOwn.never rfl (vi_list rfl (ve_var 2 (pv 2))) (vg_name (pg_name (i := 4) scLText.nd rfl (Or.inl rfl) (Or.inl rfl))) (vss_one (vs_set1 (i := 3) scLText.nd rfl (Or.inl rfl) (ve_op op_add_str l_addS (ve_var 3 (pv 3)) (ve_ixS rfl ve_str (ve_var 4 (pv 4)) (fun _ _ => rfl))))))
    (vss_one (vs_ret (ve_flat (ve_var 3 (pv 3))))))))), ?_⟩
  rintro ds R ⟨k, b, s, rfl, hk, rb, rs, lb, ls, q⟩
  have fb : ∀ c ∈ b, 48 ≤ c ∧ c ≤ 56 := fun c hc => ris_sign hk rb c hc
  have fs : ∀ c ∈ s, 48 ≤ c ∧ c ≤ 56 := fun c hc => ris_sign hk rs c hc
  have k9 : k ≤ 9 := by rcases hk with rfl | rfl | rfl <;> decide
  walk_at "sl"
  walk_at "rd"
  refine j_strI (log9 k k9) ?_
  rw [fig_str k k9]
  walk_at "rd"
  rw [show Str.ofString ":" = mk [58] from rfl]
  refine j_addM (by simp) ?_
  walk_at "rd"
  refine text_loop fb (by simp; lia) fun v => ?_
  walk_at "rd"
  refine j_addM (by simp; lia) ?_
  walk_at "rd"
  refine text_loop fs (by simp; lia) fun v => ?_
  walk_at "rd"
  have e : [48 + k] ++ [58] ++ b ++ [58] ++ s = (48 + k) :: 58 :: (b ++ 58 :: s) := by simp
  rw [e]
  exact q

theorem ok_spoilt (S : Src K mg "_law_spoilt" sLSpoilt) (T : Txt mg) (E_law_draw : Has P w K mg base 1 "_law_draw" ["_law_pen_here", "_law_many"] (spI K 0 pDraw)) : Has P w K mg base 2 "_law_spoilt" ["_law_pen_here", "_law_text_here"] (spI K 0 pSp) := by
  refine has_I 0 S scLSpoilt (fun _ _ _ _ _ _ us hl => match us, hl with | [_, _], _ => rfl) (fun ns ds R zq1 => by obtain ⟨_, _, e, _⟩ := zq1; rw [e]; rfl) fun f cdv A outer s H E hr => ⟨_, _, (vss_cons (vs_set1 (i := 2) scLSpoilt.nd rfl (Or.inl rfl) (ve_fnI E_law_draw hr (va_cons (ve_var 0 (pv 0)) (va_cons ve_int va_nil))))
    (vss_cons (vs_set1 (i := 3) scLSpoilt.nd rfl (Or.inl rfl) (ve_fnI E_law_draw hr (va_cons (ve_var 0 (pv 0)) (va_cons (ve_op op_add l_rI0 (ve_callB call_len_str l_lenS (by rfl) T.len_ bt_len (va_cons (ve_var 1 (pv 1)) va_nil)) ve_int) va_nil))))
    (vss_cons (vs_set1 (i := 4) scLSpoilt.nd rfl (Or.inl rfl) (ve_ixS rfl ve_str (ve_fnI E_law_draw hr (va_cons (ve_var 0 (pv 0)) (va_cons ve_int va_nil))) (fun _ _ => rfl)))
    (vss_cons (vs_setN (fun _ h => ps_set (i := 5) scLSpoilt.nd rfl (Or.inl rfl) h) (vn_lst (va_cons (ve_op op_add_str l_addS (ve_op op_add_str l_addS (ve_slS (ve_var 1 (pv 1)) vo_none (vo_some (ve_var 3 (pv 3)))) (ve_var 4 (pv 4))) (ve_slS (ve_var 1 (pv 1)) (vo_some (ve_var 3 (pv 3))) vo_none)) (va_cons (ve_op op_add_str l_addS (ve_slS (ve_var 1 (pv 1)) vo_none (vo_some (ve_var 3 (pv 3)))) (ve_slS (ve_var 1 (pv 1)) (vo_some (ve_op op_add l_rI0 (ve_var 3 (pv 3)) ve_int)) vo_none)) (va_cons (ve_op op_add_str l_addS (ve_op op_add_str l_addS (ve_slS (ve_var 1 (pv 1)) vo_none (vo_some (ve_var 3 (pv 3)))) (ve_var 4 (pv 4))) (ve_slS (ve_var 1 (pv 1)) (vo_some (ve_op op_add l_rI0 (ve_var 3 (pv 3)) ve_int)) vo_none)) va_nil)))))
    (vss_cons (vs_set1 (i := 6) scLSpoilt.nd rfl (Or.inl rfl) (ve_slS (ve_var 1 (pv 1)) (vo_some (ve_var 3 (pv 3))) (vo_some (ve_op op_add l_rI0 (ve_var 3 (pv 3)) ve_int))))
    (vss_cons (vs_expr (ve_app 5 rfl (pv 5) (ve_op op_add_str l_addS (ve_op op_add_str l_addS (ve_slS (ve_var 1 (pv 1)) vo_none (vo_some (ve_var 3 (pv 3)))) (ve_revS (ve_var 6 (pv 6)))) (ve_slS (ve_var 1 (pv 1)) (vo_some (ve_op op_add l_rI0 (ve_var 3 (pv 3)) ve_int)) vo_none))))
    (vss_cons (vs_setN (fun _ h => ps_set (i := 5) scLSpoilt.nd rfl (Or.inl rfl) h) (vn_cat 5 (pv 5) (vn_lst (va_cons (ve_op op_add_str l_addS (ve_var 1 (pv 1)) ve_str) (va_cons (ve_op op_add_str l_addS ve_str (ve_var 1 (pv 1))) (va_cons (ve_op op_add_str l_addS (ve_var 1 (pv 1)) (ve_ix rfl (ve_new (vn_lst (va_cons ve_str (va_cons ve_str va_nil)))) (ve_op op_mod l_rI (ve_var 3 (pv 3)) ve_int) (fun _ _ => rfl))) (va_cons (ve_op op_add_str l_addS ve_str (ve_var 1 (pv 1))) va_nil)))))))
    (vss_cons (vs_setN (fun _ h => ps_set (i := 5) scLSpoilt.nd rfl (Or.inl rfl) h) (vn_cat 5 (pv 5) (vn_lst (va_cons (ve_revS (ve_var 1 (pv 1))) (va_cons (ve_op op_add_str l_addS (ve_slS (ve_var 1 (pv 1)) vo_none (vo_some (ve_var 3 (pv 3)))) (ve_slS (ve_var 1 (pv 1)) vo_none (vo_some (ve_var 3 (pv 3))))) (va_cons (ve_slS (ve_var 1 (pv 1)) (vo_some ve_int) vo_none) (va_cons (ve_op op_add_str l_addS (ve_var 1 (pv 1)) (ve_var 1 (pv 1))) va_nil)))))))
    (vss_one (vs_ret (ve_ixO 5 rfl (pv 5) (ve_var 2 (pv 2)) (fun _ _ => rfl)))))))))))), ?_⟩
  rintro a pn ds es R hl ⟨b, z, e, hz, hpn, hb, q⟩
  obtain rfl : ds = [] := List.eq_nil_of_length_eq_zero hl
  obtain rfl : es = [.str z] := e
  have hz' : z.length ≤ sizeLine := sl_le (by lia)
  walk_at "sl"
  walk_at "rd"
  refine ⟨b, 12, rfl, hpn, by lia, by lia, by lia, fun pn1 r1 h1 r1a r1b => ?_⟩
  walk_at "rd"
  refine j_lenS hz' ?_
  walk_at "rd"
  refine ⟨b + 1, _, rfl, h1, by lia, by lia, by lia, fun pn2 r2 h2 r2a r2b => ?_⟩
  walk_at "rd"
  refine ⟨b + 2, 14, rfl, h2, by lia, by lia, by lia, fun pn3 r3 h3 r3a r3b => ?_⟩
  obtain ⟨n3, rfl⟩ := Int.eq_ofNat_of_zero_le r3a
  obtain ⟨c3, ec3⟩ := signs_at n3 (by lia)
  refine j_kIxSC (c := c3) (sl_le (show (14 : Nat) ≤ 1000000 by decide)) ec3 ?_
  have l1 : (⟨#[c3]⟩ : Str).length ≤ 1 := Nat.le_refl 1
  generalize (⟨#[c3]⟩ : Str) = sg at l1
  walk_at "rd"
  refine j_kSsL hz (by lia) fun y1 hy1 => ?_
  walk_at "rd"
  refine j_addL hy1 l1 (by lia) fun w1 hw1 => ?_
  walk_at "rd"
  refine j_kSsL hz (by lia) fun y2 hy2 => ?_
  walk_at "rd"
  refine j_addL hw1 hy2 (by lia) fun w2 hw2 => ?_
  walk_at "rd"
  refine j_kSsL hz (by lia) fun y3 hy3 => ?_
  walk_at "rd"
  refine j_kSsL hz (by lia) fun y4 hy4 => ?_
  walk_at "rd"
  refine j_addL hy3 hy4 (by lia) fun w3 hw3 => ?_
  walk_at "rd"
  refine j_kSsL hz (by lia) fun y5 hy5 => ?_
  walk_at "rd"
  refine j_addL hy5 l1 (by lia) fun w4 hw4 => ?_
  walk_at "rd"
  refine j_kSsL hz (by lia) fun y6 hy6 => ?_
  walk_at "rd"
  refine j_addL hw4 hy6 (by lia) fun w5 hw5 => ?_
  walk_at "rd"
  refine j_kSsL hz (by lia) fun y7 hy7 => ?_
  walk_at "rd"
  refine j_kSsL hz (by lia) fun y8 hy8 => ?_
  walk_at "rd"
  refine j_kRevS (sl_le (by lia)) fun v1 hv1 => ?_
  walk_at "rd"
  have hv1 : v1.length ≤ 21 := Nat.le_trans hv1 hy7
  refine j_addL hy8 hv1 (by lia) fun w6 hw6 => ?_
  walk_at "rd"
  refine j_kSsL hz (by lia) fun y9 hy9 => ?_
  walk_at "rd"
  refine j_addL hw6 hy9 (by lia) fun w7 hw7 => ?_
  walk_at "rd"
  have s1 : ∀ x : Str, x = ":" ∨ x = " " ∨ x = "\n" → x.length ≤ 1 := by rintro x (rfl | rfl | rfl) <;> decide
  refine j_addL hz (s1 _ (.inl rfl)) (by lia) fun w8 hw8 => ?_
  walk_at "rd"
  refine j_addL (s1 _ (.inl rfl)) hz (by lia) fun w9 hw9 => ?_
  walk_at "rd"
  have hx : ∃ x : Str, x.length ≤ 1 ∧ atI [D.str (Str.ofString " "), D.str (Str.ofString "\n")] (r2 % 2) = some (.str x) := by
    have : r2 % 2 = 0 ∨ r2 % 2 = 1 := by lia
    rcases this with e | e <;> rw [e]
    · exact ⟨" ", by decide, rfl⟩
    · exact ⟨"\n", by decide, rfl⟩
  obtain ⟨x, lx, ex⟩ := hx
  refine j_ixL rfl rfl ex ?_
  walk_at "rd"
  refine j_addL hz lx (by lia) fun w10 hw10 => ?_
  walk_at "rd"
  refine j_addL (s1 _ (.inr (.inl rfl))) hz (by lia) fun w11 hw11 => ?_
  walk_at "rd"
  refine j_kCat rfl (Nat.le_of_ble_eq_true rfl) ?_
  walk_at "rd"
  refine j_kRevS hz' fun v2 hv2 => ?_
  walk_at "rd"
  refine j_kSsL hz (by lia) fun u1 hu1 => ?_
  walk_at "rd"
  refine j_kSsL hz (by lia) fun u2 hu2 => ?_
  walk_at "rd"
  refine j_addL hu1 hu2 (by lia) fun w12 hw12 => ?_
  walk_at "rd"
  refine j_kSsL hz (by lia) fun u3 hu3 => ?_
  walk_at "rd"
  refine j_addL hz hz (by lia) fun w13 hw13 => ?_
  walk_at "rd"
  refine j_kCat rfl (Nat.le_of_ble_eq_true rfl) ?_
  walk_at "rd"
  have hr1 : r1 = 0 ∨ r1 = 1 ∨ r1 = 2 ∨ r1 = 3 ∨ r1 = 4 ∨ r1 = 5 ∨ r1 = 6 ∨ r1 = 7 ∨ r1 = 8 ∨ r1 = 9 ∨ r1 = 10 ∨ r1 = 11 := by lia
  have fin : ∀ y : Str, y.length ≤ 63 → ∃ ns', [Sl.pen (some a) pn3][0]? = some (Sl.pen (some a) ns') ∧ R (.str y) ns' := fun y hy => ⟨_, rfl, q y _ hy (h3.le (by lia))⟩
  rcases hr1 with rfl | rfl | rfl | rfl | rfl | rfl | rfl | rfl | rfl | rfl | rfl | rfl
  all_goals refine j_kIxO rfl rfl rfl ?_
  all_goals walk_at "rd"
  all_goals exact fin _ (by lia)
end
end My


namespace My
open PySem L2 VL
def pRg : List D → (D → Prop) → Prop := fun ds R => (∃ z : Str, ds = [.str z, dueD (rdR z)] ∧ z.length ≤ 63 ∧ R (.bl true)) ∨ ∃ d, ds = [d, .non] ∧ NoTx d ∧ R (.bl true)
theorem enc_rl : Enc 2 (fun x : Int × List Int × List Int => rl x.1 x.2.1 x.2.2) where
  ty := fun x => by
    have a := enc_eT.ty x.2.1
    have b := enc_eT.ty x.2.2
    show (noTy (.int x.1) && (noTy (eT x.2.1) && (noTy (eT x.2.2) && true))) = true
    rw [a, b]; rfl
  lay := fun x => by
    have a := enc_eT.lay x.2.1
    have b := enc_eT.lay x.2.2
    show PyData.canLay0 (.tuple [.int x.1, pd (eT x.2.1), pd (eT x.2.2)]) = true
    simp [PyData.canLay0, PyData.canLayAll0, a, b]
  dep := fun x => by
    have a := enc_eT.dep x.2.1
    have b := enc_eT.dep x.2.2
    show PyData.depth (.tuple [.int x.1, pd (eT x.2.1), pd (eT x.2.2)]) ≤ 2
    simp [PyData.depth, PyData.depthAll]
    lia
  eq := fun x y => by
    have a := enc_eT.eq x.2.1 y.2.1
    have b := enc_eT.eq x.2.2 y.2.2
    show PyData.eqv (.tuple [.int x.1, pd (eT x.2.1), pd (eT x.2.2)]) (.tuple [.int y.1, pd (eT y.2.1), pd (eT y.2.2)]) = true ↔ _
    obtain ⟨x1, x2, x3⟩ := x
    obtain ⟨y1, y2, y3⟩ := y
    simp [PyData.eqv, PyData.eqvAll, a, b]
theorem no_rule {z : Str} (h : rdR z = none) : [D.str z, D.non] = [D.str z, dueD (rdR z)] := by rw [h]; rfl
theorem cn_ris {k : Nat} (hk : k = 4 ∨ k = 6 ∨ k = 8) {l : List Nat} (h : ris k l = true) (hl : l.length ≤ 9) : Cn k (cts l) := by
  have h' := h
  unfold ris at h
  rw [Bool.and_eq_true, decide_eq_true_eq, decide_eq_true_eq] at h
  refine ⟨(cts_lt.mpr h.2).imp fun z => by lia, fun n hn => ?_, by rw [cts_len]; exact hl⟩
  obtain ⟨c, hc, rfl⟩ := List.mem_map.mp (show n ∈ l.map fun (c : Nat) => (c : Int) - 48 from hn)
  have := h.1 c hc
  lia
theorem cn_rev {k : Int} {ns : List Int} (h : Cn k ns) : Cn k ns.reverse := ⟨(List.reverse_perm ns).nodup_iff.mpr h.1, fun n hn => h.2.1 n (List.mem_reverse.mp hn), by rw [List.length_reverse]; exact h.2.2⟩
theorem sort_is {k : Nat} {l : List Nat} {ns : List Int} (h : ris k l = true) (p : ns.Perm (cts l)) (s : ns.Pairwise (· ≤ ·)) : ns = cts l := by
  unfold ris at h
  rw [Bool.and_eq_true, decide_eq_true_eq, decide_eq_true_eq] at h
  have hl := cts_lt.mpr h.2
  exact same_rising (lt_of_le s (p.nodup_iff.mpr (hl.imp fun z => by lia))) hl fun k => p.mem_iff
theorem rdR_txR {k : Nat} (hk : k = 4 ∨ k = 6 ∨ k = 8) {b s : List Nat} (rb : ris k b = true) (rs : ris k s = true) : rdR (txR k b s) = some (k, b, s) := by
  have fb : 58 ∉ b := fun z => by have := ris_sign hk rb 58 z; lia
  have fs : 58 ∉ s := fun z => by have := ris_sign hk rs 58 z; lia
  have h := split_join (c := 58) (ws := [mk [48 + k], mk b, mk s]) (by simp) (fun w hw z => by
    simp only [List.mem_cons, List.not_mem_nil, or_false] at hw
    rcases hw with rfl | rfl | rfl
    · rw [mk_toList, List.mem_singleton] at z; lia
    · rw [mk_toList] at z; exact fb z
    · rw [mk_toList] at z; exact fs z)
  have e : Txt.join ⟨#[58]⟩ [mk [48 + k], mk b, mk s] = txR k b s := str_ext (by
    show (Builtin.Str.glued _ _).cps.toList = _
    rw [StrLaws.glued_eq_join, join_jl]
    unfold txR
    simp only [List.map_cons, List.map_nil, mk_toList]
    rfl)
  rw [e] at h
  have h2 : Txt.split (txR k b s) (mk [58]) = [mk [48 + k], mk b, mk s] := h
  unfold rdR
  rw [h2]
  simp only [List.map_cons, List.map_nil, mk_toList]
  have ek : kdOf [48 + k] = some k := by rcases hk with rfl | rfl | rfl <;> rfl
  rw [rdW, ek]
  simp [rb, rs]
section
variable {P : Program} {w : World} {K : PySem.W.Frag} {mg : Str → Option Value} {base : Heap}
theorem ok_right {c_NoText c_CellError c_NoRule c_NoLine : Addr} (S : Src K mg "_law_right" sLRight) (T : Txt mg) (E_read_rule : Has P w K mg base 2 "read_rule" ["text"] (spP K pRR)) (EX_read_rule : HasX P w K mg base 2 "read_rule" ["text"] (bdR c_NoText))
    (g_CellError : mg "CellError" = some (.ref c_CellError)) (g_NoText : mg "NoText" = some (.ref c_NoText)) (g_NoRule : mg "NoRule" = some (.ref c_NoRule)) (g_NoLine : mg "NoLine" = some (.ref c_NoLine)) (g_ValueError : mg "ValueError" = none)
    (s1 : PySem.W.exmOne K (.ref c_NoText) (.ref c_CellError) = some true) (s2 : excOk K c_NoText = true) (s3 : PySem.W.kitOne K (.ref c_NoText) (.ref c_NoRule) = some false) (s4 : PySem.W.kitOne K (.ref c_NoText) (.ref c_NoLine) = some false) (s5 : PySem.W.kitOne K (.ref c_NoText) (.ref c_NoText) = some true) (s6 : PySem.W.kitOne K (.ref c_NoText) (.type "ValueError") = some true) : Has P w K mg base 3 "_law_right" ["_law_text_here", "_law_due_here"] (spP K pRg) := by
  refine has_P S scLRight (fun _ _ _ _ _ _ us hl => match us, hl with | [_, _], _ => rfl) (fun ds R h => by rcases h with ⟨_, e, _⟩ | ⟨_, e, _⟩ <;> (rw [e]; rfl)) fun f cdv A outer s H E hr => ⟨_, _, (vss_cons (vs_set1 (i := 2) scLRight.nd rfl (Or.inl rfl) ve_non)
    (vss_cons (vs_set1 (i := 3) scLRight.nd rfl (Or.inl rfl) ve_non)
    (vss_cons (vs_alt (vs_tryN (vss_one (vs_set1 (i := 3) scLRight.nd rfl (Or.inl rfl) (ve_fn E_read_rule hr (va_cons (ve_var 0 (pv 0)) va_nil)))) (fun _ _ h => h)) (vs_tryA (i := 4) EX_read_rule rfl hr (va_cons (ve_var 0 (pv 0)) va_nil) g_CellError (fun y => (vss_one (vs_set1 (i := 2) scLRight.nd rfl (Or.inl rfl) (ve_var 4 (pv 4))))) (fun _ _ h => h) rfl rfl rfl scLRight.nd rfl rfl))
    (vss_cons (vs_if (vt_cmp op_notN l_notN (ve_var 1 (pv 1)) ve_non (nomark _)) (vss_one (vs_ret (ve_and (ve_cmp op_isN l_isN (ve_var 2 (pv 2)) ve_non (nomark _)) (ve_and (ve_callB (c_isi (K := K) rfl) l_isi (by rfl) T.isinstance_ bt_isinstance (va_cons (ve_var 3 (pv 3)) (va_cons (ve_pe (pe_bltn (v := .ty "tuple") (by rfl) T.tuple_ bt_tuple rfl) (fun _ _ => .ty _)) va_nil))) (ve_one (ve_cmp (op_eqD (K := K) rfl hr.units) l_eqD (ve_var 3 (pv 3)) (ve_var 1 (pv 1)) (nomark _))))))) vss_nil)
    (vss_cons (vs_if (vw_pt (vw_or (vt_val (ve_isiE (i := 2) (c := .ref c_NoRule) rfl rfl (pe_glob (by rfl) g_NoRule rfl) rfl (Or.inl rfl) (by rfl) T.isinstance_)) (vw_or1 (vt_val (ve_isiE (i := 2) (c := .ref c_NoLine) rfl rfl (pe_glob (by rfl) g_NoLine rfl) rfl (Or.inl rfl) (by rfl) T.isinstance_))))) (vss_one (vs_ret ve_bl)) vss_nil)
    (vss_one (vs_ret (ve_and (ve_isiE (i := 2) (c := .ref c_NoText) rfl rfl (pe_glob (by rfl) g_NoText rfl) rfl (Or.inl rfl) (by rfl) T.isinstance_) (ve_one (ve_isiE (i := 2) (c := .type "ValueError") rfl rfl (pe_bltn (by rfl) g_ValueError PyProof.Rows.Boot.«ValueError» rfl) rfl (Or.inl rfl) (by rfl) T.isinstance_)))))))))), ?_⟩
  rintro ds R h
  have hq : R (.bl true) := by rcases h with ⟨_, _, _, q⟩ | ⟨_, _, _, q⟩ <;> exact q
  have hh : (∃ z r, ds = [.str z, dueD (some r)] ∧ z.length ≤ 63 ∧ rdR z = some r) ∨ ∃ d, ds = [d, .non] ∧ bdR c_NoText [d] c_NoText := by
    rcases h with ⟨z, e, hz, _⟩ | ⟨d, e, hd, _⟩
    · cases hrd : rdR z with
      | none => rw [hrd] at e; exact .inr ⟨_, e, .inl ⟨z, rfl, hz, hrd, rfl⟩⟩
      | some r => rw [hrd] at e; exact .inl ⟨z, r, e, hz, hrd⟩
    · exact .inr ⟨d, e, .inr ⟨d, rfl, hd, rfl⟩⟩
  clear h
  rcases hh with ⟨z, ⟨k, b, c⟩, rfl, hz, hrd⟩ | ⟨d, rfl, hb⟩
  · walk_at "sl"
    walk_at "rd"
    refine .inl ?_
    walk_at "rd"
    refine ⟨z, _, rfl, hz, hrd, ?_⟩
    rw [show dueD (some (k, b, c)) = .tup [.int k, .tup ((cts b).map .int), .tup ((cts c).map .int)] from rfl]
    walk_at "rc"
    refine i_eqT enc_rl (x := ((k : Int), cts b, cts c)) (y := ((k : Int), cts b, cts c)) rfl ?_
    walk_at "rc"
    exact hq
  · walk_at "sl"
    walk_at "rd"
    refine .inr ?_
    unfold vTry
    walk_at "rd"
    refine ⟨Nat.le_of_ble_eq_true rfl, _, c_NoText, rfl, hb, s1, ?_⟩
    walk_at "rd"
    refine ⟨Nat.le_of_ble_eq_true rfl, ?_⟩
    dsimp only [List.set_cons_zero, List.set_cons_succ]
    walk_at "rc"
    refine j_isiE rfl s2 s3 ?_
    walk_at "rc"
    refine j_isiE rfl s2 s4 ?_
    walk_at "rc"
    refine j_isiE rfl s2 s5 ?_
    walk_at "rc"
    refine j_isiE rfl s2 s6 ?_
    walk_at "rc"
    exact hq
theorem ok_law (S : Src K mg "law" sLaw) (T : Txt mg) (E_law_pen : Has P w K mg base 1 "_law_pen" ["_law_script", "_law_k"] (spP K pPen)) (E_law_draw : Has P w K mg base 1 "_law_draw" ["_law_pen_here", "_law_many"] (spI K 0 pDraw)) (E_law_counts : Has P w K mg base 2 "_law_counts" ["_law_pen_here", "_law_kind"] (spI K 0 pCo)) (E_law_text : Has P w K mg base 1 "_law_text" ["_law_kind", "_law_born", "_law_stay"] (spP K pTx)) (E_rule : Has P w K mg base 3 "rule" ["kind", "born", "stay"] (spP K pRule)) (E_show_rule : Has P w K mg base 2 "show_rule" ["rule"] (spP K pSR))
    (E_law_right : Has P w K mg base 3 "_law_right" ["_law_text_here", "_law_due_here"] (spP K pRg)) (E_law_spoilt : Has P w K mg base 2 "_law_spoilt" ["_law_pen_here", "_law_text_here"] (spI K 0 pSp)) (E_law_due : Has P w K mg base 2 "_law_due" ["_law_text_here"] (spP K pDue)) : Has P w K mg base 4 "law" ["_law_script"] (spP K pLaw) := by
  refine has_P S scLaw (fun _ _ _ _ _ _ us hl => match us, hl with | [_], _ => rfl) (fun ds R zq1 => by obtain ⟨_, e, _⟩ := zq1; rw [e]; rfl) fun f cdv A outer s H E hr => ⟨_, _, (vss_cons (vs_for PassesOwn.never rfl (vi_range1 rfl T.range (va_cons ve_int va_nil)) (vg_name (pg_name (i := 1) scLaw.nd rfl (Or.inl rfl) (Or.inl rfl))) (vss_cons (vs_setP (fun _ h => ps_set (i := 2) scLaw.nd rfl (Or.inl rfl) h) (vn_fn E_law_pen hr (va_cons (ve_var 0 (pv 0)) (va_cons (ve_var 1 (pv 1)) va_nil))))
    (vss_cons (vs_set1 (i := 3) scLaw.nd rfl (Or.inl rfl) (ve_ix rfl (ve_new (vn_lst (va_cons ve_int (va_cons ve_int (va_cons ve_int va_nil))))) (ve_fnI E_law_draw hr (va_cons (ve_var 2 (pv 2)) (va_cons ve_int va_nil))) (fun _ _ => rfl)))
    (vss_cons (vs_set1 (i := 4) scLaw.nd rfl (Or.inl rfl) (ve_fnI E_law_counts hr (va_cons (ve_var 2 (pv 2)) (va_cons (ve_var 3 (pv 3)) va_nil))))
    (vss_cons (vs_set1 (i := 5) scLaw.nd rfl (Or.inl rfl) (ve_fnI E_law_counts hr (va_cons (ve_var 2 (pv 2)) (va_cons (ve_var 3 (pv 3)) va_nil))))
    (vss_cons (vs_set1 (i := 6) scLaw.nd rfl (Or.inl rfl) (ve_fn E_law_text hr (va_cons (ve_var 3 (pv 3)) (va_cons (ve_var 4 (pv 4)) (va_cons (ve_var 5 (pv 5)) va_nil)))))
    (vss_cons (vs_set1 (i := 7) scLaw.nd rfl (Or.inl rfl) (ve_fn E_rule hr (va_cons (ve_var 3 (pv 3)) (va_cons (ve_new (vn_rev rfl (ve_var 4 (pv 4)))) (va_cons (ve_tupleOf rfl (by rfl) T.tuple_ (va_cons (ve_var 5 (pv 5)) va_nil)) va_nil)))))
    (vss_cons (vs_set1 (i := 8) scLaw.nd rfl (Or.inl rfl) (ve_fn E_show_rule hr (va_cons (ve_var 7 (pv 7)) va_nil)))
    (vss_cons (vs_if (vw_pt (vw_or (vt_not (vt_val (ve_callB (c_isi (K := K) rfl) l_isi (by rfl) T.isinstance_ bt_isinstance (va_cons (ve_var 8 (pv 8)) (va_cons (ve_pe (pe_bltn (v := .ty "str") (by rfl) T.str_ bt_str rfl) (fun _ _ => .ty _)) va_nil))))) (vw_or (vt_cmp op_ne l_ne (ve_var 8 (pv 8)) (ve_var 6 (pv 6)) (nomark _)) (vw_or1 (vt_not (vt_val (ve_fn E_law_right hr (va_cons (ve_var 6 (pv 6)) (va_cons (ve_var 7 (pv 7)) va_nil))))))))) (vss_one (vs_ret ve_bl)) vss_nil)
    (vss_cons (vs_set1 (i := 9) scLaw.nd rfl (Or.inl rfl) (ve_fnI E_law_spoilt hr (va_cons (ve_var 2 (pv 2)) (va_cons (ve_var 6 (pv 6)) va_nil))))
    (vss_one (vs_if (vw_pt (vw_or (vt_not (vt_val (ve_fn E_law_right hr (va_cons (ve_var 9 (pv 9)) (va_cons (ve_fn E_law_due hr (va_cons (ve_var 9 (pv 9)) va_nil)) va_nil))))) (vw_or1 (vt_not (vt_val (ve_fn E_law_right hr (va_cons (ve_var 6 (pv 6)) (va_cons (ve_var 7 (pv 7)) va_nil)))))))) (vss_one (vs_ret ve_bl)) vss_nil))))))))))))
    (vss_cons (vs_for PassesOwn.never rfl (vi_list rfl (ve_new (vn_lst (va_cons ve_non (va_cons ve_int (va_cons ve_bl (va_cons (ve_new (vn_lst va_nil)) (va_cons (ve_new (vn_lst (va_cons ve_str va_nil))) (va_cons (ve_tup (va_cons ve_int (va_cons (ve_tup (va_cons ve_int va_nil)) (va_cons (ve_tup (va_cons ve_int (va_cons ve_int va_nil))) va_nil)))) (va_cons (ve_newD vd_nil) (va_cons ve_str (va_cons ve_str (va_cons ve_str (va_cons ve_str (va_cons ve_str (va_cons ve_str va_nil)))))))))))))))) (vg_name (pg_name (i := 10) scLaw.nd rfl (Or.inl rfl) (Or.inl rfl))) (vss_one (vs_if (vt_not (vt_val (ve_fn E_law_right hr (va_cons (ve_var 10 (pv 10)) (va_cons ve_non va_nil))))) (vss_one (vs_ret ve_bl)) vss_nil)))
    (vss_one (vs_ret ve_bl)))), ?_⟩
  rintro ds R ⟨ns, rfl, hn, q⟩
  walk_at "sl"
  walk_at "rd"
  refine i_kForR (fun i S => ∃ v1 v2 v3 v4 v5 v6 v7 v8 v9 v10, S = [.val (.lst (ns.map .int)), v1, v2, v3, v4, v5, v6, v7, v8, v9, v10]) ⟨_, _, _, _, _, _, _, _, _, _, rfl⟩ ?_ ?_
  · rintro i S hi ⟨v1, v2, v3, v4, v5, v6, v7, v8, v9, v10, rfl⟩
    have hi' : i < 6 := hi
    rw [Int.zero_add]
    walk_at "rd"
    refine ⟨ns, i, rfl, by lia, fun x y => ⟨_, rfl, rfl, ?_⟩⟩
    refine i_kSetP (ns := [x, y, 0]) rfl ?_
    walk_at "rd"
    refine ⟨0, 3, rfl, ⟨x, y, 0, rfl, by lia, by lia⟩, by lia, by lia, by lia, fun pn1 r1 h1 r1a r1b => ?_⟩
    have hk : ∃ k : Nat, (k = 4 ∨ k = 6 ∨ k = 8) ∧ atI [D.int 4, .int 6, .int 8] r1 = some (.int (k : Int)) := by
      have : r1 = 0 ∨ r1 = 1 ∨ r1 = 2 := by lia
      rcases this with rfl | rfl | rfl
      · exact ⟨4, .inl rfl, rfl⟩
      · exact ⟨6, .inr (.inl rfl), rfl⟩
      · exact ⟨8, .inr (.inr rfl), rfl⟩
    obtain ⟨k, hk, ek⟩ := hk
    refine j_ixL rfl rfl ek ?_
    walk_at "rd"
    refine ⟨_, k, rfl, hk, h1, by lia, fun lb pn2 rb lb9 h2 => ?_⟩
    walk_at "rd"
    refine ⟨_, k, rfl, hk, h2, by lia, fun ls pn3 rs ls9 h3 => ?_⟩
    walk_at "rd"
    refine ⟨k, lb, ls, rfl, hk, rb, rs, lb9, ls9, ?_⟩
    walk_at "rd"
    refine j_kRev rfl (flats_ints _) ?_
    walk_at "rd"
    refine j_kTupL rfl (flats_ints _) ?_
    walk_at "rd"
    have cb := cn_ris hk rb lb9
    have cs := cn_ris hk rs ls9
    refine ⟨k, (cts lb).reverse, cts ls, by rw [List.map_reverse], by rcases hk with rfl | rfl | rfl <;> simp [Kd], cn_rev cb, cs, fun b s pb sb ps ss => ?_⟩
    obtain rfl := sort_is rb (pb.trans (List.reverse_perm _)) sb
    obtain rfl := sort_is rs ps ss
    have k9 : k ≤ 9 := by rcases hk with rfl | rfl | rfl <;> decide
    have fb : ∀ c ∈ lb, 48 ≤ c ∧ c ≤ 57 := fun c hc => by have := ris_sign hk rb c hc; lia
    have fs : ∀ c ∈ ls, 48 ≤ c ∧ c ≤ 57 := fun c hc => by have := ris_sign hk rs c hc; lia
    have hd := rdR_txR hk rb rs
    have hlen : (txR k lb ls).length ≤ 21 := by unfold txR; rw [mk_len]; simp; lia
    have hrl : rl k (cts lb) (cts ls) = dueD (rdR (txR k lb ls)) := by rw [hd]; rfl
    walk_at "rd"
    refine ⟨k, lb, ls, rfl, k9, fb, fs, by lia, by lia, ?_⟩
    generalize txR k lb ls = z at hd hlen hrl
    walk_at "rc"
    rw [decide_eq_true (rfl : z = z)]
    walk_at "rc"
    refine .inl ⟨z, by rw [hrl], by lia, ?_⟩
    walk_at "rc"
    refine ⟨_, z, rfl, hlen, h3, by lia, fun y' pn4 hy h4 => ?_⟩
    walk_at "rc"
    refine ⟨y', rfl, hy, ?_⟩
    walk_at "rc"
    refine .inl ⟨y', rfl, hy, ?_⟩
    walk_at "rc"
    refine .inl ⟨z, by rw [hrl], by lia, ?_⟩
    walk_at "rc"
    exact ⟨_, _, _, _, _, _, _, _, _, _, rfl⟩
  · rintro S ⟨v1, v2, v3, v4, v5, v6, v7, v8, v9, v10, rfl⟩
    walk_at "rd"
    refine i_kForU ?_
    walk_at "rc"
    refine .inr ⟨_, rfl, trivial, ?_⟩
    walk_at "rc"
    refine .inr ⟨_, rfl, trivial, ?_⟩
    walk_at "rc"
    refine .inr ⟨_, rfl, trivial, ?_⟩
    walk_at "rc"
    refine .inr ⟨_, rfl, trivial, ?_⟩
    walk_at "rc"
    refine .inr ⟨_, rfl, trivial, ?_⟩
    walk_at "rc"
    refine .inr ⟨_, rfl, trivial, ?_⟩
    walk_at "rc"
    refine .inr ⟨_, rfl, trivial, ?_⟩
    walk_at "rc"
    refine .inl ⟨"", no_rule (by decide +kernel), by decide, ?_⟩
    walk_at "rc"
    refine .inl ⟨"8", no_rule (by decide +kernel), by decide, ?_⟩
    walk_at "rc"
    refine .inl ⟨"8:", no_rule (by decide +kernel), by decide, ?_⟩
    walk_at "rc"
    refine .inl ⟨"::", no_rule (by decide +kernel), by decide, ?_⟩
    walk_at "rc"
    refine .inl ⟨"5:1:1", no_rule (by decide +kernel), by decide, ?_⟩
    walk_at "rc"
    refine .inl ⟨"8:3/23", no_rule (by decide +kernel), by decide, ?_⟩
    walk_at "rc"
    exact q
end
end My
namespace My
open PySem L2 VL
theorem all_ok {l : PySem.W.OpenLaw} {w : World} {K : PySem.W.Frag} {h : Heap} {mg : Str → Option Value} {fa : Addr} {a_KINDS : Addr} {t_FIGURES : Tok} {c_NoText : Addr}  {c_CellError : Addr}  {c_NoRule : Addr}  {c_NoLine : Addr} (X : K.In h) (G : h.Ns mainGlobals mg) (hfa : mg "law" = some (.ref fa))
    (S0 : Src K mg "_law_pen" sLPen) (S1 : Src K mg "_law_draw" sLDraw) (S2 : Src K mg "is_whole" sIsWhole) (S3 : Src K mg "is_row_of_counts" sIsRowOfCounts) (S4 : Src K mg "rule" sRule) (S5 : Src K mg "show_counts" sShowCounts) (S6 : Src K mg "show_rule" sShowRule) (S7 : Src K mg "read_counts" sReadCounts) (S8 : Src K mg "read_counts" sReadCounts) (S9 : Src K mg "read_rule" sReadRule) (S10 : Src K mg "read_rule" sReadRule) (S11 : Src K mg "_law_rising" sLRising) (S12 : Src K mg "_law_due" sLDue) (S13 : Src K mg "_law_counts" sLCounts) (S14 : Src K mg "_law_text" sLText) (S15 : Src K mg "_law_spoilt" sLSpoilt) (S16 : Src K mg "_law_right" sLRight) (S17 : Src K mg "law" sLaw)
    (n_KINDS : PySem.W.nsIn K mainGlobals "KINDS" = some (some (.ref a_KINDS))) (k_KINDS : okTS K (.ref a_KINDS) three = true) (s_FIGURES : PySem.W.nsIn K mainGlobals "FIGURES" = some (some (.str "0123456789" t_FIGURES))) (h_NoText : PySem.W.nsIn K mainGlobals "NoText" = some (some (.ref c_NoText)))  (h_CellError : PySem.W.nsIn K mainGlobals "CellError" = some (some (.ref c_CellError)))  (h_NoRule : PySem.W.nsIn K mainGlobals "NoRule" = some (some (.ref c_NoRule)))  (h_NoLine : PySem.W.nsIn K mainGlobals "NoLine" = some (some (.ref c_NoLine))) (y0 : PySem.W.nsIn K mainGlobals "ValueError" = some none) (y1 : PySem.W.excIn K c_NoText [.type "ValueError", .type "Exception", .type "BaseException", .type "object"] "ValueError.__new__" = true) (y2 : PySem.W.exmOne K (.ref c_NoText) (.ref c_CellError) = some true) (y3 : excOk K c_NoText = true) (y4 : PySem.W.kitOne K (.ref c_NoText) (.ref c_NoRule) = some false) (y5 : PySem.W.kitOne K (.ref c_NoText) (.ref c_NoLine) = some false) (y6 : PySem.W.kitOne K (.ref c_NoText) (.ref c_NoText) = some true) (y7 : PySem.W.kitOne K (.ref c_NoText) (.type "ValueError") = some true)
    (z0 : PySem.W.nsIn K mainGlobals "len" = some none) (z1 : PySem.W.nsIn K mainGlobals "range" = some none) (z2 : PySem.W.nsIn K mainGlobals "abs" = some none) (z3 : PySem.W.nsIn K mainGlobals "isinstance" = some none) (z4 : PySem.W.nsIn K mainGlobals "int" = some none) (z5 : PySem.W.nsIn K mainGlobals "bool" = some none) (z6 : PySem.W.nsIn K mainGlobals "list" = some none) (z7 : PySem.W.nsIn K mainGlobals "tuple" = some none) (z8 : PySem.W.nsIn K mainGlobals "sorted" = some none) (z9 : PySem.W.nsIn K mainGlobals "max" = some none) (z10 : PySem.W.nsIn K mainGlobals "min" = some none) (z11 : PySem.W.nsIn K mainGlobals "all" = some none) (z12 : PySem.W.nsIn K mainGlobals "any" = some none) (z13 : PySem.W.nsIn K mainGlobals "set" = some none) (z14 : PySem.W.nsIn K mainGlobals "sum" = some none) (z15 : PySem.W.nsIn K mainGlobals "str" = some none) :
    ∃ fd : FuncData, (∀ (s : Shared) (v : Value), BindsTo s fd ⟨[v], []⟩ [("_law_script", v)]) ∧ ∀ base : Heap, K.In base → base.Ns mainGlobals mg → FnOk l.prog w K mg base CX0 4 fa fd ["_law_script"] (spP K pLaw) := by
  have no := fun {n : Str} (z : PySem.W.nsIn K mainGlobals n = some none) => PySem.W.mg_none_of X G z
  have T : Txt mg := ⟨no z0, no z1, no z2, no z3, no z4, no z5, no z6, no z7, no z8, no z9, no z10, no z11, no z12, no z13, no z14, no z15⟩
  refine law_has S17 hfa (fun _ _ _ _ _ _ _ => rfl) fun base => ?_
  have E_law_pen := ok_pen (P := l.prog) (w := w) (base := base) S0 T  
  have E_law_draw := ok_draw (P := l.prog) (w := w) (base := base) S1 T  
  have E_is_whole := ok_wh (P := l.prog) (w := w) (base := base) S2 T  
  have E_is_row_of_counts := ok_rowR (P := l.prog) (w := w) (base := base) S3 T E_is_whole 
  have E_rule := ok_rule (P := l.prog) (w := w) (base := base) S4 T E_is_whole E_is_row_of_counts 
  have E_show_counts := ok_sc (P := l.prog) (w := w) (base := base) S5 T  
  have E_show_rule := ok_sr (P := l.prog) (w := w) (base := base) S6 T E_show_counts 
  have E_read_counts := ok_rc (P := l.prog) (w := w) (base := base) S7 T  (PySem.W.mg_of X G s_FIGURES)
  have E_rcX := ok_rcX (P := l.prog) (w := w) (base := base) S8 T  (PySem.W.mg_of X G s_FIGURES) (PySem.W.mg_of X G h_NoText) y1
  have E_read_rule := ok_rr (P := l.prog) (w := w) (base := base) S9 T E_read_counts (PySem.W.mg_of X G n_KINDS) k_KINDS
  have E_rrX := ok_rrX (P := l.prog) (w := w) (base := base) S10 T E_read_counts E_rcX (PySem.W.mg_of X G n_KINDS) k_KINDS (PySem.W.mg_of X G h_NoText) y1
  have E_law_rising := ok_ris (P := l.prog) (w := w) (base := base) S11 T  
  have E_law_due := ok_due (P := l.prog) (w := w) (base := base) S12 T E_law_rising 
  have E_law_counts := ok_counts (P := l.prog) (w := w) (base := base) S13 T E_law_draw 
  have E_law_text := ok_text (P := l.prog) (w := w) (base := base) S14 T  
  have E_law_spoilt := ok_spoilt (P := l.prog) (w := w) (base := base) S15 T E_law_draw 
  have E_law_right := ok_right (P := l.prog) (w := w) (base := base) S16 T E_read_rule E_rrX (PySem.W.mg_of X G h_CellError) (PySem.W.mg_of X G h_NoText) (PySem.W.mg_of X G h_NoRule) (PySem.W.mg_of X G h_NoLine) (no y0) y2 y3 y4 y5 y6 y7
  exact ok_law (P := l.prog) (w := w) (base := base) S17 T E_law_pen E_law_draw E_law_counts E_law_text E_rule E_show_rule E_law_right E_law_spoilt E_law_due 
theorem walk {l : PySem.W.OpenLaw} {q : Program} {loose : List Str} {XP : (Str → Option Value) → Heap → Prop} {YP : World → Heap → Prop} {d : DefRec} {K : Params → PySem.W.Frag} (hn : l.most = some 63) (hdf : d.params.defaults = [])
    (hY : ∀ (w : World) (h : Heap), YP w h → (K w.params).In h)
    (F : ∀ (w : World) (mg : Str → Option Value) (fa : Addr) (h : Heap), (K w.params).In h → h.Ns mainGlobals mg → mg d.name = some (.ref fa) →
      ∃ fd : FuncData, (∀ (s : Shared) (u : Value), BindsTo s fd ⟨[u], []⟩ [("_law_script", u)]) ∧ ∀ base : Heap, (K w.params).In base → base.Ns mainGlobals mg → FnOk l.prog w (K w.params) mg base CX0 4 fa fd ["_law_script"] (spP (K w.params) pLaw)) :
    PySem.W.WalkO q loose XP YP l.row.toRowW d [] (fun f vs => PySem.call f vs) :=
  L2.walk_of (n := 63) (k := 4) (x := "_law_script") (CX := fun _ => CX0) (sp := fun w => spP (K w.params) pLaw) hn (by decide) hdf ⟨rfl, by decide, by decide, rfl⟩ hY F
    (fun _ _ a ns hl _ hS => ⟨_, fun d => d = .bl true, .cons (Rep.of_sqL hS trivial (fun _ => trivial) Reps.ints) .nil, ⟨ns, rfl, hl, rfl⟩, fun d v H' e _ r => by subst e; cases r; rfl⟩) fun _ _ _ _ _ z => z
end My
open PySem PySem.W PyProof.Rows
set_option maxRecDepth 100000 in
set_option maxHeartbeats 0 in
theorem PySem.Challenge.cw_cellships_k67_rule_texts_holds : PySem.Challenge.rw_cellships_k67_rule_texts.Holds := by
  w_on; o_law; k_head; (case hw => w_witness2)
  k_fill
  refine My.walk (l := PySem.Challenge.rw_cellships_k67_rule_texts) rfl rfl (fun w h Y => PySem.W.kIn_of Y) ?F
  case F =>
    intro w mg fa h KX G hmg
    refine' My.all_ok KX G hmg (L2.src_mk KX G ?a0 ?l0 ?c0 ?k0) (L2.src_mk KX G ?a1 ?l1 ?c1 ?k1) (L2.src_mk KX G ?a2 ?l2 ?c2 ?k2) (L2.src_mk KX G ?a3 ?l3 ?c3 ?k3) (L2.src_mk KX G ?a4 ?l4 ?c4 ?k4) (L2.src_mk KX G ?a5 ?l5 ?c5 ?k5) (L2.src_mk KX G ?a6 ?l6 ?c6 ?k6) (L2.src_mk KX G ?a7 ?l7 ?c7 ?k7) (L2.src_mk KX G ?a8 ?l8 ?c8 ?k8) (L2.src_mk KX G ?a9 ?l9 ?c9 ?k9) (L2.src_mk KX G ?a10 ?l10 ?c10 ?k10) (L2.src_mk KX G ?a11 ?l11 ?c11 ?k11) (L2.src_mk KX G ?a12 ?l12 ?c12 ?k12) (L2.src_mk KX G ?a13 ?l13 ?c13 ?k13) (L2.src_mk KX G ?a14 ?l14 ?c14 ?k14) (L2.src_mk KX G ?a15 ?l15 ?c15 ?k15) (L2.src_mk KX G ?a16 ?l16 ?c16 ?k16) (L2.src_mk KX G ?a17 ?l17 ?c17 ?k17) ?n0 ?m0 ?s0 ?h0 ?h1 ?h2 ?h3 ?y0 ?y1 ?y2 ?y3 ?y4 ?y5 ?y6 ?y7 ?z0 ?z1 ?z2 ?z3 ?z4 ?z5 ?z6 ?z7 ?z8 ?z9 ?z10 ?z11 ?z12 ?z13 ?z14 ?z15
    (case a0 => k_is); (case l0 => k_is); (case c0 => k_is); (case k0 => k_is)
    (case a1 => k_is); (case l1 => k_is); (case c1 => k_is); (case k1 => k_is)
    (case a2 => k_is); (case l2 => k_is); (case c2 => k_is); (case k2 => k_is)
    (case a3 => k_is); (case l3 => k_is); (case c3 => k_is); (case k3 => k_is)
    (case a4 => k_is); (case l4 => k_is); (case c4 => k_is); (case k4 => k_is)
    (case a5 => k_is); (case l5 => k_is); (case c5 => k_is); (case k5 => k_is)
    (case a6 => k_is); (case l6 => k_is); (case c6 => k_is); (case k6 => k_is)
    (case a7 => k_is); (case l7 => k_is); (case c7 => k_is); (case k7 => k_is)
    (case a8 => k_is); (case l8 => k_is); (case c8 => k_is); (case k8 => k_is)
    (case a9 => k_is); (case l9 => k_is); (case c9 => k_is); (case k9 => k_is)
    (case a10 => k_is); (case l10 => k_is); (case c10 => k_is); (case k10 => k_is)
    (case a11 => k_is); (case l11 => k_is); (case c11 => k_is); (case k11 => k_is)
    (case a12 => k_is); (case l12 => k_is); (case c12 => k_is); (case k12 => k_is)
    (case a13 => k_is); (case l13 => k_is); (case c13 => k_is); (case k13 => k_is)
    (case a14 => k_is); (case l14 => k_is); (case c14 => k_is); (case k14 => k_is)
    (case a15 => k_is); (case l15 => k_is); (case c15 => k_is); (case k15 => k_is)
    (case a16 => k_is); (case l16 => k_is); (case c16 => k_is); (case k16 => k_is)
    (case a17 => k_is); (case l17 => k_is); (case c17 => k_is); (case k17 => k_is)
    (case n0 => k_is); (case m0 => kernel_rfl)
    (case s0 => k_is)
    (case h0 => k_is)
    (case h1 => k_is)
    (case h2 => k_is)
    (case h3 => k_is)
    (case y0 => first | kernel_rfl | k_is)
    (case y1 => first | kernel_rfl | k_is)
    (case y2 => first | kernel_rfl | k_is)
    (case y3 => first | kernel_rfl | k_is)
    (case y4 => first | kernel_rfl | k_is)
    (case y5 => first | kernel_rfl | k_is)
    (case y6 => first | kernel_rfl | k_is)
    (case y7 => first | kernel_rfl | k_is)
    (case z0 => k_is); (case z1 => k_is); (case z2 => k_is); (case z3 => k_is); (case z4 => k_is); (case z5 => k_is); (case z6 => k_is); (case z7 => k_is); (case z8 => k_is); (case z9 => k_is); (case z10 => k_is); (case z11 => k_is); (case z12 => k_is); (case z13 => k_is); (case z14 => k_is); (case z15 => k_is)
#print axioms PySem.Challenge.cw_cellships_k67_rule_texts_holds

