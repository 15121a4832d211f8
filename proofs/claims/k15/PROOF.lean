import PyProof.Rows.All
import Wide.All
import OpenK.AllK
import Wide.FinOn
import Lean
import PyProof.EqAt
import PyProof.EqKinds
import PyProof.TupleCall
import PyProof.NeData
import PyProof.P3In
import PyProof.ListRange
import PyProof.TupleOfStr
import PyProof.Rows.SumAny
import PyProof.Rows.Range3
import PyProof.StrCalls
import PyProof.Rows.SetFrom
import PyProof.WalksMore
import PyProof.TupleOfSeq
import KE.KRevSl
import OpenK.KOwn
import KE.KIsNot
import KE.KTryMore
import PyProof.DictTable
import PyProof.DictCompW
import PyProof.DictItems
import PyProof.DictWalks
import PyProof.DictDisplay
import PyProof.ExcAttrAll.ValueError
import PyProof.TupleKey
import PyProof.IsRules
import KE.KDictList
import KE.KDictSum
import PyProof.FactsAll.set_1
import PyProof.FactsAll.set_2
import PySem.Challenge.RW_cellships_k15_wrapped_to_rings
set_option Elab.async false
set_option linter.all false
set_option maxRecDepth 100000
namespace L2
open PySem PySem.Spec PyProof.Rows

abbrev Key := Sum Int Str
def keyIs : Key → Value → Bool
  | .inl k, v => Value.isInt k v
  | .inr x, v => Value.isStrOf x v
def keyH (w : World) : Key → Int
  | .inl k => hashInt k
  | .inr x => hashStr w x
theorem keyIs_shape : ∀ {k : Key} {v : Value}, keyIs k v = true → (∃ i t, k = Sum.inl i ∧ v = Value.int i t) ∨ (∃ x t, k = Sum.inr x ∧ v = Value.str x t)
  | .inl i, v, h => by
    obtain ⟨t, e⟩ := Value.isInt_shape (k := i) (v := v) h
    exact .inl ⟨i, t, rfl, e⟩
  | .inr x, v, h => by
    obtain ⟨t, e⟩ := Value.isStrOf_shape (x := x) (v := v) h
    exact .inr ⟨x, t, rfl, e⟩
theorem key_ll (a b : Int) : decide ((Sum.inl a : Key) = Sum.inl b) = (a == b) := by
  by_cases e : a = b
  · subst e; simp
  · have h : ¬ (Sum.inl a : Key) = Sum.inl b := fun q => e (Sum.inl.inj q)
    rw [decide_eq_false h]
    exact (beq_eq_false_iff_ne.mpr e).symm
theorem key_rr (a b : Str) : decide ((Sum.inr a : Key) = Sum.inr b) = decide (a = b) := by
  by_cases e : a = b
  · subst e; simp
  · have h : ¬ (Sum.inr a : Key) = Sum.inr b := fun q => e (Sum.inr.inj q)
    rw [decide_eq_false h, decide_eq_false e]
theorem key_lr (a : Int) (b : Str) : decide ((Sum.inl a : Key) = Sum.inr b) = false := decide_eq_false (fun q => nomatch q)
theorem key_rl (a : Str) (b : Int) : decide ((Sum.inr a : Key) = Sum.inl b) = false := decide_eq_false (fun q => nomatch q)

def mixKind (prog : Program) (w : World) : PySem.KeyKind prog w Key where
  is := keyIs
  hash := keyH w
  inj := fun v a b ha hb => by
    rcases keyIs_shape ha with ⟨i, t, rfl, rfl⟩ | ⟨x, t, rfl, rfl⟩
    · rcases keyIs_shape hb with ⟨j, u, rfl, e⟩ | ⟨y, u, rfl, e⟩
      · injection e with e1 _; rw [e1]
      · exact nomatch e
    · rcases keyIs_shape hb with ⟨j, u, rfl, e⟩ | ⟨y, u, rfl, e⟩
      · exact nomatch e
      · injection e with e1 _; rw [e1]
  byValue := fun k v h => by
    rcases keyIs_shape h with ⟨i, t, rfl, rfl⟩ | ⟨x, t, rfl, rfl⟩ <;> rfl
  pyHash := fun hv h => by
    rcases keyIs_shape hv with ⟨i, t, rfl, rfl⟩ | ⟨x, t, rfl, rfl⟩
    · exact wpAny_pyHash_int h
    · exact wpAny_pyHash_str h
  eqBool := fun hu hv h => by
    rcases keyIs_shape hu with ⟨i, t, rfl, rfl⟩ | ⟨x, t, rfl, rfl⟩
    · rcases keyIs_shape hv with ⟨j, u, rfl, rfl⟩ | ⟨y, u, rfl, rfl⟩
      · rw [key_ll] at h; exact wpAny_eqBool_int h
      · rw [key_lr] at h; exact SeqAt.EqAt.int_str i t y u _ _ _ _ h
    · rcases keyIs_shape hv with ⟨j, u, rfl, rfl⟩ | ⟨y, u, rfl, rfl⟩
      · rw [key_rl] at h; exact SeqAt.EqAt.str_int x t j u _ _ _ _ h
      · rw [key_rr] at h; exact wpAny_eqBool_str h
  «strs» := fun k x t v h => by
    rcases keyIs_shape h with ⟨i, u, rfl, e⟩ | ⟨y, u, rfl, e⟩
    · exact nomatch e
    · injection e with e1 _
      subst e1
      cases v <;> rfl

end L2

namespace L2
open PySem PySem.Spec PyProof.Rows

inductive V where
  | non | bl (b : Bool) | int (i : Int) | str (x : Str) | byt (b : Array UInt8) | flt (b : UInt64) | ref (a : Addr) | ty (n : String)
  deriving DecidableEq

def RelV : V → Value → Prop
  | .non, u => u = Value.none
  | .bl b, u => u = Value.bool b
  | .int i, u => ∃ t, u = Value.int i t
  | .str x, u => ∃ t, u = Value.str x t
  | .byt b, u => ∃ t, u = Value.bytes b t
  | .flt b, u => ∃ t, u = Value.float b t
  | .ref a, u => u = Value.ref a
  | .ty n, u => u = Value.type n

abbrev Vals : List V → List Value → Prop := Paired RelV
theorem Vals.length {xs : List V} {us : List Value} (r : Vals xs us) : xs.length = us.length := Paired.length r
theorem Vals.get : ∀ {xs : List V} {us : List Value} {i : Nat} {x : V}, Vals xs us → xs[i]? = some x → ∃ u, us[i]? = some u ∧ RelV x u
  | _, _, _, _, .nil, e => by simp at e
  | _, _, 0, _, .cons r _, e => by simp at e; subst e; exact ⟨_, rfl, r⟩
  | _, _, i + 1, x, .cons _ t, e => by
    obtain ⟨u, h1, h2⟩ := Vals.get (i := i) (x := x) t (by simpa using e)
    exact ⟨u, by simpa using h1, h2⟩
theorem Vals.set {x : V} {u : Value} (r : RelV x u) : ∀ {xs : List V} {us : List Value} (i : Nat), Vals xs us → Vals (xs.set i x) (us.set i u)
  | _, _, _, .nil => .nil
  | _, _, 0, .cons _ t => .cons r t
  | _, _, i + 1, .cons q t => .cons q (Vals.set r i t)
theorem Vals.append : ∀ {xs ys : List V} {us ws : List Value}, Vals xs us → Vals ys ws → Vals (xs ++ ys) (us ++ ws)
  | _, _, _, _, .nil, s => s
  | _, _, _, _, .cons r t, s => .cons r (Vals.append t s)
theorem Vals.take : ∀ {xs : List V} {us : List Value} (n : Nat), Vals xs us → Vals (xs.take n) (us.take n)
  | _, _, 0, _ => .nil
  | _, _, _ + 1, .nil => .nil
  | _, _, n + 1, .cons r t => .cons r (Vals.take n t)
theorem Vals.drop : ∀ {xs : List V} {us : List Value} (n : Nat), Vals xs us → Vals (xs.drop n) (us.drop n)
  | _, _, 0, r => r
  | _, _, _ + 1, .nil => .nil
  | _, _, n + 1, .cons _ t => Vals.drop n t
def RelO : Option V → Option Value → Prop
  | some v, some u => RelV v u
  | none, none => True
  | _, _ => False
def KV {κ : Type} : List (κ × V) → List (κ × Value) → Prop := Paired fun (p : κ × V) (q : κ × Value) => p.1 = q.1 ∧ RelV p.2 q.2

def kV : Key → V
  | .inl i => .int i
  | .inr x => .str x

inductive HO where
  /-- a list -/
  | lst (xs : List V)
  /-- a tuple (never changes) -/
  | tup (xs : List V)
  /-- a dict whose keys are ints and texts; one whose keys are tuples of ints and texts (the empty one is both) -/
  | dK (kvs : List (Key × V)) | dT (kvs : List (List Key × V))
  /-- a set of ints: its members, its size -/
  | set (S : Int → Bool) (n : Nat)
  /-- an instance of the class at C, its dict at dx, its attributes -/
  | ins (C dx : Addr) (fs : List (Str × V))
  /-- the dict of the instance at x -/
  | own (x : Addr)
  /-- the dict of an exception -/
  | xd (fs : List (Str × V))
  /-- a bound method, f of x -/
  | met (f x : Addr)
  /-- a range object lo, lo + 1, .. below hi -/
  | rng (lo hi : Int)
  /-- a thing that is known to the object (the script; a dict while a loop walks it): read, never written while it is so -/
  | frz (o : Obj) (u : HO)
  /-- a code object's table -/
  | tbl (ps : Array Value)
  /-- any other thing, by what is true of its one object (a def of one's own: SetO a S n := HO.ext fun h => ..) -/
  | ext (φ : Heap → Prop)

abbrev Hp := Addr → Option HO
def upd (H : Hp) (a : Addr) (o : HO) : Hp := fun b => if b = a then some o else H b
theorem upd_same {H : Hp} {a : Addr} {o : HO} : upd H a o a = some o := by unfold upd; rw [if_pos rfl]
theorem upd_ne {H : Hp} {a b : Addr} {o : HO} (h : b ≠ a) : upd H a o b = H b := by unfold upd; rw [if_neg h]
theorem ne_of_none {H : Hp} {a b : Addr} {o : HO} (h : H a = some o) (h' : H b = none) : a ≠ b := by
  intro e; subst e; rw [h] at h'; cases h'

section
variable (P : Program) (w : World)
def ObjOk (H : Hp) (h : Heap) (a : Addr) : HO → Prop
  | .lst xs => xs.length ≤ sizeLine ∧ ∃ (its : List Value) (n : Nat), Vals xs its ∧ h.get? a = some { cls := .type "list", data := .seq its.toArray n }
  | .tup xs => xs.length ≤ sizeLine ∧ ∃ its : List Value, Vals xs its ∧ IsTup h a its.toArray
  | .dK kvs => kvs.length ≤ sizeLine ∧ (a == sysModules) = false ∧ ∃ vs, KV kvs vs ∧ h.DictOf (mixKind P w) a vs
  | .dT kvs => kvs.length ≤ sizeLine ∧ (a == sysModules) = false ∧ ∃ xs : List (List Key × Addr × Value),
      Paired (fun (p : List Key × V) (q : List Key × Addr × Value) => p.1 = q.1 ∧ H q.2.1 = some (.tup (p.1.map kV)) ∧ RelV p.2 q.2.2) kvs xs ∧
      ∃ o es ep, h.get? a = some o ∧ o.ExactDict ∧ o.data = .dict es ep ∧ es.toList = xs.map (entryOfKey (tupleKind (mixKind P w))) ∧ (xs.map (·.1)).Nodup
  | .set S n => h.SetOf (intKind P w) a S n
  | .ins C dx fs => H dx = some (.own a) ∧ fs.length ≤ 1000 ∧ dx ≠ a ∧ h.get? a = some (PySem.W.instObj C dx) ∧
      ∃ mA, h.Ns1 dx mA ∧ (∀ f, RelO (fs.lookup f) (mA f)) ∧ PySem.Within mA (fs.map (·.1))
  | .own _ => ∃ o, h.get? a = some o
  | .xd fs => ∃ mA, h.Ns1 a mA ∧ ∀ f, RelO (fs.lookup f) (mA f)
  | .rng lo hi => ∃ t u v, h.get? a = some { cls := .type "range", data := .fields #[.int lo t, .int hi u, .int 1 v] }
  | .frz o u => h.get? a = some o ∧ ObjOk H h a u
  | .tbl ps => h.get? a = some { cls := .none, data := .fields ps }
  | .met f x => h.get? a = some (PySem.W.methodObj (.ref f) (.ref x))
  | .ext φ => φ h ∧ (∃ o, h.get? a = some o) ∧ ∀ h1 h2 : Heap, φ h1 → (∀ o, h1.get? a = some o → h2.get? a = some o) → φ h2
def HOk (H : Hp) (h : Heap) : Prop := ∀ a o, H a = some o → ObjOk P w H h a o
end

section
variable {P : Program} {w : World} {H H' : Hp} {h h' : Heap} {a : Addr} {o : HO}
theorem ObjOk.lt (x : ObjOk P w H h a o) : a < h.objs.size := by
  cases o with
  | lst xs => obtain ⟨_, _, _, _, e⟩ := x; exact Heap.lt_size e
  | tup xs => obtain ⟨_, _, _, p⟩ := x; exact p.lt
  | dK kvs => obtain ⟨_, _, _, _, o, _, _, e, _⟩ := x; exact Heap.lt_size e
  | dT kvs => obtain ⟨_, _, _, _, o, _, _, e, _⟩ := x; exact Heap.lt_size e
  | set S n => obtain ⟨o, _, _, _, e, _⟩ := x; exact Heap.lt_size e
  | ins C dx fs => obtain ⟨_, _, _, e, _⟩ := x; exact Heap.lt_size e
  | own y => obtain ⟨_, e⟩ := x; exact Heap.lt_size e
  | xd fs => obtain ⟨_, ⟨_, _, _, e, _⟩, _⟩ := x; exact Heap.lt_size e
  | rng lo hi => obtain ⟨_, _, _, e⟩ := x; exact Heap.lt_size e
  | frz ob u => obtain ⟨e, _⟩ := x; exact Heap.lt_size e
  | tbl ps => exact Heap.lt_size (show h.get? a = some _ from x)
  | met f y => exact Heap.lt_size (show h.get? a = some _ from x)
  | ext φ => obtain ⟨_, ⟨_, e⟩, _⟩ := x; exact Heap.lt_size e
theorem Paired.mapP {α β : Type} {F G : α → β → Prop} : ∀ {l₁ : List α} {l₂ : List β}, Paired F l₁ l₂ → (∀ a b, F a b → G a b) → Paired G l₁ l₂
  | _, _, .nil, _ => .nil
  | _, _, .cons r t, f => .cons (f _ _ r) (Paired.mapP t f)
theorem ObjOk.stay (x : ObjOk P w H h a o) (k : ∀ b u, (b = a ∨ H b = some (.own a)) → h.get? b = some u → h'.get? b = some u)
    (ho : ∀ b, H b = some (.own a) → H' b = some (.own a)) (ht : ∀ b xs, H b = some (.tup xs) → H' b = some (.tup xs)) : ObjOk P w H' h' a o := by
  induction o with
  | lst xs => obtain ⟨z, its, n, r, e⟩ := x; exact ⟨z, its, n, r, k _ _ (.inl rfl) e⟩
  | tup xs => obtain ⟨z, its, r, ob, e, c⟩ := x; exact ⟨z, its, r, ob, k _ _ (.inl rfl) e, c⟩
  | dK kvs => obtain ⟨z, y, vs, r, ob, es, ep, e, c⟩ := x; exact ⟨z, y, vs, r, ob, es, ep, k _ _ (.inl rfl) e, c⟩
  | dT kvs =>
    obtain ⟨z, y, xs, r, ob, es, ep, e, c⟩ := x
    exact ⟨z, y, xs, Paired.mapP r fun p q z => ⟨z.1, ht _ _ z.2.1, z.2.2⟩, ob, es, ep, k _ _ (.inl rfl) e, c⟩
  | set S n => obtain ⟨ob, es, ep, t, e, c⟩ := x; exact ⟨ob, es, ep, t, k _ _ (.inl rfl) e, c⟩
  | ins C dx fs =>
    obtain ⟨d, z, ne, e, mA, ⟨od, es, ep, e2, c⟩, r⟩ := x
    exact ⟨ho _ d, z, ne, k _ _ (.inl rfl) e, mA, ⟨od, es, ep, k _ _ (.inr d) e2, c⟩, r⟩
  | own y => obtain ⟨ob, e⟩ := x; exact ⟨ob, k _ _ (.inl rfl) e⟩
  | xd fs => obtain ⟨mA, ⟨od, es, ep, e, c⟩, r⟩ := x; exact ⟨mA, ⟨od, es, ep, k _ _ (.inl rfl) e, c⟩, r⟩
  | rng lo hi => obtain ⟨t, u, v, e⟩ := x; exact ⟨t, u, v, k _ _ (.inl rfl) e⟩
  | frz ob u ih => obtain ⟨e, q⟩ := x; exact ⟨k _ _ (.inl rfl) e, ih q⟩
  | tbl ps =>
    have e : h.get? a = some { cls := .none, data := .fields ps } := x
    show h'.get? a = some { cls := .none, data := .fields ps }
    exact k a _ (.inl rfl) e
  | met f y =>
    have e : h.get? a = some (PySem.W.methodObj (.ref f) (.ref y)) := x
    show h'.get? a = some (PySem.W.methodObj (.ref f) (.ref y))
    exact k a _ (.inl rfl) e
  | ext φ => obtain ⟨p, ⟨o, e⟩, st⟩ := x; exact ⟨st _ _ p fun o q => k _ _ (.inl rfl) q, ⟨o, k _ _ (.inl rfl) e⟩, st⟩
theorem HOk.lt (x : HOk P w H h) (e : H a = some o) : a < h.objs.size := (x a o e).lt
theorem HOk.fresh (x : HOk P w H h) (e : h.objs.size ≤ a) : H a = none := by
  cases q : H a with
  | none => rfl
  | some u => exact absurd (Nat.lt_of_lt_of_le (x.lt q) e) (Nat.lt_irrefl _)
theorem HOk.kept (x : HOk P w H h) (k : ∀ b u, h.get? b = some u → h'.get? b = some u) : HOk P w H h' := fun a o e =>
  (x a o e).stay (fun b u _ q => k b u q) (fun _ q => q) fun _ _ q => q
theorem HOk.laid (x : HOk P w H h) (k : ∀ b u, h.get? b = some u → h'.get? b = some u) (hp : h.objs.size ≤ a) (new : ObjOk P w (upd H a o) h' a o) : HOk P w (upd H a o) h' := fun b u e => by
  have hn := x.fresh hp
  by_cases hb : b = a
  · subst hb; rw [upd_same] at e; cases e; exact new
  · rw [upd_ne hb] at e
    exact (x b u e).stay (fun c v _ q => k c v q) (fun c q => by rw [upd_ne (ne_of_none q hn)]; exact q) fun c xs q => by rw [upd_ne (ne_of_none q hn)]; exact q
end

def Rd (H : Hp) (a : Addr) (u : HO) : Prop := H a = some u ∨ ∃ o, H a = some (.frz o u)
theorem Rd.ok {P : Program} {w : World} {H : Hp} {h : Heap} {a : Addr} {u : HO} (r : Rd H a u) (x : HOk P w H h) : ObjOk P w H h a u := by
  rcases r with r | ⟨o, r⟩
  · exact x a u r
  · obtain ⟨_, q⟩ := x a _ r
    exact q
def Mut : Option HO → Prop
  | some (.lst _) => True
  | some (.dK _) => True
  | some (.dT _) => True
  | some (.set _ _) => True
  | some (.ins _ _ _) => True
  | some (.ext _) => True
  | _ => False
section
variable {P : Program} {w : World} {H : Hp} {h h' : Heap} {x e : Addr} {o' : HO}
theorem HOk.write (ok : HOk P w H h) (mu : Mut (H x)) (he : e = x ∨ H e = some (.own x)) (k : ∀ b u, b ≠ e → h.get? b = some u → h'.get? b = some u) (heo : ∃ u, h'.get? e = some u)
    (new : ObjOk P w (upd H x o') h' x o') : HOk P w (upd H x o') h' := fun b u q => by
  have nown : ∀ c y, H c = some (.own y) → c ≠ x := fun c y r z => by subst z; rw [r] at mu; exact mu
  have ntup : ∀ c xs, H c = some (.tup xs) → c ≠ x := fun c xs r z => by subst z; rw [r] at mu; exact mu
  by_cases hb : b = x
  · subst hb; rw [upd_same] at q; cases q; exact new
  · rw [upd_ne hb] at q
    by_cases hbe : b = e
    · have q' : H b = some (.own x) := by
        rcases he with z | z
        · exact absurd (hbe.trans z) hb
        · rw [hbe]; exact z
      rw [q] at q'; cases q'
      obtain ⟨v, hv⟩ := heo
      exact ⟨v, by rw [hbe]; exact hv⟩
    · refine (ok b u q).stay (fun c v hc r => k c v ?_ r) (fun c r => by rw [upd_ne (nown c b r)]; exact r) fun c xs r => by rw [upd_ne (ntup c xs r)]; exact r
      rcases hc with rfl | hc
      · exact hbe
      · rintro rfl
        rcases he with z | z
        · exact nown c b hc z
        · rw [hc] at z; cases z; exact hb rfl
end

structure Un (fs ex : List Addr) (H H' : Hp) (h h' : Heap) : Prop where
  keep : ∀ b o, h.get? b = some o → H b = none → b ∉ fs → b ∉ ex → h'.get? b = some o
  slot : ∀ b o, h.get? b = some o → H b = none → b ∈ fs → b ∉ ex → ∃ sl, h'.get? b = some { o with slots := sl }
  free : ∀ b o, h.get? b = some o → H b = none → b ∉ ex → H' b = none
  there : ∀ b o, h.get? b = some o → b ∉ ex → ∃ o', h'.get? b = some o'
  tups : ∀ b xs, H b = some (.tup xs) → H' b = some (.tup xs)
  frzs : ∀ b o u, H b = some (.frz o u) → H' b = some (.frz o u)
  tbls : ∀ b ps, H b = some (.tbl ps) → ∃ more, H' b = some (.tbl (ps ++ more))
section
variable {fs fs' ex ex' : List Addr} {H H1 H2 : Hp} {h h1 h2 h' : Heap} {a x e : Addr} {o : HO}
theorem Un.any (u : Un fs ex H H1 h h1) {b : Addr} {ob : Obj} (q : h.get? b = some ob) (n : H b = none) (hx : b ∉ ex) : ∃ sl, h1.get? b = some { ob with slots := sl } := by
  by_cases hb : b ∈ fs
  · exact u.slot b ob q n hb hx
  · exact ⟨ob.slots, u.keep b ob q n hb hx⟩
theorem Un.kept (k : ∀ b u, h.get? b = some u → h'.get? b = some u) : Un fs ex H H h h' :=
  ⟨fun b ob q _ _ _ => k b ob q, fun b ob q _ _ _ => ⟨ob.slots, k b ob q⟩, fun _ _ _ n _ => n, fun b ob q _ => ⟨ob, k b ob q⟩, fun _ _ q => q, fun _ _ _ q => q, fun _ ps q => ⟨#[], by rw [q]; simp⟩⟩
theorem Un.refl : Un fs ex H H h h := Un.kept fun _ _ q => q
theorem Un.laid (k : ∀ b u, h.get? b = some u → h'.get? b = some u) (hp : h.objs.size ≤ a) (hn : H a = none) : Un fs ex H (upd H a o) h h' where
  keep := fun b u q _ _ _ => k b u q
  slot := fun b u q _ _ _ => ⟨u.slots, k b u q⟩
  free := fun b u q n _ => by rw [upd_ne (Nat.ne_of_lt (Nat.lt_of_lt_of_le (Heap.lt_size q) hp))]; exact n
  there := fun b u q _ => ⟨u, k b u q⟩
  tups := fun b xs q => by rw [upd_ne (ne_of_none q hn)]; exact q
  frzs := fun b u xs q => by rw [upd_ne (ne_of_none q hn)]; exact q
  tbls := fun b ps q => ⟨#[], by rw [upd_ne (ne_of_none q hn), q]; simp⟩
theorem Un.write (mu : Mut (H x)) (he : e = x ∨ H e = some (.own x)) (k : ∀ b u, b ≠ e → h.get? b = some u → h'.get? b = some u) (heo : ∃ u, h'.get? e = some u) : Un fs ex H (upd H x o) h h' := by
  have hx : ∀ b, H b = none → b ≠ x := fun b n z => by subst z; rw [n] at mu; exact mu
  have hb : ∀ b, H b = none → b ≠ e := fun b n z => by
    subst z
    rcases he with r | r
    · exact hx b n r
    · rw [n] at r; cases r
  have hm : ∀ b u, H b = some u → ¬ Mut (some u) → b ≠ x := fun b u q nm z => by subst z; rw [q] at mu; exact nm mu
  refine ⟨fun b u q n _ _ => k b u (hb b n) q, fun b u q n _ _ => ⟨u.slots, k b u (hb b n) q⟩, fun b u q n _ => by rw [upd_ne (hx b n)]; exact n, fun b u q _ => ?_,
    fun b xs q => by rw [upd_ne (hm b _ q fun z => z)]; exact q, fun b u xs q => by rw [upd_ne (hm b _ q fun z => z)]; exact q, fun b ps q => ⟨#[], by rw [upd_ne (hm b _ q fun z => z), q]; simp⟩⟩
  by_cases hbe : b = e
  · subst hbe; exact heo
  · exact ⟨u, k b u hbe q⟩
end

def trk (h : Heap) (H : Hp) : List Addr := (List.range h.objs.size).filter fun a => (H a).isSome
def hidT (h : Heap) (H : Hp) : Heap := PySem.W.hideAll h (trk h H)
theorem hidT_size (h : Heap) (H : Hp) : (hidT h H).objs.size = h.objs.size := PySem.W.hideAll_size _ _
theorem hidT_get {h : Heap} {H : Hp} {b : Addr} {o : Obj} (e : h.get? b = some o) (n : H b = none) : (hidT h H).get? b = some o :=
  PySem.W.hideAll_get _ e fun hm => by
    have q : (H b).isSome = true := (List.mem_filter.mp hm).2
    rw [n] at q; simp at q
theorem of_hidT {h : Heap} {H : Hp} {b : Addr} {o : Obj} (e : (hidT h H).get? b = some o) : h.get? b = some o ∧ H b = none := by
  have e' : h.get? b = some o := PySem.W.of_hideAll (trk h H) e
  refine ⟨e', ?_⟩
  cases q : H b with
  | none => rfl
  | some x =>
    have hm : b ∈ trk h H := List.mem_filter.mpr ⟨List.mem_range.mpr (Heap.lt_size e'), by simp [q]⟩
    have z : (hidT h H).get? b = none := PySem.W.hideAll_none (trk h H) hm
    rw [z] at e; cases e

end L2

namespace L2
open PySem PySem.Spec PyProof.Rows

structure Mod (K : PySem.W.Frag) (mg : Str → Option Value) (base : Heap) : Prop where
  kin : K.In base
  glob : base.Ns mainGlobals mg
  blt : ∃ mb, base.Ns builtinsNs mb ∧ ∀ x : Str, x ≠ "__name__" → mb x = bootBuiltins x
  nolimit : base.NoLimit

structure Cx where
  prog : Program
  w : World
  K : PySem.W.Frag
  mg : Str → Option Value
  base : Heap
  A : Around
  N : List Str
  s₀ : Shared
  H₀ : Hp
  env : Env
  outer : List Env
  stack : List Env
  ex : List Addr
  fn : Str → Bool
  calm : Bool
  pn : List (Addr × Obj)
  xe : Value → Shared → Prop
def frs (l : List Env) : List Addr := l.filterMap (·.frame)
abbrev Cx.fs (X : Cx) : List Addr := frs X.outer

def Vis (sc : Scope) (x : Str) : Prop := sc.names.lookup x = some .local ∨ sc.names.lookup x = some .cell ∨ sc.names.lookup x = some .free
def Loc (sc : Scope) (x : Str) : Prop := sc.names.lookup x = some .local ∨ sc.names.lookup x = some .cell
def Look (env : Env) (h : Heap) (m : Str → Option Value) (x : Str) (u : Value) : Prop :=
  (env.kindOf x = some .local ∧ m x = some u) ∨ ((env.kindOf x = some .cell ∨ env.kindOf x = some .free) ∧ ∃ c, env.cells.lookup x = some c ∧ h.IsCell c (some u))

structure Cx.Ok (X : Cx) : Prop where
  mod : Mod X.K X.mg X.base
  kind : X.env.scope.kind = .function
  glob : X.env.globals = mainGlobals
  blt : X.env.builtins = builtinsNs
  above : X.s₀.heap.objs.size ≤ X.env.locals
  inj : ∀ x y c, X.env.cells.lookup x = some c → X.env.cells.lookup y = some c → x = y
  has : ∀ x, (X.env.kindOf x = some .cell ∨ X.env.kindOf x = some .free) → ∃ c, X.env.cells.lookup x = some c
  cab : ∀ x c, X.fn x = true → X.env.cells.lookup x = some c → X.s₀.heap.objs.size ≤ c
  hd : X.calm = true → X.A.handled = none
  frames : X.A.frames = some X.stack
  stk : X.stack = X.outer ∨ (X.stack = X.env :: X.outer ∧ X.env.frame = some X.env.locals)
  exf : ∀ b ∈ X.ex, b ≠ X.env.locals ∧ ∀ x c, X.env.cells.lookup x = some c → c ≠ b
  bs : ∀ b o, X.base.get? b = some o → X.s₀.heap.get? b = some o ∧ X.H₀ b = none
  bsz : X.base.objs.size ≤ X.s₀.heap.objs.size
  noex : ∀ b o, X.base.get? b = some o → b ∉ X.ex
  exfs : ∀ b ∈ X.ex, b ∉ X.fs
  funs : X.s₀.heap.FunFrames X.base X.outer
  frf : ∀ b ∈ X.fs, X.H₀ b = none

structure Inv (X : Cx) (pins : List (Addr × Obj)) (σ : List (Option V)) (H : Hp) (s : Shared) : Prop where
  ok : X.Ok
  os : s.os = X.s₀.os
  bare : AllBare s.gens
  base : Un X.fs X.ex X.H₀ H X.s₀.heap s.heap
  loc : ∃ m, s.heap.Ns X.env.locals m ∧ ∀ (i : Nat) (x : Str) (v : V), X.N[i]? = some x → σ[i]? = some (some v) → Vis X.env.scope x → ∃ u, RelV v u ∧ Look X.env s.heap m x u
  cell : ∀ x c, X.env.cells.lookup x = some c → ∃ v, s.heap.IsCell c v
  free : H X.env.locals = none
  freeC : ∀ x c, X.env.cells.lookup x = some c → H c = none
  pin : ∀ p ∈ X.pn ++ pins, s.heap.get? p.1 = some p.2 ∧ H p.1 = none ∧ p.1 ≠ X.env.locals ∧ p.1 ∉ X.fs ∧ ∀ v, p.2.data ≠ .cell v
  hok : HOk X.prog X.w H s.heap
  len : σ.length = X.N.length

section
variable {X : Cx} {pins : List (Addr × Obj)} {σ : List (Option V)} {H H' : Hp} {s : Shared} {h' : Heap}

theorem Cx.Ok.nofr (ok : X.Ok) {b : Addr} {o : Obj} (e : X.base.get? b = some o) : b ∉ X.fs := fun hb => by
  have := (ok.funs.mem hb).1
  rw [e] at this; cases this
theorem Inv.bs (I : Inv X pins σ H s) : ∀ b o, X.base.get? b = some o → s.heap.get? b = some o ∧ H b = none := fun b o e =>
  ⟨I.base.keep b o (I.ok.bs b o e).1 (I.ok.bs b o e).2 (I.ok.nofr e) (I.ok.noex b o e), I.base.free b o (I.ok.bs b o e).1 (I.ok.bs b o e).2 (I.ok.noex b o e)⟩
theorem Inv.bk (I : Inv X pins σ H s) : ∀ b o, X.base.get? b = some o → s.heap.get? b = some o := fun b o e => (I.bs b o e).1
theorem Inv.mod (I : Inv X pins σ H s) : Mod X.K X.mg X.base := I.ok.mod
theorem Inv.kIn (I : Inv X pins σ H s) : X.K.In s.heap := I.ok.mod.kin.keeps I.bk
theorem Inv.fr (I : Inv X pins σ H s) : ∃ m, Fr X.base X.env.locals s.heap m :=
  let ⟨m, hn, _⟩ := I.loc
  ⟨m, hn, I.bk, Nat.le_trans I.ok.bsz I.ok.above⟩
theorem Inv.lt (I : Inv X pins σ H s) : X.env.locals < s.heap.objs.size := let ⟨_, hn, _⟩ := I.loc; hn.lt
theorem Inv.sz (I : Inv X pins σ H s) : X.s₀.heap.objs.size ≤ s.heap.objs.size := Nat.le_trans I.ok.above (Nat.le_of_lt I.lt)
theorem Inv.nofs (I : Inv X pins σ H s) {a : Addr} (h : s.heap.objs.size ≤ a) : a ∉ X.fs := fun hb => by
  obtain ⟨_, o, ho, _⟩ := I.ok.funs.mem hb
  exact absurd (Nat.lt_of_lt_of_le (Heap.lt_size ho) (Nat.le_trans I.sz h)) (Nat.lt_irrefl _)
theorem Inv.cne (I : Inv X pins σ H s) : ∀ x c, X.env.cells.lookup x = some c → c ≠ X.env.locals := fun x c e z => by
  obtain ⟨v, o, ho, hd⟩ := I.cell x c e
  obtain ⟨m, ⟨o', es, ep, ho', hd', _⟩, _⟩ := I.loc
  rw [z, ho'] at ho; cases ho; rw [hd'] at hd; cases hd
theorem Inv.funs (I : Inv X pins σ H s) : s.heap.FunFrames X.base X.outer := by
  have all : ∀ (l : List Env), (∀ b ∈ frs l, b ∈ X.fs) → X.s₀.heap.FunFrames X.base l → s.heap.FunFrames X.base l := by
    intro l
    induction l with
    | nil => intro _ _; trivial
    | cons env r ih =>
      intro hs hl
      obtain ⟨hk, ⟨L, o, hf, hn, ho, hd⟩, hr⟩ := hl
      have hL : L ∈ X.fs := hs L (by unfold frs; rw [List.filterMap_cons, hf]; exact List.mem_cons_self)
      obtain ⟨sl, e⟩ := I.base.slot L o ho (I.ok.frf L hL) hL fun z => I.ok.exfs L z hL
      exact ⟨hk, ⟨L, _, hf, hn, e, hd⟩, ih (fun b hb => hs b (by unfold frs; rw [List.filterMap_cons, hf]; exact List.mem_cons_of_mem _ hb)) hr⟩
  exact all X.outer (fun _ hb => hb) I.ok.funs

theorem Inv.stack (I : Inv X pins σ H s) : s.heap.FunFrames X.base X.stack := by
  rcases I.ok.stk with e | ⟨e, hf⟩
  · rw [e]; exact I.funs
  · rw [e]
    obtain ⟨m, hn, _⟩ := I.loc
    refine .cons (by rw [I.ok.kind]; decide) hf hn ?_ I.funs
    exact Heap.get?_none_of_le (Nat.le_trans I.ok.bsz I.ok.above)
theorem Inv.stkSub (I : Inv X pins σ H s) : ∀ b ∈ frs X.stack, b ∈ X.env.locals :: X.fs := fun b hb => by
  rcases I.ok.stk with e | ⟨e, hf⟩
  · rw [e] at hb; exact List.mem_cons_of_mem _ hb
  · rw [e] at hb
    unfold frs at hb
    rw [List.filterMap_cons, hf] at hb
    exact hb
theorem Inv.stkFree (I : Inv X pins σ H s) : ∀ b ∈ frs X.stack, H b = none := fun b hb => by
  rcases List.mem_cons.mp (I.stkSub b hb) with e | hb
  · rw [e]; exact I.free
  · obtain ⟨_, o, ho, _⟩ := I.ok.funs.mem hb
    exact I.base.free b o ho (I.ok.frf b hb) fun z => I.ok.exfs b z hb

theorem Inv.step {g' : Array GenState} {t' : Nat} {d' : Drawn} {ch : List Addr} (I : Inv X pins σ H s)
    (hch : ∀ b ∈ ch, (b ∈ X.ex ∨ X.s₀.heap.objs.size ≤ b) ∧ b ≠ X.env.locals ∧ (∀ x c, X.env.cells.lookup x = some c → c ≠ b) ∧ ∀ p ∈ X.pn ++ pins, p.1 ≠ b)
    (keep : ∀ b o, b ≠ X.env.locals → b ∉ X.fs → b ∉ ch → s.heap.get? b = some o → H b = none → h'.get? b = some o)
    (slot : ∀ b o, b ≠ X.env.locals → b ∈ X.fs → b ∉ ch → s.heap.get? b = some o → H b = none → ∃ sl, h'.get? b = some { o with slots := sl }) (free : ∀ b o, b ∉ ch → s.heap.get? b = some o → H b = none → H' b = none)
    (there : ∀ b o, b ∉ ch → s.heap.get? b = some o → ∃ o', h'.get? b = some o')
    (tups : ∀ b xs, H b = some (.tup xs) → H' b = some (.tup xs)) (frzs : ∀ b o u, H b = some (.frz o u) → H' b = some (.frz o u)) (tbls : ∀ b ps, H b = some (.tbl ps) → ∃ more, H' b = some (.tbl (ps ++ more)))
    (ns : ∀ m, s.heap.Ns X.env.locals m → h'.Ns X.env.locals m) (hok : HOk X.prog X.w H' h') (hg : AllBare g') :
    Inv X pins σ H' { s with heap := h', gens := g', drawn := d', toks := t' } := by
  have neL : ∀ b o, X.s₀.heap.get? b = some o → b ≠ X.env.locals := fun b o e => Nat.ne_of_lt (Nat.lt_of_lt_of_le (Heap.lt_size e) I.ok.above)
  have neC : ∀ b o, X.s₀.heap.get? b = some o → b ∉ X.ex → b ∉ ch := fun b o e hx hb => by
    rcases (hch b hb).1 with z | z
    · exact hx z
    · exact absurd (Nat.lt_of_lt_of_le (Heap.lt_size e) z) (Nat.lt_irrefl _)
  have cellK : ∀ x c, X.env.cells.lookup x = some c → ∀ v, s.heap.IsCell c v → h'.IsCell c v := fun x c e v ⟨o, ho, hd⟩ => by
    have nch : c ∉ ch := fun z => (hch c z).2.2.1 x c e rfl
    by_cases hc : c ∈ X.fs
    · obtain ⟨sl, q⟩ := slot c o (I.cne x c e) hc nch ho (I.freeC x c e)
      exact ⟨_, q, hd⟩
    · exact ⟨o, keep c o (I.cne x c e) hc nch ho (I.freeC x c e), hd⟩
  refine ⟨I.ok, I.os, hg, ⟨fun b o e n hb hx => ?_, fun b o e n hb hx => ?_, fun b o e n hx => ?_, fun b o e hx => ?_, fun b xs e => tups b xs (I.base.tups b xs e), fun b o xs e => frzs b o xs (I.base.frzs b o xs e), fun b ps e => ?_⟩, ?_, fun x c e => ?_, ?_, fun x c e => ?_, fun p hp => ?_, hok, I.len⟩
  · exact keep b o (neL b o e) hb (neC b o e hx) (I.base.keep b o e n hb hx) (I.base.free b o e n hx)
  · obtain ⟨sl, e1⟩ := I.base.slot b o e n hb hx
    obtain ⟨sl', e2⟩ := slot b _ (neL b o e) hb (neC b o e hx) e1 (I.base.free b o e n hx)
    exact ⟨sl', e2⟩
  · obtain ⟨o', e1⟩ := I.base.there b o e hx
    exact free b o' (neC b o e hx) e1 (I.base.free b o e n hx)
  · obtain ⟨o', e1⟩ := I.base.there b o e hx
    exact there b o' (neC b o e hx) e1
  · obtain ⟨m1, e1⟩ := I.base.tbls b ps e
    obtain ⟨m2, e2⟩ := tbls b _ e1
    exact ⟨m1 ++ m2, by rw [e2, Array.append_assoc]⟩
  · obtain ⟨m, hn, hl⟩ := I.loc
    refine ⟨m, ns m hn, fun i x v e1 e2 e3 => ?_⟩
    obtain ⟨u, r, l⟩ := hl i x v e1 e2 e3
    refine ⟨u, r, ?_⟩
    rcases l with l | ⟨k, c, e, z⟩
    · exact .inl l
    · exact .inr ⟨k, c, e, cellK x c e _ z⟩
  · obtain ⟨v, z⟩ := I.cell x c e
    exact ⟨v, cellK x c e v z⟩
  · obtain ⟨m, ⟨o, _, _, ho, _⟩, _⟩ := I.loc
    exact free _ o (fun z => (hch _ z).2.1 rfl) ho I.free
  · obtain ⟨v, o, ho, hd⟩ := I.cell x c e
    exact free c o (fun z => (hch c z).2.2.1 x c e rfl) ho (I.freeC x c e)
  · obtain ⟨e, n, ne, nf, d⟩ := I.pin p hp
    have nch : p.1 ∉ ch := fun z => (hch p.1 z).2.2.2 p hp rfl
    exact ⟨keep p.1 p.2 ne nf nch e n, free p.1 p.2 nch e n, ne, nf, d⟩
theorem Inv.un {t' : Nat} (I : Inv X pins σ H s) (u : Un X.fs [] H H' s.heap h') (hok : HOk X.prog X.w H' h') : Inv X pins σ H' { s with heap := h', toks := t' } := by
  obtain ⟨m, ⟨o, es, ep, ho, r⟩, _⟩ := id I.loc
  obtain ⟨sl, hL⟩ := u.any ho I.free (by simp)
  exact I.step (g' := s.gens) (d' := s.drawn) (ch := []) (fun _ z => nomatch z) (fun b o _ hb _ e n => u.keep b o e n hb (by simp)) (fun b o _ hb _ e n => u.slot b o e n hb (by simp)) (fun b o _ e n => u.free b o e n (by simp)) (fun b o _ e => u.there b o e (by simp)) u.tups u.frzs u.tbls (fun m' hm => by
    obtain ⟨o', es', ep', ho', r'⟩ := hm
    rw [ho] at ho'; cases ho'
    exact ⟨_, es', ep', hL, r'⟩) hok I.bare
theorem Inv.call {g' : Array GenState} {t' : Nat} {d' : Drawn} {ch : List Addr} (I : Inv X pins σ H s) (u : Un (frs X.stack) ch H H' s.heap h') (hok : HOk X.prog X.w H' h') (hg : AllBare g')
    (hch : ∀ b ∈ ch, (b ∈ X.ex ∨ X.s₀.heap.objs.size ≤ b) ∧ b ≠ X.env.locals ∧ (∀ x c, X.env.cells.lookup x = some c → c ≠ b) ∧ ∀ p ∈ X.pn ++ pins, p.1 ≠ b) :
    Inv X pins σ H' { s with heap := h', gens := g', drawn := d', toks := t' } := by
  obtain ⟨m, ⟨o, es, ep, ho, r⟩, _⟩ := id I.loc
  obtain ⟨sl, hL⟩ := u.any ho I.free fun z => (hch _ z).2.1 rfl
  exact I.step (ch := ch) hch (fun b o hL hb hc e n => u.keep b o e n (fun z => (List.mem_cons.mp (I.stkSub b z)).elim hL hb) hc) (fun b o _ _ hc e n => u.any e n hc) (fun b o hc e n => u.free b o e n hc) (fun b o hc e => u.there b o e hc) u.tups u.frzs u.tbls (fun m' hm => by
    obtain ⟨o', es', ep', ho', r'⟩ := hm
    rw [ho] at ho'; cases ho'
    exact ⟨_, es', ep', hL, r'⟩) hok hg
theorem Inv.turned {t' : Nat} {it : Addr} (I : Inv X pins σ H s) (k : ∀ b o, b ≠ it → s.heap.get? b = some o → h'.get? b = some o) (hn : H it = none) (hL : it ≠ X.env.locals)
    (h1 : it ∈ X.ex ∨ X.s₀.heap.objs.size ≤ it) (h2 : ∀ x c, X.env.cells.lookup x = some c → c ≠ it) (h3 : ∀ p ∈ X.pn ++ pins, p.1 ≠ it) : Inv X pins σ H { s with heap := h', toks := t' } := by
  have nit : ∀ b u, H b = some u → b ≠ it := fun b u e z => by rw [z, hn] at e; cases e
  refine I.step (g' := s.gens) (d' := s.drawn) (ch := [it]) (fun b hb => ?_) (fun b o _ _ hc e _ => k b o (fun z => hc (by simp [z])) e) (fun b o _ _ hc e _ => ⟨o.slots, k b o (fun z => hc (by simp [z])) e⟩) (fun _ _ _ _ n => n)
    (fun b o hc e => ⟨o, k b o (fun z => hc (by simp [z])) e⟩) (fun _ _ e => e) (fun _ _ _ e => e) (fun b ps e => ⟨#[], by rw [e]; simp⟩) (fun m hm => ?_) (fun b u e => ?_) I.bare
  · have e : b = it := by simpa using hb
    subst e
    exact ⟨h1, hL, h2, h3⟩
  · obtain ⟨o, es, ep, ho, r⟩ := hm
    exact ⟨o, es, ep, k _ o (Ne.symm hL) ho, r⟩
  · refine (I.hok b u e).stay (fun c v hc q => k c v ?_ q) (fun _ q => q) fun _ _ q => q
    rcases hc with z | z
    · rw [z]; exact nit b u e
    · exact nit c _ z
theorem Inv.tok (I : Inv X pins σ H s) (t : Nat) : Inv X pins σ H { s with toks := t } := I.un (h' := s.heap) (t' := t) Un.refl I.hok
theorem Inv.kept {t' : Nat} (I : Inv X pins σ H s) (k : ∀ b u, s.heap.get? b = some u → h'.get? b = some u) : Inv X pins σ H { s with heap := h', toks := t' } := I.un (Un.kept k) (I.hok.kept k)
theorem Inv.laid {a : Addr} {o : HO} {t' : Nat} (I : Inv X pins σ H s) (k : ∀ b u, s.heap.get? b = some u → h'.get? b = some u) (hp : s.heap.objs.size ≤ a) (new : ObjOk X.prog X.w (upd H a o) h' a o) :
    Inv X pins σ (upd H a o) { s with heap := h', toks := t' } := I.un (Un.laid k hp (I.hok.fresh hp)) (I.hok.laid k hp new)
theorem Inv.write {x e : Addr} {o : HO} {t' : Nat} (I : Inv X pins σ H s) (mu : Mut (H x)) (he : e = x ∨ H e = some (.own x)) (k : ∀ b u, b ≠ e → s.heap.get? b = some u → h'.get? b = some u) (heo : ∃ u, h'.get? e = some u)
    (new : ObjOk X.prog X.w (upd H x o) h' x o) : Inv X pins σ (upd H x o) { s with heap := h', toks := t' } := I.un (Un.write mu he k heo) (I.hok.write mu he k heo new)
theorem Inv.weak {σ' : List (Option V)} (I : Inv X pins σ H s) (hl : σ'.length = σ.length) (w : ∀ (i : Nat) v, σ'[i]? = some (some v) → σ[i]? = some (some v)) : Inv X pins σ' H s :=
  ⟨I.ok, I.os, I.bare, I.base, let ⟨m, hn, hl'⟩ := I.loc; ⟨m, hn, fun i x v e1 e2 e3 => hl' i x v e1 (w i v e2) e3⟩, I.cell, I.free, I.freeC, I.pin, I.hok, hl.trans I.len⟩
theorem Inv.pins_of {pins' : List (Addr × Obj)} (I : Inv X pins σ H s) (h : ∀ p ∈ pins', s.heap.get? p.1 = some p.2 ∧ H p.1 = none ∧ p.1 ≠ X.env.locals ∧ p.1 ∉ X.fs ∧ ∀ v, p.2.data ≠ .cell v) : Inv X pins' σ H s :=
  ⟨I.ok, I.os, I.bare, I.base, I.loc, I.cell, I.free, I.freeC, fun p hp => (List.mem_append.mp hp).elim (fun z => I.pin p (List.mem_append_left _ z)) (h p), I.hok, I.len⟩

theorem nodup_ix {N : List Str} (hN : N.Nodup) {i j : Nat} {x : Str} (a : N[i]? = some x) (b : N[j]? = some x) : i = j := by
  obtain ⟨h1, e1⟩ := List.getElem?_eq_some_iff.mp a
  obtain ⟨h2, e2⟩ := List.getElem?_eq_some_iff.mp b
  exact (List.getElem_inj hN).mp (e1.trans e2.symm)

theorem store_ok2 {M : Model} {A : Around} {E : Value → Shared → Prop} {i : Nat} {x : Str} {v : V} {u : Value} {Q : Unit → Shared → Prop} (I : Inv X pins σ H s) (hN : X.N.Nodup) (hi : X.N[i]? = some x) (hx : Loc X.env.scope x) (r : RelV v u)
    (h : ∀ s', Inv X pins (σ.set i (some v)) H s' → (∃ a, Heap.SameBut a s.heap s'.heap ∧ (a = X.env.locals ∨ X.env.cells.lookup x = some a)) → Q () s') (hf : X.fn x = true ∨ X.env.scope.names.lookup x = some .local := by first | exact .inl rfl | exact .inr rfl | assumption) : wpAny M A (storeName X.env x u) Q E s := by
  obtain ⟨m, hn, hl⟩ := id I.loc
  have hcls : (X.env.scope.kind == .class || (X.env.scope.kind == .module && X.env.locals != X.env.globals)) = false := by rw [I.ok.kind]; rfl
  have hiσ : i < σ.length := by rw [I.len]; exact (List.getElem?_eq_some_iff.mp hi).1
  have cne := I.cne
  have tracked : ∀ {a : Addr} {h' : Heap}, (∃ o, s.heap.get? a = some o ∧ H a = none) → Heap.SameBut a s.heap h' → HOk X.prog X.w H h' := fun {a h'} ha hs b ob e => by
    obtain ⟨_, _, hfree⟩ := ha
    refine (I.hok b ob e).stay (fun c w' hc q => (hs.2 c ?_).trans q) (fun _ q => q) fun _ _ q => q
    rintro rfl
    rcases hc with rfl | hc
    · rw [hfree] at e; cases e
    · rw [hfree] at hc; cases hc
  rcases hx with hk | hk
  · refine wpAny_storeName_local hk hn (fun h' hn' hs => ?_) hcls
    obtain ⟨oL, _, _, hoL, _⟩ := id hn
    refine h _ ⟨I.ok, I.os, I.bare, ⟨fun b o e n hb hx => ?_, fun b o e n hb hx => ?_, I.base.free, fun b o e hx => ?_, I.base.tups, I.base.frzs, I.base.tbls⟩, ⟨_, hn', fun j y v' e1 e2 e3 => ?_⟩, fun y c e => ?_, I.free, I.freeC, fun p hp => ?_, tracked ⟨oL, hoL, I.free⟩ hs, by simpa using I.len⟩ ⟨_, hs, .inl rfl⟩
    · exact (hs.2 b (Nat.ne_of_lt (Nat.lt_of_lt_of_le (Heap.lt_size e) I.ok.above))).trans (I.base.keep b o e n hb hx)
    · obtain ⟨sl, e1⟩ := I.base.slot b o e n hb hx
      exact ⟨sl, (hs.2 b (Nat.ne_of_lt (Nat.lt_of_lt_of_le (Heap.lt_size e) I.ok.above))).trans e1⟩
    · obtain ⟨o', e1⟩ := I.base.there b o e hx
      exact ⟨o', (hs.2 b (Nat.ne_of_lt (Nat.lt_of_lt_of_le (Heap.lt_size e) I.ok.above))).trans e1⟩
    · by_cases hj : j = i
      · subst hj
        rw [hi] at e1; cases e1
        rw [List.getElem?_set_self hiσ] at e2
        cases e2
        exact ⟨u, r, .inl ⟨hk, by simp⟩⟩
      · rw [List.getElem?_set_ne (Ne.symm hj)] at e2
        obtain ⟨u', r', q⟩ := hl j y v' e1 e2 e3
        refine ⟨u', r', ?_⟩
        rcases q with ⟨k, e⟩ | ⟨k, c, e, z⟩
        · refine .inl ⟨k, ?_⟩
          have : y ≠ x := fun e => hj (nodup_ix hN e1 (e ▸ hi))
          simp [this, e]
        · exact .inr ⟨k, c, e, z.sameBut hs (cne y c e)⟩
    · obtain ⟨w', z⟩ := I.cell y c e
      exact ⟨w', z.sameBut hs (cne y c e)⟩
    · obtain ⟨e, n, ne, nf, d⟩ := I.pin p hp
      exact ⟨(hs.2 p.1 ne).trans e, n, ne, nf, d⟩
  · have hfn : X.fn x = true := by
      rcases hf with z | z
      · exact z
      · rw [z] at hk; cases hk
    obtain ⟨c, hc⟩ := I.ok.has x (.inl hk)
    obtain ⟨w', z⟩ := I.cell x c hc
    refine wpAny_storeName_cell I.ok.kind hk hc z (fun h' hc' hs => ?_)
    obtain ⟨oc, hoc, hocd⟩ := id z
    refine h { s with heap := h' } ⟨I.ok, I.os, I.bare, ⟨fun b o e n hb hx => ?_, fun b o e n hb hx => ?_, I.base.free, fun b o e hx => ?_, I.base.tups, I.base.frzs, I.base.tbls⟩, ⟨m, hn.sameBut hs (Ne.symm (cne x c hc)), fun j y v' e1 e2 e3 => ?_⟩, fun y c' e => ?_, I.free, I.freeC, fun p hp => ?_, tracked ⟨oc, hoc, I.freeC x c hc⟩ hs, by simpa using I.len⟩ ⟨c, hs, .inr hc⟩
    · exact (hs.2 b (Nat.ne_of_lt (Nat.lt_of_lt_of_le (Heap.lt_size e) (I.ok.cab x c hfn hc)))).trans (I.base.keep b o e n hb hx)
    · obtain ⟨sl, e1⟩ := I.base.slot b o e n hb hx
      exact ⟨sl, (hs.2 b (Nat.ne_of_lt (Nat.lt_of_lt_of_le (Heap.lt_size e) (I.ok.cab x c hfn hc)))).trans e1⟩
    · obtain ⟨o', e1⟩ := I.base.there b o e hx
      exact ⟨o', (hs.2 b (Nat.ne_of_lt (Nat.lt_of_lt_of_le (Heap.lt_size e) (I.ok.cab x c hfn hc)))).trans e1⟩
    · by_cases hj : j = i
      · subst hj
        rw [hi] at e1; cases e1
        rw [List.getElem?_set_self hiσ] at e2
        cases e2
        exact ⟨u, r, .inr ⟨.inl hk, c, hc, hc'⟩⟩
      · rw [List.getElem?_set_ne (Ne.symm hj)] at e2
        obtain ⟨u', r', q⟩ := hl j y v' e1 e2 e3
        refine ⟨u', r', ?_⟩
        rcases q with q | ⟨k, c', e, z'⟩
        · exact .inl q
        · refine .inr ⟨k, c', e, z'.sameBut hs ?_⟩
          rintro rfl
          exact hj (nodup_ix hN e1 (I.ok.inj _ _ _ e hc ▸ hi))
    · by_cases hcc : c' = c
      · subst hcc; exact ⟨_, hc'⟩
      · obtain ⟨w2, z2⟩ := I.cell y c' e
        exact ⟨w2, z2.sameBut hs hcc⟩
    · obtain ⟨e, n, ne, nf, d⟩ := I.pin p hp
      refine ⟨(hs.2 p.1 ?_).trans e, n, ne, nf, d⟩
      intro q
      rw [q, hoc] at e
      have q' : oc = p.2 := Option.some.inj e
      exact d w' (by rw [← q']; exact hocd)
theorem store_ok {M : Model} {A : Around} {E : Value → Shared → Prop} {i : Nat} {x : Str} {v : V} {u : Value} {Q : Unit → Shared → Prop} (I : Inv X pins σ H s) (hN : X.N.Nodup) (hi : X.N[i]? = some x) (hx : Loc X.env.scope x) (r : RelV v u)
    (h : ∀ s', Inv X pins (σ.set i (some v)) H s' → Q () s') (hf : X.fn x = true ∨ X.env.scope.names.lookup x = some .local := by first | exact .inl rfl | exact .inr rfl | assumption) : wpAny M A (storeName X.env x u) Q E s :=
  store_ok2 I hN hi hx r (fun s' I' _ => h s' I') hf
theorem Inv.call' {s' : Shared} {ch : List Addr} (I : Inv X pins σ H s) (ho : s'.os = s.os) (u : Un (frs X.stack) ch H H' s.heap s'.heap) (hok : HOk X.prog X.w H' s'.heap) (hg : AllBare s'.gens)
    (hch : ∀ b ∈ ch, (b ∈ X.ex ∨ X.s₀.heap.objs.size ≤ b) ∧ b ≠ X.env.locals ∧ (∀ x c, X.env.cells.lookup x = some c → c ≠ b) ∧ ∀ p ∈ X.pn ++ pins, p.1 ≠ b) : Inv X pins σ H' s' := by
  obtain ⟨h', g', d', t', o'⟩ := s'
  have e : o' = s.os := ho
  subst e
  exact I.call (g' := g') (t' := t') (d' := d') u hok hg hch
end

abbrev XK := Value → Option Addr → Hp → Prop
abbrev St := List (Option V)
abbrev VK := V → Hp → Prop
abbrev TE := St → Hp → VK → Prop
abbrev TT := St → Hp → (Bool → Hp → Prop) → Prop
abbrev TA := St → Hp → (List V → Hp → Prop) → Prop
structure Ends where
  nx : St → Hp → Prop
  rt : VK
  bk : St → Hp → Prop := fun _ _ => False
  ct : St → Hp → Prop := fun _ _ => False
abbrev TS := Ends → St → Hp → Prop

def EP (X : Cx) (pins : List (Addr × Obj)) (σ : St) (Q : VK) (u : Value) (s' : Shared) : Prop := ∃ v H', Inv X pins σ H' s' ∧ RelV v u ∧ Q v H'
def TP (X : Cx) (pins : List (Addr × Obj)) (σ : St) (Q : Bool → Hp → Prop) (b : Bool) (s' : Shared) : Prop := ∃ H', Inv X pins σ H' s' ∧ Q b H'
def AP (X : Cx) (pins : List (Addr × Obj)) (σ : St) (Q : List V → Hp → Prop) (us : List Value) (s' : Shared) : Prop := ∃ vs H', Inv X pins σ H' s' ∧ Vals vs us ∧ Q vs H'
def SP (X : Cx) (pins : List (Addr × Obj)) (D : Ends) (f : Flow) (s' : Shared) : Prop :=
  match f with
  | .next => ∃ σ' H', Inv X pins σ' H' s' ∧ D.nx σ' H'
  | .brk => ∃ σ' H', Inv X pins σ' H' s' ∧ D.bk σ' H'
  | .cont => ∃ σ' H', Inv X pins σ' H' s' ∧ D.ct σ' H'
  | .ret u => ∃ v σ' H', Inv X pins σ' H' s' ∧ RelV v u ∧ D.rt v H'

def PE (X : Cx) (e : Expr) (t : TE) : Prop :=
  ∀ (pins : List (Addr × Obj)) (s : Shared) (σ : St) (H : Hp) (Q : VK), Inv X pins σ H s → t σ H Q → wpAny (model X.prog X.w) X.A (eval e X.env) (EP X pins σ Q) X.xe s
def PT (X : Cx) (e : Expr) (t : TT) : Prop :=
  ∀ (pins : List (Addr × Obj)) (s : Shared) (σ : St) (H : Hp) (Q : Bool → Hp → Prop), Inv X pins σ H s → t σ H Q → wpAny (model X.prog X.w) X.A (isTrue e X.env (eval e X.env)) (TP X pins σ Q) X.xe s
def PW (X : Cx) (e : Expr) (t : TT) : Prop :=
  ∀ (whole : Sem Value) (pins : List (Addr × Obj)) (s : Shared) (σ : St) (H : Hp) (Q : Bool → Hp → Prop), Inv X pins σ H s → t σ H Q → wpAny (model X.prog X.w) X.A (isTrue e X.env whole) (TP X pins σ Q) X.xe s
theorem PW.pt {X : Cx} {e : Expr} {t : TT} (h : PW X e t) : PT X e t := h _
def PA (X : Cx) (es : List Expr) (t : TA) : Prop :=
  ∀ (pos : Pos) (pins : List (Addr × Obj)) (s : Shared) (σ : St) (H : Hp) (Q : List V → Hp → Prop), Inv X pins σ H s → t σ H Q → wpAny (model X.prog X.w) X.A (spliced (backTo pos (starEach es X.env))) (AP X pins σ Q) X.xe s
def PS (X : Cx) (st : Stmt) (t : TS) : Prop :=
  ∀ (pins : List (Addr × Obj)) (s : Shared) (σ : St) (H : Hp) (D : Ends), Inv X pins σ H s → t D σ H → wpAny (model X.prog X.w) X.A (exec st X.env) (SP X pins D) X.xe s
def PSs (X : Cx) (st : List Stmt) (t : TS) : Prop :=
  ∀ (pins : List (Addr × Obj)) (s : Shared) (σ : St) (H : Hp) (D : Ends), Inv X pins σ H s → t D σ H → wpAny (model X.prog X.w) X.A (execs st X.env) (SP X pins D) X.xe s
theorem thn {α : Type} {t : Sem α} {Q Q' : α → Shared → Prop} {M : Model} {A : Around} {E : Value → Shared → Prop} {s : Shared} (h : wpAny M A t Q E s) (hQ : ∀ a s, Q a s → Q' a s) : wpAny M A t Q' E s := wpAny_mono h hQ fun _ _ x => x
end L2

namespace L2
open PySem PySem.Spec PyProof.Rows
section
variable {X : Cx}

def tVar (i : Nat) : TE := fun σ H Q => ∃ v, σ[i]? = some (some v) ∧ Q v H
def tC (v : V) : TE := fun _ H Q => Q v H
theorem pe_var {i : Nat} {x : Str} {pos : Pos} (hN : X.N[i]? = some x) (hv : Vis X.env.scope x) (hd : (x == ("__debug__" : Str)) = false := by decide) (hcd : (x == ("__classdict__" : Str)) = false := by decide) : PE X (.Name x pos) (tVar i) := by
  intro pins s σ H Q I h
  obtain ⟨v, e, h⟩ := h
  obtain ⟨m, hn, hl⟩ := I.loc
  obtain ⟨u, r, l⟩ := hl i x v hN e hv
  have fin : EP X pins σ Q u s := ⟨v, H, I, r, h⟩
  rcases l with ⟨hk, hm⟩ | ⟨hk, c, hc, hcell⟩
  · exact wpAny_Name (wpAny_loadName_local I.ok.kind hk hn hm fin) hd
  · rcases hk with hk | hk
    · exact wpAny_Name (wpAny_loadName_cell I.ok.kind hk hc hcell fin) hd
    · exact wpAny_Name (wpAny_loadName_free I.ok.kind hk hc hcell fin hcd) hd
theorem pe_int {i j pos} : PE X (.Constant (.int i) j pos) (tC (.int i)) := fun _ _ _ H _ I h => wpAny_Constant_int ⟨.int i, H, I.tok _, ⟨_, rfl⟩, h⟩
theorem pe_bl {b j pos} : PE X (.Constant (.bool b) j pos) (tC (.bl b)) := fun _ _ _ H _ I h => Constant_bool ⟨.bl b, H, I, rfl, h⟩
theorem pe_non {j pos} : PE X (.Constant .none j pos) (tC .non) := fun _ _ _ H _ I h => Constant_none ⟨.non, H, I, rfl, h⟩
theorem pe_str {x j pos} : PE X (.Constant (.str x) j pos) (tC (.str x)) := fun _ _ _ H _ I h => Calls.Constant_str ⟨.str x, H, I.tok _, ⟨_, rfl⟩, h⟩

def Gl (X : Cx) (x : Str) : Prop := X.env.kindOf x = some .globalImplicit
theorem ld_glob {E : Value → Shared → Prop} {pins : List (Addr × Obj)} {s : Shared} {σ : St} {H : Hp} {x : Str} {u : Value} {pos : Pos} {Q : Value → Shared → Prop} (I : Inv X pins σ H s) (hg : Gl X x) (hm : X.mg x = some u) (h : Q u s)
    (hd : (x == ("__debug__" : Str)) = false := by decide) : wpAny (model X.prog X.w) X.A (eval (.Name x pos) X.env) Q E s :=
  Calls.Name_function_global I.ok.kind hg (Calls.loadGlobal_global (by rw [I.ok.glob]; exact I.mod.glob.keeps I.bk) hm h) hd
theorem ld_blt {E : Value → Shared → Prop} {pins : List (Addr × Obj)} {s : Shared} {σ : St} {H : Hp} {x : Str} {u : Value} {pos : Pos} {Q : Value → Shared → Prop} (I : Inv X pins σ H s) (hg : Gl X x) (hm : X.mg x = none) (hv : bootBuiltins x = some u) (h : Q u s)
    (hn : x ≠ "__name__" := by decide) (hd : (x == ("__debug__" : Str)) = false := by decide) : wpAny (model X.prog X.w) X.A (eval (.Name x pos) X.env) Q E s := by
  obtain ⟨mb, h1, h2⟩ := I.mod.blt
  exact Calls.Name_function_global I.ok.kind hg (Calls.loadGlobal_builtin (by rw [I.ok.glob]; exact I.mod.glob.keeps I.bk) hm (by rw [I.ok.blt]; exact h1.keeps I.bk) ((h2 x hn).trans hv) h) hd
theorem pe_glob {x : Str} {v : V} {u : Value} {pos : Pos} (hg : Gl X x) (hm : X.mg x = some u) (r : RelV v u) (hd : (x == ("__debug__" : Str)) = false := by decide) : PE X (.Name x pos) (tC v) :=
  fun _ _ _ H _ I h => ld_glob I hg hm ⟨v, H, I, r, h⟩ hd
theorem pe_bltn {x : Str} {v : V} {u : Value} {pos : Pos} (hg : Gl X x) (hm : X.mg x = none) (hv : bootBuiltins x = some u) (r : RelV v u) (hn : x ≠ "__name__" := by decide) (hd : (x == ("__debug__" : Str)) = false := by decide) : PE X (.Name x pos) (tC v) :=
  fun _ _ _ H _ I h => ld_blt I hg hm hv ⟨v, H, I, r, h⟩ hn hd

variable {a b : Expr} {ta tb : TE} {pos : Pos}
def tB (t : TE) : TT := fun σ H Q => t σ H fun x H1 => ∃ c, x = .bl c ∧ Q c H1
theorem pt_val {e : Expr} {t : TE} (h : PE X e t) (he : ∀ whole, isTrue e X.env whole = (do let v ← whole; standAt e.pos; holding [v] (truthy v)) := by intro _; rfl) : PT X e (tB t) := by
  intro pins s σ H Q I hw
  refine isTrue_plain (thn (h pins s σ H _ I hw) fun v s1 ⟨x, H1, I1, r1, q1⟩ => ?_) (he _)
  obtain ⟨d, rfl, q⟩ := q1
  cases r1
  exact wpAny_truthy_bool ⟨H1, I1, q⟩

variable {tA tB' : TT} {rest : List Expr}
def tAnd (t u : TT) : TT := fun σ H Q => t σ H fun c H1 => if c = true then u σ H1 Q else Q false H1
def tOr (t u : TT) : TT := fun σ H Q => t σ H fun c H1 => if c = true then Q true H1 else u σ H1 Q
def tNot (t : TT) : TT := fun σ H Q => t σ H fun c H1 => Q (!c) H1
theorem pw_and1 (ha : PT X a tA) : PW X (.BoolOp .And [a] pos) tA := by
  intro wh pins s σ H Q I h
  refine isTrue_and (thn (ha pins s σ H Q I h) fun c s1 e => ?_)
  cases c with
  | true => exact isTrue_and_nil e
  | false => exact e
theorem pw_or1 (ha : PT X a tA) : PW X (.BoolOp .Or [a] pos) tA := by
  intro wh pins s σ H Q I h
  refine isTrue_or (thn (ha pins s σ H Q I h) fun c s1 e => ?_)
  cases c with
  | false => exact isTrue_or_nil e
  | true => exact e
theorem pw_and (ha : PT X a tA) (hb : PW X (.BoolOp .And (b :: rest) pos) tB') : PW X (.BoolOp .And (a :: b :: rest) pos) (tAnd tA tB') := by
  intro wh pins s σ H Q I h
  refine isTrue_and (thn (ha pins s σ H _ I h) fun c s1 ⟨H1, I1, q1⟩ => ?_)
  cases c with
  | true => exact hb wh pins s1 σ H1 Q I1 q1
  | false => exact ⟨H1, I1, q1⟩
theorem pw_or (ha : PT X a tA) (hb : PW X (.BoolOp .Or (b :: rest) pos) tB') : PW X (.BoolOp .Or (a :: b :: rest) pos) (tOr tA tB') := by
  intro wh pins s σ H Q I h
  refine isTrue_or (thn (ha pins s σ H _ I h) fun c s1 ⟨H1, I1, q1⟩ => ?_)
  cases c with
  | true => exact ⟨H1, I1, q1⟩
  | false => exact hb wh pins s1 σ H1 Q I1 q1
theorem pt_not (ha : PT X a tA) : PT X (.UnaryOp .Not a pos) (tNot tA) := by
  intro pins s σ H Q I h
  exact isTrue_not (ha pins s σ H (fun c H1 => Q (!c) H1) I h)
def tAndV (ta tb : TE) : TE := fun σ H Q => ta σ H fun x H1 => ∃ c, x = .bl c ∧ if c = true then tb σ H1 Q else Q (.bl false) H1
def tOrV (ta tb : TE) : TE := fun σ H Q => ta σ H fun x H1 => ∃ c, x = .bl c ∧ if c = true then Q (.bl true) H1 else tb σ H1 Q
def tNotV (ta : TE) : TE := fun σ H Q => ta σ H fun x H1 => ∃ c, x = .bl c ∧ Q (.bl (!c)) H1
theorem pe_one {op} {t : TE} (h : PE X a t) : PE X (.BoolOp op [a] pos) t := fun pins s σ H Q I hw => BoolOp_one (h pins s σ H Q I hw)
theorem pe_and (ha : PE X a ta) (hb : PE X (.BoolOp .And (b :: rest) pos) tb) : PE X (.BoolOp .And (a :: b :: rest) pos) (tAndV ta tb) := by
  intro pins s σ H Q I h
  refine BoolOp_and (thn (ha pins s σ H _ I h) fun v s1 ⟨x, H1, I1, r1, q1⟩ => ?_)
  obtain ⟨c, rfl, q1⟩ := q1
  cases r1
  refine wpAny_truthy_bool ?_
  cases c with
  | true => exact hb pins s1 σ H1 Q I1 q1
  | false => exact ⟨.bl false, H1, I1, rfl, q1⟩
theorem pe_or (ha : PE X a ta) (hb : PE X (.BoolOp .Or (b :: rest) pos) tb) : PE X (.BoolOp .Or (a :: b :: rest) pos) (tOrV ta tb) := by
  intro pins s σ H Q I h
  refine BoolOp_or (thn (ha pins s σ H _ I h) fun v s1 ⟨x, H1, I1, r1, q1⟩ => ?_)
  obtain ⟨c, rfl, q1⟩ := q1
  cases r1
  refine wpAny_truthy_bool ?_
  cases c with
  | false => exact hb pins s1 σ H1 Q I1 q1
  | true => exact ⟨.bl true, H1, I1, rfl, q1⟩
theorem pe_not (ha : PE X a ta) : PE X (.UnaryOp .Not a pos) (tNotV ta) := by
  intro pins s σ H Q I h
  refine UnaryOp_ (thn (ha pins s σ H _ I h) fun v s1 ⟨x, H1, I1, r1, q1⟩ => ?_)
  obtain ⟨c, rfl, q1⟩ := q1
  cases r1
  exact not_of (wpAny_truthy_bool ⟨.bl (!c), H1, I1, rfl, q1⟩)
end
end L2

namespace L2
open PySem PySem.Spec PyProof.Rows

def SqL (K : PySem.W.Frag) (H : Hp) (a : Addr) (xs : List V) : Prop :=
  Rd H a (.lst xs) ∨
    ∃ (o : Obj) (its : Array Value) (n : Nat), K.lookup a = some o ∧ o.cls = .type "list" ∧ o.dict = none ∧ o.data = .seq its n ∧ its.size ≤ sizeLine ∧ Vals xs its.toList
def SqT (K : PySem.W.Frag) (H : Hp) (a : Addr) (xs : List V) : Prop :=
  Rd H a (.tup xs) ∨
    ∃ (o : Obj) (its : Array Value) (n : Nat), K.lookup a = some o ∧ o.cls = .type "tuple" ∧ o.data = .seq its n ∧ its.size ≤ sizeLine ∧ Vals xs its.toList
def absV : Value → Option V
  | .none => some .non
  | .bool b => some (.bl b)
  | .int i _ => some (.int i)
  | .str x _ => some (.str x)
  | .bytes b _ => some (.byt b)
  | .float b _ => some (.flt b)
  | .ref a => some (.ref a)
  | .type n => some (.ty n)
  | _ => none
theorem RelV.abs {x : V} {u : Value} (r : RelV x u) : absV u = some x := by
  cases x with
  | non => cases r; rfl
  | bl _ => cases r; rfl
  | int _ => obtain ⟨t, rfl⟩ := r; rfl
  | str _ => obtain ⟨t, rfl⟩ := r; rfl
  | byt _ => obtain ⟨t, rfl⟩ := r; rfl
  | flt _ => obtain ⟨t, rfl⟩ := r; rfl
  | ref _ => cases r; rfl
  | ty _ => cases r; rfl
theorem RelV.inj {x y : V} {u : Value} (r : RelV x u) (q : RelV y u) : x = y := Option.some.inj (r.abs.symm.trans q.abs)
theorem Vals.inj : ∀ {xs ys : List V} {us : List Value}, Vals xs us → Vals ys us → xs = ys
  | _, _, _, .nil, .nil => rfl
  | _, _, _, .cons r t, .cons r' t' => by rw [r.inj r', Vals.inj t t']
section
variable {X : Cx} {pins : List (Addr × Obj)} {σ : St} {H : Hp} {s : Shared} {a : Addr} {xs ys : List V}
theorem Inv.list (I : Inv X pins σ H s) (h : SqL X.K H a xs) : ∃ its : List Value, Vals xs its ∧ PlainL s.heap a its.toArray ∧ xs.length ≤ sizeLine := by
  rcases h with h | ⟨o, its, n, hk, hc, hd, hs, hz, r⟩
  · obtain ⟨z, its, n, r, e⟩ := h.ok I.hok
    exact ⟨its, r, ⟨_, n, e, rfl, rfl, rfl⟩, z⟩
  · refine ⟨its.toList, r, ⟨o, n, I.kIn a o hk, hc, hd, by simpa using hs⟩, ?_⟩
    have e := r.length
    simp only [Array.length_toList] at e
    omega
theorem Inv.tuple (I : Inv X pins σ H s) (h : SqT X.K H a xs) : ∃ its : List Value, Vals xs its ∧ IsTup s.heap a its.toArray ∧ xs.length ≤ sizeLine := by
  rcases h with h | ⟨o, its, n, hk, hc, hs, hz, r⟩
  · obtain ⟨z, its, r, p⟩ := h.ok I.hok
    exact ⟨its, r, p, z⟩
  · refine ⟨its.toList, r, ⟨o, I.kIn a o hk, hc, n, by simpa using hs⟩, ?_⟩
    have e := r.length
    simp only [Array.length_toList] at e
    omega
theorem Inv.list_inj (I : Inv X pins σ H s) (h : SqL X.K H a xs) (h' : SqL X.K H a ys) : xs = ys := by
  obtain ⟨its, r, ⟨o, n, e, _, _, d⟩, _⟩ := I.list h
  obtain ⟨its', r', ⟨o', n', e', _, _, d'⟩, _⟩ := I.list h'
  rw [e] at e'; cases e'
  rw [d] at d'
  injection d' with d1 _
  have : its = its' := by simpa using congrArg Array.toList d1
  subst this
  exact r.inj r'
end

abbrev Cx.wish (X : Cx) (E : Value → Shared → Prop) : Cx := { X with xe := E }
abbrev Cx.nox (X : Cx) : Cx := X.wish fun _ _ => False
theorem Cx.Ok.wish {X : Cx} (ok : X.Ok) (E : Value → Shared → Prop) : (X.wish E).Ok :=
  ⟨ok.mod, ok.kind, ok.glob, ok.blt, ok.above, ok.inj, ok.has, ok.cab, ok.hd, ok.frames, ok.stk, ok.exf, ok.bs, ok.bsz, ok.noex, ok.exfs, ok.funs, ok.frf⟩
theorem Cx.Ok.unwish {X : Cx} {E : Value → Shared → Prop} (ok : (X.wish E).Ok) : X.Ok :=
  ⟨ok.mod, ok.kind, ok.glob, ok.blt, ok.above, ok.inj, ok.has, ok.cab, ok.hd, ok.frames, ok.stk, ok.exf, ok.bs, ok.bsz, ok.noex, ok.exfs, ok.funs, ok.frf⟩
section
variable {X : Cx} {pins : List (Addr × Obj)} {σ : St} {H : Hp} {s : Shared} {E : Value → Shared → Prop}
theorem Inv.wish (I : Inv X pins σ H s) (E : Value → Shared → Prop) : Inv (X.wish E) pins σ H s := ⟨I.ok.wish E, I.os, I.bare, I.base, I.loc, I.cell, I.free, I.freeC, I.pin, I.hok, I.len⟩
theorem Inv.unwish (I : Inv (X.wish E) pins σ H s) : Inv X pins σ H s := ⟨I.ok.unwish, I.os, I.bare, I.base, I.loc, I.cell, I.free, I.freeC, I.pin, I.hok, I.len⟩
theorem SP.unwish {D : Ends} {f : Flow} {s' : Shared} (h : SP (X.wish E) pins D f s') : SP X pins D f s' := by
  cases f with
  | next => obtain ⟨σ', H', I, q⟩ := h; exact ⟨σ', H', I.unwish, q⟩
  | brk => obtain ⟨σ', H', I, q⟩ := h; exact ⟨σ', H', I.unwish, q⟩
  | cont => obtain ⟨σ', H', I, q⟩ := h; exact ⟨σ', H', I.unwish, q⟩
  | ret u => obtain ⟨v, σ', H', I, r, q⟩ := h; exact ⟨v, σ', H', I.unwish, r, q⟩
theorem PSs.nox {st : List Stmt} {t : TS} (h : PSs X.nox st t) : PSs X st t := fun pins s σ H D I hw =>
  wpAny_mono (h pins s σ H D (I.wish _) hw) (fun _ _ q => q.unwish) fun _ _ z => False.elim z
end

section
variable {X : Cx} {st : Stmt} {rest : List Stmt} {t u : TS} {e : Expr} {te : TE} {pos : Pos}
def tNext : TS := fun D σ H => D.nx σ H
def tSeq (t u : TS) : TS := fun D σ H => t { D with nx := u D } σ H
theorem pss_nil : PSs X [] tNext := fun _ _ σ H _ I h => wpAny_execs_nil ⟨σ, H, I, h⟩
theorem pss_cons (h1 : PS X st t) (h2 : PSs X rest u) : PSs X (st :: rest) (tSeq t u) := by
  intro pins s σ H D I h
  refine wpAny_execs_cons (thn (h1 pins s σ H { D with nx := u D } I h) fun f s1 q => ?_)
  cases f with
  | next =>
    obtain ⟨σ', H', I', q⟩ := q
    exact h2 pins s1 σ' H' D I' q
  | ret v => exact q
  | brk => exact q
  | cont => exact q
theorem pss_one (h1 : PS X st t) : PSs X [st] t := by
  intro pins s σ H D I h
  refine wpAny_execs_cons (thn (h1 pins s σ H D I h) fun f s1 q => ?_)
  cases f with
  | next => exact wpAny_execs_nil q
  | ret v => exact q
  | brk => exact q
  | cont => exact q
theorem Inv.quiet {pins : List (Addr × Obj)} {σ : St} {H : Hp} {s : Shared} (I : Inv X pins σ H s) : interactive X.env = false := by simp [interactive, I.ok.kind]
def tDrop (te : TE) : TS := fun D σ H => te σ H fun _ H1 => D.nx σ H1
theorem ps_expr (he : PE X e te) (hs : swapsWith e none pos.line X.env = pure false := by rfl) : PS X (.Expr e pos) (tDrop te) := by
  intro pins s σ H D I h
  exact wpAny_Expr_any (thn (he pins s σ H _ I h) fun v s1 ⟨x, H1, I1, r1, q1⟩ => ⟨σ, H1, I1, q1⟩) I.quiet hs
def tRet (te : TE) : TS := fun D σ H => te σ H D.rt
theorem ps_ret (he : PE X e te) : PS X (.Return (some e) pos) (tRet te) := by
  intro pins s σ H D I h
  exact wpAny_Return_some (thn (he pins s σ H _ I h) fun v s1 ⟨x, H1, I1, r1, q1⟩ => ⟨x, σ, H1, I1, r1, q1⟩)
def tIfS (c : TT) (t u : TS) : TS := fun D σ H => c σ H fun b H1 => if b = true then t D σ H1 else u D σ H1
theorem ps_if {c : Expr} {a b : List Stmt} {tc : TT} (hc : PT X c tc) (ha : PSs X a t) (hb : PSs X b u) : PS X (.If c a b pos) (tIfS tc t u) := by
  intro pins s σ H D I h
  refine wpAny_If (thn (hc pins s σ H _ I h) fun d s1 ⟨H1, I1, q1⟩ => ?_)
  cases d with
  | true => exact ha pins s1 σ H1 D I1 q1
  | false => exact hb pins s1 σ H1 D I1 q1
def tNever : TS := fun _ _ _ => False
theorem ps_never : PS X st tNever := fun _ _ _ _ _ _ h => h.elim
theorem pss_never {sts : List Stmt} : PSs X sts tNever := fun _ _ _ _ _ _ h => h.elim
end

abbrev TG := V → St → Hp → (St → Hp → Prop) → Prop
abbrev TGs := List V → St → Hp → (St → Hp → Prop) → Prop
def PG (X : Cx) (target : Expr) (t : TG) : Prop :=
  ∀ (pins : List (Addr × Obj)) (s : Shared) (σ : St) (H : Hp) (v : V) (u : Value) (Q : St → Hp → Prop), Inv X pins σ H s → RelV v u → t v σ H Q →
    wpAny (model X.prog X.w) X.A (assign target X.env u) (fun _ s' => ∃ σ' H', Inv X pins σ' H' s' ∧ Q σ' H') X.xe s
def PGs (X : Cx) (ts : List Expr) (t : TGs) : Prop :=
  ∀ (pins : List (Addr × Obj)) (s : Shared) (σ : St) (H : Hp) (vs : List V) (us : List Value) (Q : St → Hp → Prop), Inv X pins σ H s → Vals vs us → t vs σ H Q →
    wpAny (model X.prog X.w) X.A (assignInOrder ((assignEach ts X.env).map (·.2)) us) (fun _ s' => ∃ σ' H', Inv X pins σ' H' s' ∧ Q σ' H') X.xe s
abbrev TSet := V → V → V → Hp → (Hp → Prop) → Prop
def PSet (X : Cx) (t : TSet) : Prop :=
  ∀ (pins : List (Addr × Obj)) (s : Shared) (σ : St) (H : Hp) (o i v : V) (ov iv u : Value) (Q : Hp → Prop), Inv X pins σ H s → RelV o ov → RelV i iv → RelV v u → t o i v H Q →
    wpAny (model X.prog X.w) X.A (setItem ov iv u) (fun _ s' => ∃ H', Inv X pins σ H' s' ∧ Q H') X.xe s
section
variable {X : Cx} {pos : Pos}
def gName (i : Nat) : TG := fun v σ H Q => Q (σ.set i (some v)) H
theorem pg_name {i : Nat} {x : Str} (hN : X.N.Nodup) (hi : X.N[i]? = some x) (hx : Loc X.env.scope x) (hf : X.fn x = true ∨ X.env.scope.names.lookup x = some .local := by first | exact .inl rfl | exact .inr rfl | assumption) : PG X (.Name x pos) (gName i) := by
  intro pins s σ H v u Q I r h
  exact wpAny_assign_Name (store_ok I hN hi hx r (fun s' I' => ⟨_, H, I', h⟩) hf)
def gNil : TGs := fun vs σ H Q => vs = [] ∧ Q σ H
def gCons (t : TG) (u : TGs) : TGs := fun vs σ H Q => ∃ v r, vs = v :: r ∧ t v σ H fun σ' H' => u r σ' H' Q
theorem pgs_nil : PGs X [] gNil := by
  intro pins s σ H vs us Q I r h
  obtain ⟨e, h⟩ := h
  subst e
  cases r
  exact assignInOrder_nil ⟨σ, H, I, h⟩
theorem pgs_cons {e : Expr} {es : List Expr} {t : TG} {u : TGs} (h1 : PG X e t) (h2 : PGs X es u)
    (hs : (assignEach (e :: es) X.env).map (·.2) = assign e X.env :: (assignEach es X.env).map (·.2) := by rfl) : PGs X (e :: es) (gCons t u) := by
  intro pins s σ H vs us Q I r h
  obtain ⟨v, vr, e1, h⟩ := h
  subst e1
  cases r with
  | cons r rr =>
    rw [hs]
    refine assignInOrder_cons (thn (h1 pins s σ H _ _ _ I r h) fun _ s1 ⟨σ1, H1, I1, q1⟩ => ?_)
    exact h2 pins s1 σ1 H1 _ _ Q I1 rr q1
def gTup (K : PySem.W.Frag) (n : Nat) (t : TGs) : TG := fun v σ H Q => ∃ a xs, v = .ref a ∧ SqT K H a xs ∧ xs.length = n ∧ t xs σ H Q
theorem pg_tup {es : List Expr} {k : Nat} {t : TGs} {n : Nat} (hc : X.calm = true) (h : PGs X es t)
    (hn : (assignEach es X.env).length = n := by rfl) (hst : (assignEach es X.env).findIdx? (·.1) = none := by rfl) : PG X (.Tuple es k pos) (gTup X.K n t) := by
  intro pins s σ H v u Q I r hw
  obtain ⟨a, xs, e1, hq, hl, hw⟩ := hw
  subst e1
  cases r
  obtain ⟨its, rv, ht, hz⟩ := I.tuple hq
  refine assign_Tuple_tuple (I.ok.hd hc) ht (by simp [hn, ← hl, rv.length]) hst fun h' hx => ?_
  have I1 : Inv X pins σ H { s with heap := h' } := I.kept (t' := s.toks) fun b o e => hx b o (Nat.ne_of_lt (Heap.lt_size e)) e
  exact h pins _ σ H xs _ Q I1 (by simpa using rv) hw
def gSub (to ti : TE) (t : TSet) : TG := fun v σ H Q => to σ H fun o H1 => ti σ H1 fun i H2 => t o i v H2 fun H3 => Q σ H3
theorem pg_sub {o i : Expr} {to ti : TE} {t : TSet} (ho : PE X o to) (hi : PE X i ti) (hs : PSet X t)
    (ha : ∀ v, assign (.Subscript o i pos) X.env v = (do
      let ov ← holding [v] (eval o X.env)
      let iv ← holding [v, ov] (eval i X.env)
      standAt pos
      holding [v, ov, iv] (setItem ov iv v)
      release [v, ov, iv] []) := by intro _; rfl) : PG X (.Subscript o i pos) (gSub to ti t) := by
  intro pins s σ H v u Q I r h
  rw [ha]
  refine wpAny_bind (wpAny_holding (thn (ho pins s σ H _ I h) fun ov s1 ⟨x, H1, I1, r1, q1⟩ => ?_))
  refine wpAny_bind (wpAny_holding (thn (hi pins s1 σ H1 _ I1 q1) fun iv s2 ⟨y, H2, I2, r2, q2⟩ => ?_))
  refine wpAny_bind (wpAny_standAt (wpAny_bind (wpAny_holding (thn (hs pins s2 σ H2 x y v ov iv u _ I2 r1 r2 r q2) fun _ s3 ⟨H3, I3, q3⟩ => ?_))))
  exact wpAny_release ⟨σ, H3, I3, q3⟩
def tAsg (te : TE) (g : TG) : TS := fun D σ H => te σ H fun x H1 => g x σ H1 D.nx
theorem ps_asg {tg e : Expr} {te : TE} {g : TG} (he : PE X e te) (hg : PG X tg g) (hs : swapsWithSole [tg] e pos.line X.env = pure false := by rfl) (hw : swappedStores [tg] e X.env = pure none := by rfl)
    (h1 : (assignEach [tg] X.env).map (·.2) = [assign tg X.env] := by rfl) : PS X (.Assign [tg] e pos) (tAsg te g) := by
  intro pins s σ H D I h
  refine wpAny_Assign_stores (thn (he pins s σ H _ I h) fun v s1 ⟨x, H1, I1, r1, q1⟩ => ?_) hs hw
  rw [h1]
  exact thn (hg pins s1 σ H1 x v _ I1 r1 q1) fun _ s2 q => q
theorem ps_set {i : Nat} {x : Str} {e : Expr} {te : TE} {pos' : Pos} (hN : X.N.Nodup) (hi : X.N[i]? = some x) (hx : Loc X.env.scope x) (he : PE X e te) (hs : swapsWith e (some (.Name x pos')) pos.line X.env = pure false := by rfl) (hf : X.fn x = true ∨ X.env.scope.names.lookup x = some .local := by first | exact .inl rfl | exact .inr rfl | assumption) :
    PS X (.Assign [.Name x pos'] e pos) (tAsg te (gName i)) := by
  intro pins s σ H D I h
  refine wpAny_Assign_Name (thn (he pins s σ H _ I h) fun v s1 ⟨y, H1, I1, r1, q1⟩ => ?_) hs
  exact store_ok I1 hN hi hx r1 (fun s2 I2 => ⟨_, H1, I2, q1⟩) hf
end

section
variable {X : Cx} {pos : Pos}
end

structure It where
  go : Nat → Hp → Prop
  yld : Nat → Hp → V → Hp → Prop
  stop : Nat → Hp → Prop
def FpOk (X : Cx) (pins : List (Addr × Obj)) (H : Hp) (b : Addr) : Prop :=
  H b = none ∧ b ≠ X.env.locals ∧ b ∉ X.fs ∧ (b ∈ X.ex ∨ X.s₀.heap.objs.size ≤ b) ∧ (∀ x c, X.env.cells.lookup x = some c → c ≠ b) ∧ ∀ p ∈ X.pn ++ pins, p.1 ≠ b
theorem Inv.fpOk {X : Cx} {pins : List (Addr × Obj)} {σ : St} {H H' : Hp} {s : Shared} {b : Addr} (I : Inv X pins σ H s) (hb : s.heap.objs.size ≤ b) (hn : H' b = none) : FpOk X pins H' b := by
  refine ⟨hn, Nat.ne_of_gt (Nat.lt_of_lt_of_le I.lt hb), I.nofs hb, .inr (Nat.le_trans I.sz hb), fun x c e z => ?_, fun p hp z => ?_⟩
  · obtain ⟨v, q⟩ := I.cell x c e
    exact absurd (Nat.lt_of_lt_of_le q.lt (by rw [z]; exact hb)) (Nat.lt_irrefl _)
  · exact absurd (Nat.lt_of_lt_of_le (Heap.lt_size (I.pin p hp).1) (by rw [z]; exact hb)) (Nat.lt_irrefl _)
structure Turn (P : Program) (w : World) (K : PySem.W.Frag) (tg : Expr) (J : It) (fp : List Addr) (it : Addr) (tn : Nat → Heap → Prop) : Prop where
  mem : it ∈ fp
  obj : ∀ i h, tn i h → ∀ b ∈ fp, ∃ o, h.get? b = some o ∧ ∀ v, o.data ≠ .cell v
  keep : ∀ i h h', tn i h → (∀ b ∈ fp, ∀ o, h.get? b = some o → h'.get? b = some o) → tn i h'
  item : ∀ (X : Cx), X.prog = P → X.w = w → X.K = K → X.calm = true → ∀ (i : Nat) (pins : List (Addr × Obj)) (s : Shared) (σ : St) (H : Hp) (E : Value → Shared → Prop), Inv X pins σ H s → (∀ b ∈ fp, FpOk X pins H b) → tn i s.heap → J.go i H →
    wpAny (model P w) X.A (pyNext (.ref it)) (fun r s1 => ∃ u, r = some u ∧
      wpAny (model P w) X.A (letOwnedTupleGo tg (.ref it) u) (fun _ s2 => ∃ x H', Inv X pins σ H' s2 ∧ RelV x u ∧ J.yld i H x H' ∧ tn (i + 1) s2.heap ∧ ∀ b ∈ fp, H' b = none) E s1) E s
  done : ∀ (X : Cx), X.prog = P → X.w = w → X.K = K → X.calm = true → ∀ (i : Nat) (pins : List (Addr × Obj)) (s : Shared) (σ : St) (H : Hp) (E : Value → Shared → Prop), Inv X pins σ H s → (∀ b ∈ fp, FpOk X pins H b) → tn i s.heap → J.stop i H →
    wpAny (model P w) X.A (pyNext (.ref it)) (fun r s1 => r = none ∧ Inv X pins σ H s1) E s
  self : ∀ (A : Around) (i : Nat) (s : Shared) (Q : Value → Shared → Prop) (E : Value → Shared → Prop), tn i s.heap → Q (.ref it) s → wpAny (model P w) A (pyIter (.ref it)) Q E s
abbrev TI := St → Hp → (It → Hp → Prop) → Prop
def PIE (X : Cx) (pins : List (Addr × Obj)) (σ : St) (tg : Expr) (R : It → Hp → Prop) (itv : Value) (s2 : Shared) : Prop :=
  ∃ (it : Addr) (fp : List Addr) (tn : Nat → Heap → Prop) (J : It) (H' : Hp), itv = .ref it ∧ Inv X pins σ H' s2 ∧ Turn X.prog X.w X.K tg J fp it tn ∧ tn 0 s2.heap ∧ (∀ b ∈ fp, FpOk X pins H' b) ∧ R J H'
def PI (X : Cx) (tg iter : Expr) (wi : TI) : Prop :=
  ∀ (pins : List (Addr × Obj)) (s : Shared) (σ : St) (H : Hp) (R : It → Hp → Prop), Inv X pins σ H s → wi σ H R →
    wpAny (model X.prog X.w) X.A (eval iter X.env) (fun v s1 => wpAny (model X.prog X.w) X.A (pyIter v) (PIE X pins σ tg R) X.xe s1) X.xe s

theorem go_of {M : Model} {A : Around} {E : Value → Shared → Prop} {s : Shared} {tg : Expr} {it : Addr} {u : Value} {o : Obj} {n : String} {vs : Array Value} {Q : Unit → Shared → Prop} (ho : s.heap.get? it = some o) (hc : o.cls = .type n) (hd : o.data = .fields vs)
    (hn : ["enumerate", "zip", "dict_itemiterator", "dict_reverseitemiterator", "odict_iterator", "itertools.zip_longest", "itertools.pairwise"].contains n = false) (hQ : Q () s) : wpAny M A (letOwnedTupleGo tg (.ref it) u) Q E s := by
  unfold letOwnedTupleGo
  cases tg <;> first
    | exact wpAny_pure hQ
    | (cases u <;> first
        | exact wpAny_pure hQ
        | (refine wpAny_bind (wpAny_load ho ?_)
           rw [hc, hd]
           show wpAny M A (if (["enumerate", "zip", "dict_itemiterator", "dict_reverseitemiterator", "odict_iterator", "itertools.zip_longest", "itertools.pairwise"].contains n && vs[0]? == some (rawInt _)) = true then _ else _) Q E s
           rw [if_neg (by intro h; rw [hn, Bool.false_and] at h; cases h)]
           exact wpAny_pure hQ))

def Itl (K : PySem.W.Frag) (a : Addr) : It :=
  ⟨fun i H => ∃ xs x, SqL K H a xs ∧ xs[i]? = some x, fun i H x H' => H' = H ∧ ∀ xs, SqL K H a xs → xs[i]? = some x, fun i H => ∃ xs, SqL K H a xs ∧ xs.length ≤ i⟩
def Itr (lo : Int) (n : Nat) : It := ⟨fun i _ => i < n, fun i H x H' => H' = H ∧ x = .int (lo + i), fun i _ => n ≤ i⟩
theorem turn_list {P : Program} {w : World} {K : PySem.W.Frag} {tg : Expr} (a it : Addr) : Turn P w K tg (Itl K a) [it] it (fun i h => h.IsListIter it a i) where
  mem := by simp
  obj := fun i h st b hb => by
    have e : b = it := by simpa using hb
    subst e
    obtain ⟨o, e, c, d⟩ := st
    exact ⟨o, e, fun v z => by rw [d] at z; cases z⟩
  keep := fun i h h' st k => st.at fun o e => k it (by simp) o e
  item := by
    intro X hP hw hK hc i pins s σ H E I hf st hg
    subst hP hw hK
    obtain ⟨xs, x, hq, hx⟩ := hg
    obtain ⟨its, rv, p, hz⟩ := I.list hq
    obtain ⟨u, hu, ru⟩ := rv.get hx
    obtain ⟨f0, f1, f2, f3, f4, f5⟩ := hf it (by simp)
    refine wpAny_pyNext_list_item st p.isList (x := u) (by simpa using hu) fun h' st' sb => ?_
    have I1 : Inv X pins σ H { s with heap := h' } := I.turned (t' := s.toks) (fun b o hb e => (sb.2 b hb).trans e) f0 f1 f3 f4 f5
    obtain ⟨o, e, c, d⟩ := id st'
    exact ⟨u, rfl, go_of (s := { s with heap := h' }) e c d (by decide) ⟨x, H, I1, ru, ⟨rfl, fun ys hy => by rw [I.list_inj hy hq]; exact hx⟩, st', fun b hb => (hf b hb).1⟩⟩
  done := by
    intro X hP hw hK hc i pins s σ H E I hf st hg
    subst hP hw hK
    obtain ⟨xs, hq, hx⟩ := hg
    obtain ⟨its, rv, p, hz⟩ := I.list hq
    obtain ⟨f0, f1, f2, f3, f4, f5⟩ := hf it (by simp)
    have hl := rv.length
    exact wpAny_pyNext_list_end (I.ok.hd hc) st p.isList (by simp; omega) fun h' eb => ⟨rfl, I.turned (t' := s.toks) (fun b o hb e => eb b o hb e) f0 f1 f3 f4 f5⟩
  self := fun _ _ _ _ _ st h => wpAny_pyIter_listiter st h
theorem turn_range {P : Program} {w : World} {K : PySem.W.Frag} {tg : Expr} (it : Addr) (lo : Int) (n : Nat) : Turn P w K tg (Itr lo n) [it] it (fun i h => IsRangeIter h it (lo + (i : Nat) * 1) ((n : Int) - (i : Nat)) 1) where
  mem := by simp
  obj := fun i h st b hb => by
    have e : b = it := by simpa using hb
    subst e
    exact ⟨_, st, fun v z => by
      have z' : Data.fields _ = Data.cell v := z
      cases z'⟩
  keep := fun i h h' st k => k it (by simp) _ st
  item := by
    intro X hP hw hK hc i pins s σ H E I hf st hg
    subst hP hw hK
    obtain ⟨f0, f1, f2, f3, f4, f5⟩ := hf it (by simp)
    have W := Walks.range (prog := X.prog) (w := X.w) (I.ok.hd hc) it lo 1 n
    refine W.item i s _ _ hg st fun v h' tk hv st' kk => ?_
    obtain ⟨t, rfl⟩ := hv
    have I1 : Inv X pins σ H { s with heap := h', toks := tk } := I.turned (fun b o hb e => kk b o (by simpa using hb) e) f0 f1 f3 f4 f5
    refine ⟨_, rfl, go_of (s := { s with heap := h', toks := tk }) (n := "range_iterator") st' rfl rfl (by decide) ⟨.int (lo + i), H, I1, ⟨t, ?_⟩, ⟨rfl, rfl⟩, st', fun b hb => (hf b hb).1⟩⟩
    rw [Int.mul_one]
  done := by
    intro X hP hw hK hc i pins s σ H E I hf st hg
    subst hP hw hK
    obtain ⟨f0, f1, f2, f3, f4, f5⟩ := hf it (by simp)
    exact wpAny_pyNext_range_end (I.ok.hd hc) st (by have : n ≤ i := hg; omega) fun h' eb => ⟨rfl, I.turned (t' := s.toks) (fun b o hb e => eb b o hb e) f0 f1 f3 f4 f5⟩
  self := fun _ _ _ _ _ st h => wpAny_pyIter_rangeiter st h
end L2

namespace L2
open PySem PySem.Spec PyProof.Rows
section
variable {X : Cx} {tg : Expr}
def iList (K : PySem.W.Frag) (tl : TE) : TI := fun σ H R => tl σ H fun x H1 => ∃ a, x = .ref a ∧ (∃ xs, SqL K H1 a xs) ∧ R (Itl K a) H1
theorem pi_list {l : Expr} {tl : TE} (hl : PE X l tl) : PI X tg l (iList X.K tl) := by
  intro pins s σ H R I h
  refine thn (hl pins s σ H _ I h) fun v s1 ⟨x, H1, I1, r1, q1⟩ => ?_
  obtain ⟨a, e, ⟨xs, hq⟩, q⟩ := q1
  subst e
  cases r1
  obtain ⟨its, rv, p, hz⟩ := I1.list hq
  refine wpAny_pyIter_list p.isList ?_
  refine ⟨s1.heap.objs.size, [s1.heap.objs.size], _, _, H1, rfl, I1.kept (t' := s1.toks) fun b o e => Heap.get?_push_of_some _ e, turn_list a _, ⟨_, Heap.get?_push_size _ rfl, rfl, rfl⟩, fun b hb => ?_, q⟩
  have e : b = s1.heap.objs.size := by simpa using hb
  subst e
  exact I1.fpOk (Nat.le_refl _) (I1.hok.fresh (Nat.le_refl _))
theorem range_it {pins : List (Addr × Obj)} {σ : St} {H : Hp} {s : Shared} {R : It → Hp → Prop} {E : Value → Shared → Prop} {lo hi : Int} {t u v : Tok} {tk : Nat} (I : Inv X pins σ H s) (h1 : -(2 ^ 62) ≤ lo) (h2 : lo < 2 ^ 62) (h3 : -(2 ^ 62) ≤ hi) (h4 : hi < 2 ^ 62)
    (q : R (Itr lo (hi - lo).toNat) H) : wpAny (model X.prog X.w) X.A (pyIter (.ref s.heap.objs.size)) (PIE X pins σ tg R) E { s with heap := s.heap.push { cls := .type "range", data := .fields #[.int lo t, .int hi u, .int 1 v] }, toks := tk } := by
  refine wpAny_pyIter_range (IsRange.new ..) (small_one h1 h2 h3 h4) ?_
  have I1 : Inv X pins σ H { s with heap := s.heap.push { cls := .type "range", data := .fields #[.int lo t, .int hi u, .int 1 v] }, toks := tk } := I.kept fun b o e => Heap.get?_push_of_some _ e
  refine ⟨(s.heap.push { cls := .type "range", data := .fields #[.int lo t, .int hi u, .int 1 v] }).objs.size, [(s.heap.push { cls := .type "range", data := .fields #[.int lo t, .int hi u, .int 1 v] }).objs.size], _, _, H, rfl,
    I1.kept (t' := tk) fun b o e => Heap.get?_push_of_some _ e, turn_range _ lo (hi - lo).toNat, ?_, fun b hb => ?_, q⟩
  · have e1 : lo + ((0 : Nat) : Int) * 1 = lo := by simp
    have e2 : (((hi - lo).toNat : Nat) : Int) - ((0 : Nat) : Int) = Builtin.Range.rangeSize lo hi 1 := by rw [rangeSize_one]; split <;> omega
    show IsRangeIter _ _ (lo + ((0 : Nat) : Int) * 1) ((((hi - lo).toNat : Nat) : Int) - ((0 : Nat) : Int)) 1
    rw [e1, e2]
    exact Heap.get?_push_size _ rfl
  · have e : b = (s.heap.push { cls := .type "range", data := .fields #[.int lo t, .int hi u, .int 1 v] }).objs.size := by simpa using hb
    subst e
    exact I1.fpOk (Nat.le_refl _) (I1.hok.fresh (Nat.le_refl _))
def iRng1 (ta : TA) : TI := fun σ H R => ta σ H fun vs H1 => ∃ j : Int, vs = [.int j] ∧ -(2 ^ 62) ≤ j ∧ j < 2 ^ 62 ∧ R (Itr 0 j.toNat) H1
def iRng2 (ta : TA) : TI := fun σ H R => ta σ H fun vs H1 => ∃ i j : Int, vs = [.int i, .int j] ∧ (-(2 ^ 62) ≤ i ∧ i < 2 ^ 62 ∧ -(2 ^ 62) ≤ j ∧ j < 2 ^ 62) ∧ R (Itr i (j - i).toNat) H1
theorem pi_range1 {a : Expr} {ta : TA} {p pos : Pos} (hg : Gl X "range") (hm : X.mg "range" = none) (ha : PA X [a] ta) (hs : starEach [a] X.env = [(false, eval a X.env)] := by rfl) : PI X tg (.Call (.Name "range" p) [a] [] pos) (iRng1 ta) := by
  intro pins s σ H R I h
  refine Call_ (ld_blt I hg hm boot_range (PyProof.Rows.callWith_type1 (thn (ha pos pins s σ H _ I h) fun us s1 ⟨vs, H1, I1, r1, q1⟩ => ?_) hs rfl))
  obtain ⟨j, e, q1, q2, q⟩ := q1
  subst e
  cases r1 with
  | cons r rr =>
    cases rr
    obtain ⟨t, rfl⟩ := r
    exact call_range_1 (range_it I1 (by omega) (by omega) q1 q2 (by simpa using q))
theorem pi_range2 {a b : Expr} {ta : TA} {p pos : Pos} (hg : Gl X "range") (hm : X.mg "range" = none) (ha : PA X [a, b] ta) (hs : starEach [a, b] X.env = [(false, eval a X.env), (false, eval b X.env)] := by rfl) (hs2 : starEach [b] X.env = [(false, eval b X.env)] := by rfl) :
    PI X tg (.Call (.Name "range" p) [a, b] [] pos) (iRng2 ta) := by
  intro pins s σ H R I h
  refine Call_ (ld_blt I hg hm boot_range (PyProof.Rows.callWith_type1 (thn (ha pos pins s σ H _ I h) fun us s1 ⟨vs, H1, I1, r1, q1⟩ => ?_) (by rw [hs, hs2]) (by rw [hs2]; rfl)))
  obtain ⟨i, j, e, ⟨q1, q2, q3, q4⟩, q⟩ := q1
  subst e
  cases r1 with
  | cons r rr =>
    cases rr with
    | cons r' rr =>
      cases rr
      obtain ⟨t, rfl⟩ := r
      obtain ⟨t', rfl⟩ := r'
      exact call_range_2 (range_it I1 q1 q2 q3 q4 q)

def tFor (wi : TI) (g : TG) (tb : TS) : TS := fun D σ H => wi σ H fun J H1 => ∃ W : Nat → Nat → St → Hp → Prop, (∃ m, W 0 m σ H1) ∧ ∀ i m σ H, W i m σ H →
  (J.stop i H ∧ D.nx σ H) ∨ (J.go i H ∧ ∃ N : St → Hp → Prop, (∀ σ' H', N σ' H' → ∃ m', m' < m ∧ W (i + 1) m' σ' H') ∧ ∀ x H', J.yld i H x H' → g x σ H' fun σ2 H2 => tb { D with nx := N, ct := N, bk := D.nx } σ2 H2)
def pinsAt (fp : List Addr) (h : Heap) : List (Addr × Obj) := fp.filterMap fun b => (h.get? b).map fun o => (b, o)
theorem mem_pinsAt {fp : List Addr} {h : Heap} {b : Addr} {o : Obj} (hb : b ∈ fp) (e : h.get? b = some o) : (b, o) ∈ pinsAt fp h := List.mem_filterMap.mpr ⟨b, hb, by rw [e]; rfl⟩
theorem of_pinsAt {fp : List Addr} {h : Heap} {p : Addr × Obj} (hp : p ∈ pinsAt fp h) : p.1 ∈ fp ∧ h.get? p.1 = some p.2 := by
  obtain ⟨b, hb, e⟩ := List.mem_filterMap.mp hp
  cases q : h.get? b with
  | none => rw [q] at e; cases e
  | some o =>
    rw [q] at e
    have e' : (b, o) = p := Option.some.inj e
    subst e'
    exact ⟨hb, q⟩
theorem Inv.pinned {pins : List (Addr × Obj)} {σ : St} {H : Hp} {s : Shared} {fp : List Addr} (I : Inv X pins σ H s) (hf : ∀ b ∈ fp, FpOk X pins H b) (ho : ∀ b ∈ fp, ∃ o, s.heap.get? b = some o ∧ ∀ v, o.data ≠ .cell v) : Inv X (pins ++ pinsAt fp s.heap) σ H s :=
  I.pins_of fun p hp => (List.mem_append.mp hp).elim (fun z => I.pin p (List.mem_append_right _ z)) fun z => by
    obtain ⟨hb, e⟩ := of_pinsAt z
    obtain ⟨f0, f1, f2, _⟩ := hf p.1 hb
    obtain ⟨o, e', d⟩ := ho p.1 hb
    rw [e] at e'; cases e'
    exact ⟨e, f0, f1, f2, d⟩
theorem Inv.unpinned {pins pl : List (Addr × Obj)} {σ : St} {H : Hp} {s : Shared} (I : Inv X (pins ++ pl) σ H s) : Inv X pins σ H s := I.pins_of fun p hp => I.pin p (List.mem_append_right _ (List.mem_append_left _ hp))
theorem ps_for {iter : Expr} {body : List Stmt} {wi : TI} {g : TG} {tb : TS} {pos : Pos} (hp : PassesOwn (model X.prog X.w) X.A X.env X.xe) (hc : X.calm = true) (hi : PI X tg iter wi) (hg : PG X tg g) (hb : PSs X body tb)
    (hs : ∀ x, foldedSetIterable iter X.env x = pure x := by intro _; rfl) : PS X (.For tg iter body [] pos) (tFor wi g tb) := by
  intro pins s σ H D I h
  refine wpAny_For (thn (hi pins s σ H _ I h) fun v s1 h1 => thn h1 fun itv s2 h2 => ?_) hs
  obtain ⟨it, fp, tn, J, H2, e, I2, T, st2, f2, W, ⟨m0, w0⟩, turn⟩ := h2
  subst e
  -- what stays true of the iterator's objects through the loop
  have stat : ∀ {H' : Hp}, (∀ b ∈ fp, H' b = none) → ∀ b ∈ fp, FpOk X pins H' b := fun hn b hb => ⟨hn b hb, (f2 b hb).2⟩
  refine codeAny_forLoop_any (fun n s' => ∃ i σ' H', Inv X pins σ' H' s' ∧ tn i s'.heap ∧ (∀ b ∈ fp, H' b = none) ∧ W i n σ' H') ?_ m0 ⟨0, σ, H2, I2, st2, fun b hb => (f2 b hb).1, w0⟩
  rintro n s3 ⟨i, σ3, H3, I3, st3, fr3, w3⟩
  rcases turn i n σ3 H3 w3 with ⟨stop, qn⟩ | ⟨go, N, hN, step⟩
  · refine wpAny_passesOwn hp (thn (T.done X rfl rfl rfl hc i pins s3 σ3 H3 X.xe I3 (stat fr3) st3 stop) fun r s4 ⟨hr, I4⟩ => ?_)
    subst hr
    exact wpAny_execs_nil ⟨σ3, H3, I4, qn⟩
  · refine wpAny_passesOwn hp (thn (T.item X rfl rfl rfl hc i pins s3 σ3 H3 X.xe I3 (stat fr3) st3 go) fun r s4 ⟨u, hr, h4⟩ => ?_)
    subst hr
    refine wpAny_passesOwn hp (thn h4 fun _ s5 ⟨x, H5, I5, r5, y5, st5, fr5⟩ => ?_)
    have I5' := I5.pinned (stat fr5) (T.obj _ _ st5)
    refine wpAny_passesOwn hp (thn (hg _ s5 σ3 H5 x u _ I5' r5 (step x H5 y5)) fun _ s6 ⟨σ6, H6, I6, q6⟩ => ?_)
    refine wpAny_passesOwn hp (thn (hb _ s6 σ6 H6 _ I6 q6) fun f s7 q7 => ?_)
    have again : ∀ {σ7 : St} {H7 : Hp}, Inv X (pins ++ pinsAt fp s5.heap) σ7 H7 s7 → N σ7 H7 → ∃ m, m < n ∧ ∃ i σ' H', Inv X pins σ' H' s7 ∧ tn i s7.heap ∧ (∀ b ∈ fp, H' b = none) ∧ W i m σ' H' := fun {σ7 H7} I7 n7 => by
      obtain ⟨m', hm, w7⟩ := hN σ7 H7 n7
      refine ⟨m', hm, i + 1, σ7, H7, I7.unpinned, T.keep _ _ _ st5 fun b hb o e => (I7.pin (b, o) (List.mem_append_right _ (List.mem_append_right _ (mem_pinsAt hb e)))).1, fun b hb => ?_, w7⟩
      obtain ⟨o, e, d⟩ := T.obj _ _ st5 b hb
      exact (I7.pin (b, o) (List.mem_append_right _ (List.mem_append_right _ (mem_pinsAt hb e)))).2.1
    cases f with
    | next => obtain ⟨σ7, H7, I7, n7⟩ := q7; exact again I7 n7
    | cont => obtain ⟨σ7, H7, I7, n7⟩ := q7; exact again I7 n7
    | brk => obtain ⟨σ7, H7, I7, q7⟩ := q7; exact ⟨σ7, H7, I7.unpinned, q7⟩
    | ret v => obtain ⟨x7, σ7, H7, I7, r7, q7⟩ := q7; exact ⟨x7, σ7, H7, I7.unpinned, r7, q7⟩
end

end L2

namespace L2
open PySem PySem.Spec PyProof.Rows

abbrev R2 := V → V → Hp → VK → Prop
def OpR (X : Cx) (f : Value → Value → Sem Value) (r : R2) : Prop :=
  ∀ (pins : List (Addr × Obj)) (s : Shared) (σ : St) (H : Hp) (x y : V) (v u : Value) (Q : VK), Inv X pins σ H s → RelV x v → RelV y u → r x y H Q →
    wpAny (model X.prog X.w) X.A (f v u) (EP X pins σ Q) X.xe s
def UnR (X : Cx) (f : Value → Sem Value) (r : V → Hp → VK → Prop) : Prop :=
  ∀ (pins : List (Addr × Obj)) (s : Shared) (σ : St) (H : Hp) (x : V) (v : Value) (Q : VK), Inv X pins σ H s → RelV x v → r x H Q →
    wpAny (model X.prog X.w) X.A (f v) (EP X pins σ Q) X.xe s
def CallR (X : Cx) (f : Value) (r : List V → Hp → VK → Prop) : Prop :=
  ∀ (pins : List (Addr × Obj)) (s : Shared) (σ : St) (H : Hp) (xs : List V) (us : List Value) (Q : VK), Inv X pins σ H s → Vals xs us → r xs H Q →
    wpAny (model X.prog X.w) X.A (call f us) (EP X pins σ Q) X.xe s
def tOp (r : R2) (ta tb : TE) : TE := fun σ H Q => ta σ H fun x H1 => tb σ H1 fun y H2 => r x y H2 Q
def tUn (r : V → Hp → VK → Prop) (ta : TE) : TE := fun σ H Q => ta σ H fun x H1 => r x H1 Q
def rI (C : Int → Int → Prop) (g : Int → Int → V) : R2 := fun x y H Q => ∃ i j, x = .int i ∧ y = .int j ∧ C i j ∧ Q (g i j) H
def rI0 (g : Int → Int → V) : R2 := fun x y H Q => ∃ i j, x = .int i ∧ y = .int j ∧ Q (g i j) H
def rU (g : Int → V) : V → Hp → VK → Prop := fun x H Q => ∃ i, x = .int i ∧ Q (g i) H

section
variable {X : Cx} {a b c : Expr} {ta tb tc : TE} {pos : Pos}

theorem binT (ha : PE X a ta) (hb : PE X b tb) {pins : List (Addr × Obj)} {s : Shared} {σ : St} {H : Hp} {R : V → V → Hp → Prop} (I : Inv X pins σ H s)
    (h : ta σ H fun x H1 => tb σ H1 fun y H2 => R x y H2) {Q : Value → Shared → Prop} {f : Value → Value → Sem Value}
    (hf : ∀ v u s2 x y H2, Inv X pins σ H2 s2 → RelV x v → RelV y u → R x y H2 → wpAny (model X.prog X.w) X.A (f v u) Q X.xe s2) :
    wpAny (model X.prog X.w) X.A (eval a X.env) (fun v s₁ => wpAny (model X.prog X.w) X.A (eval b X.env) (fun u s₂ => wpAny (model X.prog X.w) X.A (f v u) Q X.xe s₂) X.xe s₁) X.xe s := by
  refine thn (ha pins s σ H _ I h) fun v s1 ⟨x, H1, I1, r1, q1⟩ => ?_
  refine thn (hb pins s1 σ H1 _ I1 q1) fun u s2 ⟨y, H2, I2, r2, q2⟩ => ?_
  exact hf v u s2 x y H2 I2 r1 r2 q2

theorem pe_op {op : Operator} {r : R2} (ho : OpR X (binaryOp op) r) (ha : PE X a ta) (hb : PE X b tb) : PE X (.BinOp a op b pos) (tOp r ta tb) := by
  intro pins s σ H Q I h
  exact wpAny_BinOp (binT ha hb I h fun v u s2 x y H2 I2 rx ry q => ho pins s2 σ H2 x y v u Q I2 rx ry q)
theorem pe_un {op : UnaryOp} {r : V → Hp → VK → Prop} (ho : UnR X (unaryOp op) r) (ha : PE X a ta) : PE X (.UnaryOp op a pos) (tUn r ta) := by
  intro pins s σ H Q I h
  exact UnaryOp_ (thn (ha pins s σ H _ I h) fun v s1 ⟨x, H1, I1, r1, q1⟩ => ho pins s1 σ H1 x v Q I1 r1 q1)
theorem opI {f : Value → Value → Sem Value} {C : Int → Int → Prop} {g : Int → Int → Int}
    (rule : ∀ (i j : Int) (t u : Tok) (s : Shared) (Q : Value → Shared → Prop) (E : Value → Shared → Prop), C i j → Q (.int (g i j) s.toks) { s with toks := s.toks + 1 } → wpAny (model X.prog X.w) X.A (f (.int i t) (.int j u)) Q E s) :
    OpR X f (rI C fun i j => .int (g i j)) := by
  intro pins s σ H x y v u Q I rx ry h
  obtain ⟨i, j, rfl, rfl, hc, q⟩ := h
  obtain ⟨t, rfl⟩ := rx
  obtain ⟨t', rfl⟩ := ry
  exact rule i j t t' s _ _ hc ⟨.int (g i j), H, I.tok _, ⟨_, rfl⟩, q⟩
theorem opI0 {f : Value → Value → Sem Value} {g : Int → Int → Int}
    (rule : ∀ (i j : Int) (t u : Tok) (s : Shared) (Q : Value → Shared → Prop) (E : Value → Shared → Prop), Q (.int (g i j) s.toks) { s with toks := s.toks + 1 } → wpAny (model X.prog X.w) X.A (f (.int i t) (.int j u)) Q E s) :
    OpR X f (rI0 fun i j => .int (g i j)) := by
  intro pins s σ H x y v u Q I rx ry h
  obtain ⟨i, j, rfl, rfl, q⟩ := h
  obtain ⟨t, rfl⟩ := rx
  obtain ⟨t', rfl⟩ := ry
  exact rule i j t t' s _ _ ⟨.int (g i j), H, I.tok _, ⟨_, rfl⟩, q⟩
theorem opB0 {f : Value → Value → Sem Value} {g : Int → Int → Bool}
    (rule : ∀ (i j : Int) (t u : Tok) (s : Shared) (Q : Value → Shared → Prop) (E : Value → Shared → Prop), Q (.bool (g i j)) s → wpAny (model X.prog X.w) X.A (f (.int i t) (.int j u)) Q E s) :
    OpR X f (rI0 fun i j => .bl (g i j)) := by
  intro pins s σ H x y v u Q I rx ry h
  obtain ⟨i, j, rfl, rfl, q⟩ := h
  obtain ⟨t, rfl⟩ := rx
  obtain ⟨t', rfl⟩ := ry
  exact rule i j t t' s _ _ ⟨.bl (g i j), H, I, rfl, q⟩

def CDiv (i j : Int) : Prop := 0 < j ∧ j < 1073741824
def CPow (i j : Int) : Prop := 0 ≤ j ∧ j ≤ 1000000 ∧ i.natAbs < 2 ^ 64
def CMul (i j : Int) : Prop := (-(2 ^ 64) < i ∧ i < 2 ^ 64) ∨ (-(2 ^ 64) < j ∧ j < 2 ^ 64)
theorem CMul.ok {i j : Int} (h : CMul i j) : IntMulOk i j := by
  rcases h with ⟨h1, h2⟩ | ⟨h1, h2⟩
  · exact .of_left (intBits_le_64 h1 h2)
  · exact .of_right (intBits_le_64 h1 h2)
theorem op_add : OpR X (binaryOp .Add) (rI0 fun i j => .int (i + j)) := opI0 fun _ _ _ _ _ _ _ q => add_int q
theorem op_sub : OpR X (binaryOp .Sub) (rI0 fun i j => .int (i - j)) := opI0 fun _ _ _ _ _ _ _ q => sub_int q
theorem op_mul : OpR X (binaryOp .Mult) (rI CMul fun i j => .int (i * j)) := opI fun _ _ _ _ _ _ _ hc q => mul_int q hc.ok
theorem op_fdiv : OpR X (binaryOp .FloorDiv) (rI CDiv fun i j => .int (i / j)) := opI fun i j _ _ _ _ _ hc q => by
  have h1 : (0 : Int) < j := hc.1
  have h2 : j < 1073741824 := hc.2
  exact floordiv_int (by omega) (by rw [Int.fdiv_eq_ediv_of_nonneg i (by omega)]; exact q) (.inl (PyProof.noPylong_small (by omega)))
theorem op_mod : OpR X (binaryOp .Mod) (rI (fun _ j => 0 < j) fun i j => .int (i % j)) := opI fun i j _ _ _ _ _ hc q => by
  have h1 : (0 : Int) < j := hc
  exact mod_int' (by omega) (by rw [Int.fmod_eq_emod_of_nonneg i (by omega)]; exact q)
theorem op_pow : OpR X (binaryOp .Pow) (rI CPow fun i j => .int (i ^ j.toNat)) := opI fun _ _ _ _ _ _ _ hc q => pow_int_small hc.1 hc.2.1 hc.2.2 q
theorem unI {f : Value → Sem Value} {g : Int → Int}
    (rule : ∀ (i : Int) (t : Tok) (s : Shared) (Q : Value → Shared → Prop) (E : Value → Shared → Prop), Q (.int (g i) s.toks) { s with toks := s.toks + 1 } → wpAny (model X.prog X.w) X.A (f (.int i t)) Q E s) :
    UnR X f (rU fun i => .int (g i)) := by
  intro pins s σ H x v Q I rx h
  obtain ⟨i, rfl, q⟩ := h
  obtain ⟨t, rfl⟩ := rx
  exact rule i t s _ _ ⟨.int (g i), H, I.tok _, ⟨_, rfl⟩, q⟩
theorem un_neg : UnR X (unaryOp .USub) (rU fun i => .int (-i)) := unI fun _ _ _ _ _ q => neg_int q
end

def scal : V → V → Bool
  | .non, .non => true | .non, .int _ => true | .int _, .non => true | .non, .bl _ => true | .bl _, .non => true | .non, .str _ => true | .str _, .non => true
  | .int _, .int _ => true | .bl _, .bl _ => true | .str _, .str _ => true | .byt _, .byt _ => true
  | .int _, .str _ => true | .str _, .int _ => true | .bl _, .str _ => true | .str _, .bl _ => true
  | _, _ => false
def rEq : R2 := fun x y H Q => scal x y = true ∧ Q (.bl (decide (x = y))) H
def rNe : R2 := fun x y H Q => scal x y = true ∧ Q (.bl (!decide (x = y))) H

theorem dec_int {i j : Int} : decide (V.int i = V.int j) = (i == j) := by
  rw [Bool.eq_iff_iff]
  simp
theorem dec_bl {i j : Bool} : decide (V.bl i = V.bl j) = (i == j) := by
  rw [Bool.eq_iff_iff]
  simp
theorem dec_str {i j : Str} : decide (V.str i = V.str j) = (i == j) := by
  rw [Bool.eq_iff_iff]
  simp
theorem dec_byt {i j : Array UInt8} : decide (V.byt i = V.byt j) = (i.toList == j.toList) := by
  rw [Bool.eq_iff_iff]
  cases i
  cases j
  simp

section
variable {X : Cx} {a b c : Expr} {ta tb tc : TE} {pos : Pos}
theorem fin_bl {pins : List (Addr × Obj)} {σ : St} {H : Hp} {s : Shared} {Q : VK} {k k' : Bool} (I : Inv X pins σ H s) (q : Q (.bl k) H) (e : k = k') : EP X pins σ Q (.bool k') s := by
  subst e
  exact ⟨.bl k, H, I, rfl, q⟩
theorem op_eq : OpR X (compareOp .Eq) rEq := by
  intro pins s σ H x y v u Q I rx ry h
  obtain ⟨hs, q⟩ := h
  cases x with
  | non =>
    cases rx
    cases y with
    | non => cases ry; exact PySem.EqNone.eq_none_none (fin_bl I q (by simp))
    | bl j => cases ry; exact PySem.EqNone.eq_none_bool (fin_bl I q (by simp))
    | int j => obtain ⟨t', rfl⟩ := ry; exact PySem.EqNone.eq_none_int (fin_bl I q (by simp))
    | str j => obtain ⟨t', rfl⟩ := ry; exact PySem.EqNone.eq_none_str (fin_bl I q (by simp))
    | _ => exact absurd (show false = true from hs) Bool.false_ne_true
  | bl i =>
    cases rx
    cases y with
    | non => cases ry; exact PySem.EqNone.eq_bool_none (fin_bl I q (by simp))
    | bl j => cases ry; exact eq_bool (fin_bl I q dec_bl)
    | str j => obtain ⟨t', rfl⟩ := ry; exact PySem.EqMixed.eq_bool_str (fin_bl I q (by simp))
    | _ => exact absurd (show false = true from hs) Bool.false_ne_true
  | int i =>
    obtain ⟨t, rfl⟩ := rx
    cases y with
    | non => cases ry; exact PySem.EqNone.eq_int_none (fin_bl I q (by simp))
    | int j => obtain ⟨t', rfl⟩ := ry; exact eq_int (fin_bl I q dec_int)
    | str j => obtain ⟨t', rfl⟩ := ry; exact PySem.EqMixed.eq_int_str (fin_bl I q (by simp))
    | _ => exact absurd (show false = true from hs) Bool.false_ne_true
  | str i =>
    obtain ⟨t, rfl⟩ := rx
    cases y with
    | non => cases ry; exact PySem.EqNone.eq_str_none (fin_bl I q (by simp))
    | bl j => cases ry; exact PySem.EqMixed.eq_str_bool (fin_bl I q (by simp))
    | int j => obtain ⟨t', rfl⟩ := ry; exact PySem.EqMixed.eq_str_int (fin_bl I q (by simp))
    | str j => obtain ⟨t', rfl⟩ := ry; exact eq_str (fin_bl I q dec_str)
    | _ => exact absurd (show false = true from hs) Bool.false_ne_true
  | byt i =>
    obtain ⟨t, rfl⟩ := rx
    cases y with
    | byt j => obtain ⟨t', rfl⟩ := ry; exact PySem.W.eq_bytes (fin_bl I q dec_byt)
    | _ => exact absurd (show false = true from hs) Bool.false_ne_true
  | _ => cases y <;> exact absurd (show false = true from hs) Bool.false_ne_true
theorem op_ne : OpR X (compareOp .NotEq) rNe := by
  intro pins s σ H x y v u Q I rx ry h
  obtain ⟨hs, q⟩ := h
  cases x with
  | non =>
    cases rx
    cases y with
    | non => cases ry; exact PySem.EqNone.ne_none_none (fin_bl I q (by simp))
    | bl j => cases ry; exact PySem.EqNone.ne_none_bool (fin_bl I q (by simp))
    | int j => obtain ⟨t', rfl⟩ := ry; exact PySem.EqNone.ne_none_int (fin_bl I q (by simp))
    | str j => obtain ⟨t', rfl⟩ := ry; exact PySem.EqNone.ne_none_str (fin_bl I q (by simp))
    | _ => exact absurd (show false = true from hs) Bool.false_ne_true
  | bl i =>
    cases rx
    cases y with
    | non => cases ry; exact PySem.EqNone.ne_bool_none (fin_bl I q (by simp))
    | bl j => cases ry; exact ne_bool (fin_bl I q (congrArg not dec_bl))
    | str j => obtain ⟨t', rfl⟩ := ry; exact PySem.EqMixed.ne_bool_str (fin_bl I q (by simp))
    | _ => exact absurd (show false = true from hs) Bool.false_ne_true
  | int i =>
    obtain ⟨t, rfl⟩ := rx
    cases y with
    | non => cases ry; exact PySem.EqNone.ne_int_none (fin_bl I q (by simp))
    | int j => obtain ⟨t', rfl⟩ := ry; exact ne_int (fin_bl I q (congrArg not dec_int))
    | str j => obtain ⟨t', rfl⟩ := ry; exact PySem.EqMixed.ne_int_str (fin_bl I q (by simp))
    | _ => exact absurd (show false = true from hs) Bool.false_ne_true
  | str i =>
    obtain ⟨t, rfl⟩ := rx
    cases y with
    | non => cases ry; exact PySem.EqNone.ne_str_none (fin_bl I q (by simp))
    | bl j => cases ry; exact PySem.EqMixed.ne_str_bool (fin_bl I q (by simp))
    | int j => obtain ⟨t', rfl⟩ := ry; exact PySem.EqMixed.ne_str_int (fin_bl I q (by simp))
    | str j => obtain ⟨t', rfl⟩ := ry; exact ne_str (fin_bl I q (congrArg not dec_str))
    | _ => exact absurd (show false = true from hs) Bool.false_ne_true
  | byt i =>
    obtain ⟨t, rfl⟩ := rx
    cases y with
    | byt j => obtain ⟨t', rfl⟩ := ry; exact PySem.W.ne_bytes (fin_bl I q (congrArg not dec_byt))
    | _ => exact absurd (show false = true from hs) Bool.false_ne_true
  | _ => cases y <;> exact absurd (show false = true from hs) Bool.false_ne_true

theorem op_lt : OpR X (compareOp .Lt) (rI0 fun i j => .bl (decide (i < j))) := opB0 fun _ _ _ _ _ _ _ q => lt_int q
theorem op_le : OpR X (compareOp .LtE) (rI0 fun i j => .bl (decide (i ≤ j))) := opB0 fun _ _ _ _ _ _ _ q => le_int q
theorem op_gt : OpR X (compareOp .Gt) (rI0 fun i j => .bl (decide (j < i))) := opB0 fun _ _ _ _ _ _ _ q => gt_int q
theorem op_ge : OpR X (compareOp .GtE) (rI0 fun i j => .bl (decide (j ≤ i))) := opB0 fun _ _ _ _ _ _ _ q => ge_int q
theorem nomark (b : Expr) {op : CmpOp} (h : op ≠ .In := by decide) (h2 : op ≠ .NotIn := by decide) : behindInMarks op b = false := by
  have e1 : (op == CmpOp.In) = false := by cases op <;> first | rfl | exact absurd rfl h
  have e2 : (op == CmpOp.NotIn) = false := by cases op <;> first | rfl | exact absurd rfl h2
  cases b <;> simp [behindInMarks, e1, e2]
theorem pe_cmpR {op : CmpOp} {r : R2} (ho : OpR X (compareOp op) r) (ha : PE X a ta) (hb : PE X b tb) (hm : behindInMarks op b = false) : PE X (.Compare a [op] [b] pos) (tOp r ta tb) := by
  intro pins s σ H Q I h
  exact wpAny_Compare1 (binT ha hb I h fun v u s2 x y H2 I2 rx ry q => ho pins s2 σ H2 x y v u Q I2 rx ry q) hm
def tTest (t : TE) : TT := fun σ H Q => t σ H fun x H' => ∃ k, x = .bl k ∧ Q k H'
theorem pt_cmpR {op : CmpOp} {r : R2} (ho : OpR X (compareOp op) r) (ha : PE X a ta) (hb : PE X b tb) (hm : behindInMarks op b = false) : PT X (.Compare a [op] [b] pos) (tTest (tOp r ta tb)) := by
  intro pins s σ H Q I h
  refine wpAny_isTrue_Compare1 (thn (ha pins s σ H _ I h) fun v s1 ⟨x, H1, I1, r1, q1⟩ => thn (hb pins s1 σ H1 _ I1 q1) fun u s2 ⟨y, H2, I2, r2, q2⟩ =>
    thn (ho pins s2 σ H2 x y v u _ I2 r1 r2 q2) fun c s3 ⟨z, H3, I3, r3, k, e, q3⟩ => ?_) hm
  subst e
  cases r3
  exact wpAny_truthy_bool ⟨H3, I3, q3⟩
def tChain (r r' : R2) (ta tb tc : TE) : TE := fun σ H Q => ta σ H fun x H1 => tb σ H1 fun y H2 => r x y H2 fun z H3 => ∃ k, z = .bl k ∧
  (if k = true then tc σ H3 fun w' H4 => r' y w' H4 Q else Q (.bl false) H3)
theorem pe_chain {op op' : CmpOp} {r r' : R2} (ho : OpR X (compareOp op) r) (ho' : OpR X (compareOp op') r') (ha : PE X a ta) (hb : PE X b tb) (hc : PE X c tc)
    (hm : lastMarks [op, op'] [b, c] = false := by with_unfolding_all rfl) : PE X (.Compare a [op, op'] [b, c] pos) (tChain r r' ta tb tc) := by
  intro pins s σ H Q I h
  refine Compare_chain (thn (ha pins s σ H _ I h) fun v s1 ⟨x, H1, I1, r1, q1⟩ => chain_link (thn (hb pins s1 σ H1 _ I1 q1) fun u s2 ⟨y, H2, I2, r2, q2⟩ =>
    thn (ho pins s2 σ H2 x y v u _ I2 r1 r2 q2) fun d s3 ⟨z, H3, I3, r3, k, e, q3⟩ => ?_)) hm
  subst e
  cases r3
  refine wpAny_truthy_bool ?_
  cases k with
  | false => exact ite_ff ⟨.bl false, H3, I3, rfl, q3⟩
  | true => exact ite_tt (chain_last (thn (hc pins s3 σ H3 _ I3 q3) fun w' s4 ⟨z', H4, I4, r4, q4⟩ => ho' pins s4 σ H4 y z' u w' Q I4 r2 r4 q4))
theorem line63 : (sizeLine : Nat) < 2 ^ 63 := by rw [sizeLine_eq]; decide
theorem vals1 {x : V} {us : List Value} (r : Vals [x] us) : ∃ u, us = [u] ∧ RelV x u := by
  cases r with
  | cons r1 r2 => cases r2; exact ⟨_, rfl, r1⟩
theorem vals2 {x y : V} {us : List Value} (r : Vals [x, y] us) : ∃ u w', us = [u, w'] ∧ RelV x u ∧ RelV y w' := by
  cases r with
  | cons r1 r2 =>
    cases r2 with
    | cons r3 r4 => cases r4; exact ⟨_, _, rfl, r1, r3⟩
theorem call_int1 : CallR X (.type "int") (fun xs H Q => (∃ i, xs = [.int i] ∧ Q (.int i) H) ∨ ∃ k, xs = [.bl k] ∧ Q (.int (if k then 1 else 0)) H) := by
  intro pins s σ H xs us Q I r h
  rcases h with ⟨i, rfl, q⟩ | ⟨k, rfl, q⟩
  · obtain ⟨u, rfl, t, rfl⟩ := vals1 r
    exact call_int_int ⟨.int i, H, I, ⟨_, rfl⟩, q⟩
  · obtain ⟨u, rfl, r1⟩ := vals1 r
    cases r1
    exact call_int_bool ⟨.int (if k then 1 else 0), H, I.tok _, ⟨_, rfl⟩, q⟩
end
end L2

namespace L2
open PySem PySem.Spec PyProof.Rows

structure ObjM (h : Heap) (x dx C : Addr) (mA : Str → Option Value) : Prop where
  obj : h.get? x = some (PySem.W.instObj C dx)
  ns : h.Ns1 dx mA
  ne : dx ≠ x

theorem lookIn_ns {h : Heap} {dx : Addr} {mA : Str → Option Value} (n : h.Ns1 dx mA) : ∃ od, h.get? dx = some od ∧ ∀ name, PySem.W.lookIn name od = some (mA name) := by
  obtain ⟨o, es, ep, ho, hd, hk, _, hm⟩ := n
  refine ⟨o, ho, fun name => ?_⟩
  have e := hm name
  unfold nsFind findBy at e
  rw [← Array.find?_toList] at e
  unfold PySem.W.lookIn
  rw [hd]
  dsimp only
  split
  · rename_i y q
    rw [q] at e
    exact congrArg some e
  · rename_i q
    rw [q] at e
    have a : es.toList.any (·.refKey) = false := by
      rw [List.any_eq_false]
      intro y hy
      obtain ⟨z, t, hkey⟩ := hk y (Array.mem_toList_iff.mp hy)
      simp [DictEntry.refKey, hkey]
    have a' : ¬ es.toList.any (·.refKey) = true := by rw [a]; exact Bool.false_ne_true
    rw [if_neg a']
    exact congrArg some e

theorem ObjM.look {h : Heap} {x dx C : Addr} {mA : Str → Option Value} (I : ObjM h x dx C mA) : ∃ od, PySem.W.InstAt h x (PySem.W.instObj C dx) C (some od) ∧ ∀ name, PySem.W.lookIn name od = some (mA name) :=
  let ⟨od, ho, hl⟩ := lookIn_ns I.ns
  ⟨od, ⟨I.obj, rfl, rfl, ho⟩, hl⟩

section
variable {prog : Program} {w : World} {A : Around} {E : Value → Shared → Prop} {s : Shared} {K : PySem.W.Frag} {x dx C f : Addr} {mA : Str → Option Value} {name : Str} {v : Value}

end

section
variable {P : Program} {w : World} {H H' : Hp} {h h' : Heap} {a C dx : Addr} {fs fs' : List (Str × V)}
theorem ins_get (hok : HOk P w H h) (e : H a = some (.ins C dx fs)) : ∃ mA, ObjM h a dx C mA ∧ (∀ f, RelO (fs.lookup f) (mA f)) ∧ PySem.Within mA (fs.map (·.1)) ∧ fs.length ≤ 1000 ∧ H dx = some (.own a) := by
  obtain ⟨d, z, ne, ob, mA, n, r, q⟩ := (show ObjOk P w H h a (.ins C dx fs) from hok a _ e)
  exact ⟨mA, ⟨ob, n, ne⟩, r, q, z, d⟩
end

structure Cls (K : PySem.W.Frag) (C : Addr) : Prop where
  pg : PySem.W.plainGet K C Str.empty = true
  hd : PySem.W.hasDictIn K C = true
  po : PySem.W.plainOver K C = true
  sa : PySem.W.findIn K (.ref C) "__setattr__" = some (some (.builtin "object.__setattr__"))
theorem Cls.get {K : PySem.W.Frag} {C : Addr} (c : Cls K C) (f : Str) : PySem.W.plainGet K C f = true := c.pg
section
variable {X : Cx} {pins : List (Addr × Obj)} {σ : St} {H : Hp} {s : Shared} {a C dx : Addr} {fs : List (Str × V)} {f : Str} {v : V} {A : Around} {E : Value → Shared → Prop}

end

section
variable {X : Cx} {o e value : Expr} {f : Str} {pos pos' tpos : Pos} {ta tv : TE}
end

section
variable {X : Cx} {pins : List (Addr × Obj)} {σ : St} {H : Hp} {s : Shared} {A : Around} {E : Value → Shared → Prop} {Q : Value → Shared → Prop} {c : Value} {b : Bool}
inductive TyOf (K : PySem.W.Frag) (H : Hp) : V → Value → Prop where
  | non : TyOf K H .non (.type "NoneType")
  | bl (x : Bool) : TyOf K H (.bl x) (.type "bool")
  | int (i : Int) : TyOf K H (.int i) (.type "int")
  | str (x : Str) : TyOf K H (.str x) (.type "str")
  | flt (x : UInt64) : TyOf K H (.flt x) (.type "float")
  | lst {a : Addr} {xs : List V} (e : H a = some (.lst xs)) : TyOf K H (.ref a) (.type "list")
  | frz {a : Addr} {o : Obj} {xs : List V} (e : H a = some (.frz o (.lst xs))) : TyOf K H (.ref a) (.type "list")
  | tup {a : Addr} {xs : List V} (e : H a = some (.tup xs)) : TyOf K H (.ref a) (.type "tuple")
  | dK {a : Addr} {kvs : List (Key × V)} (e : H a = some (.dK kvs)) : TyOf K H (.ref a) (.type "dict")
  | dT {a : Addr} {kvs : List (List Key × V)} (e : H a = some (.dT kvs)) : TyOf K H (.ref a) (.type "dict")
  | ins {a C dx : Addr} {fs : List (Str × V)} (e : H a = some (.ins C dx fs)) (cl : Cls K C) (ha : PySem.W.findIn K (.ref C) "__class__" = some (some (.builtin "object.__class__")))
      (hn : PySem.W.specialIn K (.builtin "object.__class__") "__get__" = some (some (.builtin "getset_descriptor.__get__"))) (htk : PySem.W.takesIn K (.builtin "object.__class__") = some true)
      (hm : PySem.W.mroIn K C (.type "object") = some true) : TyOf K H (.ref a) (.ref C)
theorem isinst_ok {x : V} {u t : Value} (I : Inv X pins σ H s) (rx : RelV x u) (ty : TyOf X.K H x t) (e : PySem.W.kitOne X.K t c = some b) (h : ∀ tk, Q (.bool b) { s with toks := tk }) :
    wpAny (model X.prog X.w) A (call (.builtin "isinstance") [u, c]) Q E s := by
  cases ty with
  | non => cases (show u = Value.none from rx); exact PySem.W.kia_one PySem.W.kitx_none I.kIn True.intro e (fun z => nomatch z) h
  | bl y => cases (show u = Value.bool y from rx); exact PySem.W.kia_one PySem.W.kitx_bool I.kIn True.intro e (fun z => nomatch z) h
  | int i => obtain ⟨t, q⟩ := (show ∃ t, u = Value.int i t from rx); cases q; exact PySem.W.kia_one PySem.W.kitx_int I.kIn True.intro e (fun z => nomatch z) h
  | str y => obtain ⟨t, q⟩ := (show ∃ t, u = Value.str y t from rx); cases q; exact PySem.W.kia_one PySem.W.kitx_str I.kIn True.intro e (fun z => nomatch z) h
  | flt y => obtain ⟨t, q⟩ := (show ∃ t, u = Value.float y t from rx); cases q; exact PySem.W.kia_one PySem.W.kitx_float I.kIn True.intro e (fun z => nomatch z) h
  | @lst a xs ea =>
    cases (show u = Value.ref a from rx)
    obtain ⟨_, _, n, _, h1⟩ := (show ObjOk X.prog X.w H s.heap a (.lst xs) from I.hok a _ ea)
    exact PySem.W.kia_one PySem.W.kitx_list I.kIn ⟨_, h1, rfl⟩ e (fun z => nomatch z) h
  | @frz a ob xs ea =>
    cases (show u = Value.ref a from rx)
    obtain ⟨_, _, _, n, _, h1⟩ := (show ObjOk X.prog X.w H s.heap a (.frz ob (.lst xs)) from I.hok a _ ea)
    exact PySem.W.kia_one PySem.W.kitx_list I.kIn ⟨_, h1, rfl⟩ e (fun z => nomatch z) h
  | @tup a xs ea =>
    cases (show u = Value.ref a from rx)
    obtain ⟨_, _, _, p⟩ := (show ObjOk X.prog X.w H s.heap a (.tup xs) from I.hok a _ ea)
    obtain ⟨o, h1, h2, _⟩ := p
    exact PySem.W.kia_one PySem.W.kitx_tuple I.kIn ⟨o, h1, h2⟩ e (fun z => nomatch z) h
  | @dK a kvs ea =>
    cases (show u = Value.ref a from rx)
    obtain ⟨_, _, vs, _, p⟩ := (show ObjOk X.prog X.w H s.heap a (.dK kvs) from I.hok a _ ea)
    obtain ⟨o, es, ep, h1, h2, _⟩ := p
    exact PySem.W.kia_one PySem.W.kitx_dict I.kIn ⟨o, h1, h2.1⟩ e (fun z => nomatch z) h
  | @dT a kvs ea =>
    cases (show u = Value.ref a from rx)
    obtain ⟨_, _, xs, _, o, es, ep, h1, h2, _⟩ := (show ObjOk X.prog X.w H s.heap a (.dT kvs) from I.hok a _ ea)
    exact PySem.W.kia_one PySem.W.kitx_dict I.kIn ⟨o, h1, h2.1⟩ e (fun z => nomatch z) h
  | @ins a C dx fs ea cl ha hn htk hm =>
    cases (show u = Value.ref a from rx)
    obtain ⟨mA, O, _⟩ := ins_get I.hok ea
    obtain ⟨od, J, _⟩ := O.look
    exact PySem.W.kia_one (PySem.W.kitx_own (cl.get _) cl.hd ha hn htk hm) I.kIn J e (fun z => nomatch z) h
end
end L2

namespace L2
open PySem PySem.Spec PyProof.Rows

structure Room (k : Nat) (A : Around) : Prop where
  hd : A.handled = none
  dp : A.depth + 3 * k + 5 < recursionLimit
  un : A.units + 16 * k + 200 < cLine
theorem Room.mono {j k : Nat} {A : Around} (r : Room k A) (h : j ≤ k) : Room j A := ⟨r.hd, by have := r.dp; omega, by have := r.un; omega⟩
theorem Room.deeper {k : Nat} {A : Around} (r : Room (k + 1) A) (env : Env) : Room k (A.deeper env) :=
  ⟨r.hd, by have := r.dp; show A.depth + 1 + 3 * k + 5 < _; omega, by have := r.un; show A.units + 3 + 16 * k + 200 < _; omega⟩
theorem Room.depth {k : Nat} {A : Around} (r : Room k A) : A.depth < recursionLimit := by have := r.dp; omega
theorem Room.units {k : Nat} {A : Around} (r : Room k A) : A.units + 64 < cLine := by have := r.un; omega
def tNil : TA := fun _ H Q => Q [] H
def tCons (ta : TE) (tr : TA) : TA := fun σ H Q => ta σ H fun x H1 => tr σ H1 fun xs H2 => Q (x :: xs) H2
section
variable {X : Cx} {e : Expr} {es : List Expr} {te : TE} {t : TA} {pos : Pos}
theorem pa_nil : PA X [] tNil := fun _ _ _ _ H Q I h => Calls.spliced_nil ⟨[], H, I, .nil, h⟩
theorem pa_cons (ha : PE X e te) (hr : PA X es t) (hs : starEach (e :: es) X.env = (false, eval e X.env) :: starEach es X.env := by rfl) : PA X (e :: es) (tCons te t) := by
  intro pos pins s σ H Q I h
  rw [hs]
  show wpAny _ _ (spliced ((false, eval e X.env) :: backTo pos (starEach es X.env))) _ _ s
  refine Calls.spliced_cons (thn (ha pins s σ H _ I h) fun u s1 ⟨x, H1, I1, r1, q1⟩ => ?_)
  exact thn (hr pos pins s1 σ H1 _ I1 q1) fun us s2 ⟨xs, H2, I2, r2, q2⟩ => ⟨x :: xs, H2, I2, .cons r1 r2, q2⟩

def tTup (t : TA) : TE := fun σ H Q => t σ H fun xs H1 => xs.length ≤ sizeLine ∧ ∀ p, H1 p = none → Q (.ref p) (upd H1 p (.tup xs))
def tLst (t : TA) : TE := fun σ H Q => t σ H fun xs H1 => xs.length ≤ sizeLine ∧ ∀ p, H1 p = none → Q (.ref p) (upd H1 p (.lst xs))
theorem pe_tup {x1} (h : PA X es t) : PE X (.Tuple es x1 pos) (tTup t) := by
  intro pins s σ H Q I hq
  refine wpAny_Tuple_spliced (thn (h pos pins s σ H _ I hq) fun us s1 ⟨xs, H1, I1, r, z, q⟩ => ⟨by rw [← r.length]; exact z, ?_⟩)
  have hf : H1 s1.heap.objs.size = none := I1.hok.fresh (Nat.le_refl _)
  refine ⟨.ref s1.heap.objs.size, upd H1 s1.heap.objs.size (.tup xs), I1.laid (t' := s1.toks) (fun b u e => Heap.get?_push_of_some _ e) (Nat.le_refl _) ?_, rfl, q _ hf⟩
  exact ⟨z, us, r, ⟨_, Heap.get?_push_size _ rfl, rfl, _, rfl⟩⟩
theorem pe_lst (h : PA X es t) : PE X (.List es pos) (tLst t) := by
  intro pins s σ H Q I hq
  refine wpAny_List_spliced (thn (h pos pins s σ H _ I hq) fun us s1 ⟨xs, H1, I1, r, z, q⟩ => ⟨by rw [← r.length]; exact z, ?_⟩)
  have hf : H1 s1.heap.objs.size = none := I1.hok.fresh (Nat.le_refl _)
  refine ⟨.ref s1.heap.objs.size, upd H1 s1.heap.objs.size (.lst xs), I1.laid (t' := s1.toks) (fun b u e => Heap.get?_push_of_some _ e) (Nat.le_refl _) ?_, rfl, q _ hf⟩
  exact ⟨z, us, 0, r, Heap.get?_push_size _ rfl⟩
end

abbrev Sp := List V → Hp → VK → XK → Prop
abbrev CXT := List Env → Hp → Shared → XK → Value → Shared → Prop

structure Env0 (P : Program) (w : World) (K : PySem.W.Frag) (mg : Str → Option Value) (base : Heap) (A : Around) (outer : List Env) (s : Shared) (H : Hp) : Prop where
  frames : A.frames = some outer
  mod : Mod K mg base
  bs : ∀ b o, base.get? b = some o → s.heap.get? b = some o ∧ H b = none
  bsz : base.objs.size ≤ s.heap.objs.size
  funs : s.heap.FunFrames base outer
  frf : ∀ b ∈ frs outer, H b = none
  hok : HOk P w H s.heap
  bare : AllBare s.gens
def CE (outer : List Env) (P : Program) (w : World) (H : Hp) (s : Shared) (Q : VK) (u : Value) (s' : Shared) : Prop :=
  ∃ v H', s'.os = s.os ∧ AllBare s'.gens ∧ Un (frs outer) [] H H' s.heap s'.heap ∧ HOk P w H' s'.heap ∧ RelV v u ∧ Q v H'
def CR (CX : CXT) (outer : List Env) (P : Program) (w : World) (H : Hp) (s : Shared) (Q : VK) (E : XK) (r : Result) (s' : Shared) : Prop :=
  match r with
  | .ok (.ret u) => CE outer P w H s Q u s'
  | .ok _ => False
  | .error e => CX outer H s E e s'
structure FnOk (P : Program) (w : World) (K : PySem.W.Frag) (mg : Str → Option Value) (base : Heap) (CX : CXT) (k : Nat) (f : Addr) (fd : FuncData) (ps : List Str) (sp : Sp) : Prop where
  len : ∀ vs H Q E, sp vs H Q E → vs.length = ps.length
  run : ∀ (A : Around) (outer : List Env) (s : Shared) (H : Hp) (args : Args) (us : List Value) (vs : List V) (Q : VK) (E : XK), Room k A → Env0 P w K mg base A outer s H → BindsTo s fd args (ps.zip us) → Vals vs us → sp vs H Q E →
    codeAny (model P w) A (.call (.ref f) args) (CR CX outer P w H s Q E) s
section
variable {X : Cx} {pins : List (Addr × Obj)} {σ : St} {H : Hp} {s s' : Shared}
theorem Inv.env0 (I : Inv X pins σ H s) : Env0 X.prog X.w X.K X.mg X.base X.A X.stack s H :=
  ⟨I.ok.frames, I.ok.mod, I.bs, Nat.le_trans I.ok.bsz I.sz, I.stack, I.stkFree, I.hok, I.bare⟩
theorem Inv.after {Q : VK} {u : Value} (I : Inv X pins σ H s) (h : CE X.stack X.prog X.w H s Q u s') : EP X pins σ Q u s' := by
  obtain ⟨v, H', os, bare, un, hok, r, q⟩ := h
  obtain ⟨hh, g, d, t, os'⟩ := s'
  obtain rfl : os' = s.os := os
  exact ⟨v, H', I.call (h' := hh) (g' := g) (d' := d) (t' := t) (ch := []) un hok bare (fun b z => absurd z (by simp)), r, q⟩
end

def tCall (sp : Sp) (dvs : List V) (E : XK) (t : TA) : TE := fun σ H Q => t σ H fun vs H1 => sp (vs ++ dvs) H1 Q E
def Binds (K : PySem.W.Frag) (fd : FuncData) (ps : List Str) (ds : List Value) : Prop :=
  ∀ (s : Shared) (us : List Value), K.In s.heap → (us ++ ds).length = ps.length → BindsTo s fd ⟨us, []⟩ (ps.zip (us ++ ds))
theorem Binds.all {K : PySem.W.Frag} {fd : FuncData} {ps : List Str} (h : ∀ us : List Value, us.length = ps.length → bindArgs fd ⟨us, []⟩ = pure (ps.zip us)) : Binds K fd ps [] := fun s us _ hl => by
  rw [List.append_nil] at hl ⊢
  exact .of_eq (h us hl)

def Passes (CX : CXT) (X : Cx) (E : XK) : Prop := ∀ (pins : List (Addr × Obj)) (σ : St) (H : Hp) (s : Shared) (e : Value) (s' : Shared), Inv X pins σ H s → CX X.stack H s E e s' → X.xe e s'

section
variable {X : Cx} {CX : CXT} {k : Nat} {f C : Addr} {fd : FuncData} {ps : List Str} {sp : Sp} {dvs : List V} {ds : List Value} {E : XK} {x m : Str} {p pos apos : Pos} {e o : Expr} {es : List Expr} {ta : TE} {t : TA}

theorem run_fn {pins : List (Addr × Obj)} {σ : St} {H : Hp} {s : Shared} {Q : VK} {us : List Value} {vs : List V} (F : FnOk X.prog X.w X.K X.mg X.base CX k f fd ps sp) (hr : Room k X.A) (hb : Binds X.K fd ps ds) (hd : Vals dvs ds) (hx : Passes CX X E)
    (I : Inv X pins σ H s) (r : Vals vs us) (h : sp (vs ++ dvs) H Q E) : wpAny (model X.prog X.w) X.A (call (.ref f) us) (EP X pins σ Q) X.xe s := by
  have r2 : Vals (vs ++ dvs) (us ++ ds) := r.append hd
  have hl : (us ++ ds).length = ps.length := by rw [← r2.length]; exact F.len _ _ _ _ h
  refine wpAny_call (codeAny_mono (F.run X.A X.stack s H ⟨us, []⟩ (us ++ ds) (vs ++ dvs) Q E hr I.env0 (hb s us I.kIn hl) r2 h) fun r s' hq => ?_)
  cases r with
  | error e => exact hx pins σ H s e s' I hq
  | ok fl =>
    cases fl with
    | ret u => exact I.after hq
    | next => exact False.elim hq
    | brk => exact False.elim hq
    | cont => exact False.elim hq

theorem pe_call (F : FnOk X.prog X.w X.K X.mg X.base CX k f fd ps sp) (hr : Room k X.A) (hg : Gl X x) (hm : X.mg x = some (.ref f)) (hk : PySem.W.keepIn X.K (.ref f) = true) (hb : Binds X.K fd ps ds) (hd : Vals dvs ds) (hx : Passes CX X E)
    (ha : PA X (e :: es) t) (hdb : (x == ("__debug__" : Str)) = false := by decide) (he : starEach (e :: es) X.env = (false, eval e X.env) :: starEach es X.env := by rfl) (hpl : (backTo pos (starEach es X.env)).any (·.1) = false := by rfl) :
    PE X (.Call (.Name x p) (e :: es) [] pos) (tCall sp dvs E t) := by
  intro pins s σ H Q I h
  refine wpAny_Call_Name_kw (ld_glob I hg hm ?_ hdb)
  refine PySem.W.callWith_K (h₀ := X.base) I.ok.mod.kin hk (thn (ha pos pins s σ H _ I h) fun us s1 ⟨vs, H1, I1, r, q⟩ => ⟨I1.kIn, ?_⟩) he hpl
  exact run_fn F hr hb hd hx I1 r q
end

section
variable {X : Cx} {CX : CXT} {k : Nat} {f C : Addr} {fd : FuncData} {ps ks : List Str} {sp : Sp} {E : XK} {x m : Str} {p pos apos kpos : Pos} {e o : Expr} {es : List Expr} {kws : List Keyword} {te ta : TE} {t tk : TA} {nm : Option Str}
variable {g : List Value → List Value → List Value} {gV : List V → List V → List V}
end

structure FnScope (N P : List Str) (sc : Scope) : Prop where
  kind : sc.kind = .function
  co : sc.isCoroutine = false
  gen : sc.isGenerator = false
  nd : N.Nodup
  pre : N.take P.length = P
  par : ∀ x ∈ P, sc.names.lookup x = some .local ∨ sc.names.lookup x = some .cell
  nofree : ∀ y ∈ sc.names, y.2 ≠ .free

theorem bindL_out {kindOf : Str → Option NameKind} {x : Str} : ∀ {binds : List (Str × Value)} {m : Str → Option Value}, (∀ v, (x, v) ∉ binds) → bindL kindOf binds m x = m x
  | [], _, _ => rfl
  | (n, v) :: r, m, h => by
    unfold bindL
    rw [bindL_out fun w hw => h w (List.mem_cons_of_mem _ hw)]
    split
    · have : x ≠ n := by rintro rfl; exact h v List.mem_cons_self
      simp [this]
    · rfl
theorem bindC_out {kindOf : Str → Option NameKind} {x : Str} : ∀ {binds : List (Str × Value)} {m : Str → Option Value}, (∀ v, (x, v) ∉ binds) → bindC kindOf binds m x = m x
  | [], _, _ => rfl
  | (n, v) :: r, m, h => by
    unfold bindC
    rw [bindC_out fun w hw => h w (List.mem_cons_of_mem _ hw)]
    split
    · rfl
    · have : x ≠ n := by rintro rfl; exact h v List.mem_cons_self
      simp [this]
theorem bindL_get {kindOf : Str → Option NameKind} {x : Str} {v : Value} : ∀ {P : List Str} {vs : List Value} {i : Nat} {m : Str → Option Value}, P.Nodup → P[i]? = some x → vs[i]? = some v → kindOf x = some .local →
    bindL kindOf (P.zip vs) m x = some v
  | [], _, _, _, _, h, _, _ => by simp at h
  | _ :: _, [], _, _, _, _, h, _ => by simp at h
  | p :: P, w :: vs, 0, m, nd, h1, h2, hk => by
    simp at h1 h2; subst h1; subst h2
    show bindL kindOf ((p, w) :: P.zip vs) m p = _
    unfold bindL
    rw [bindL_out fun v hv => (List.nodup_cons.mp nd).1 (List.of_mem_zip hv).1, if_pos hk]
    simp
  | p :: P, w :: vs, i + 1, m, nd, h1, h2, hk => by
    show bindL kindOf ((p, w) :: P.zip vs) m x = _
    unfold bindL
    exact bindL_get (i := i) (List.nodup_cons.mp nd).2 (by simpa using h1) (by simpa using h2) hk
theorem bindC_get {kindOf : Str → Option NameKind} {x : Str} {v : Value} : ∀ {P : List Str} {vs : List Value} {i : Nat} {m : Str → Option Value}, P.Nodup → P[i]? = some x → vs[i]? = some v → kindOf x ≠ some .local →
    bindC kindOf (P.zip vs) m x = some v
  | [], _, _, _, _, h, _, _ => by simp at h
  | _ :: _, [], _, _, _, _, h, _ => by simp at h
  | p :: P, w :: vs, 0, m, nd, h1, h2, hk => by
    simp at h1 h2; subst h1; subst h2
    show bindC kindOf ((p, w) :: P.zip vs) m p = _
    unfold bindC
    rw [bindC_out fun v hv => (List.nodup_cons.mp nd).1 (List.of_mem_zip hv).1, if_neg hk]
    simp
  | p :: P, w :: vs, i + 1, m, nd, h1, h2, hk => by
    show bindC kindOf ((p, w) :: P.zip vs) m x = _
    unfold bindC
    exact bindC_get (i := i) (List.nodup_cons.mp nd).2 (by simpa using h1) (by simpa using h2) hk

def start (N : List Str) (vs : List V) : St := vs.map some ++ List.replicate (N.length - vs.length) none

def cxOf (CX : CXT) (P : Program) (w : World) (K : PySem.W.Frag) (mg : Str → Option Value) (base : Heap) (N : List Str) (qual : Str) (scope : Scope) (f : Addr) (cd : Value) (A : Around) (outer : List Env) (s : Shared) (H : Hp) (E : XK) : Cx where
  prog := P
  w := w
  K := K
  mg := mg
  base := base
  A := A.deeper (envOfC qual scope s.heap.objs.size f cd)
  N := N
  s₀ := s
  H₀ := H
  env := envOfC qual scope s.heap.objs.size f cd
  outer := outer
  stack := envOfC qual scope s.heap.objs.size f cd :: outer
  ex := []
  calm := true
  fn := fun _ => true
  pn := []
  xe := fun e s' => wpAny (model P w) (A.deeper (envOfC qual scope s.heap.objs.size f cd)) (leaving (envOfC qual scope s.heap.objs.size f cd) e) (fun _ s'' => CX outer H s E e s'') (fun e' s'' => CX outer H s E e' s'') s'

theorem cell_has {sc : Scope} {n : Nat} {x : Str} (h : sc.names.lookup x = some .cell) : ∃ c, (cellsFrom n sc.names []).lookup x = some c := by
  have q := PySem.W.cellsFrom_some sc.names n [] (.inl h)
  exact Option.isSome_iff_exists.mp q

theorem inv_start {CX : CXT} {P : Program} {w : World} {K : PySem.W.Frag} {mg : Str → Option Value} {base : Heap} {N ps : List Str} {qual : Str} {scope : Scope} {f : Addr} {cd : Value} {A : Around} {outer : List Env} {s s1 : Shared} {H : Hp} {E : XK} {us : List Value} {vs : List V}
    (S : FnScope N ps scope) (hd : A.handled = none) (e0 : Env0 P w K mg base A outer s H) (hl : vs.length = ps.length) (r : Vals vs us)
    (x : InCallC s s.heap.objs.size (bindL (envOfC qual scope s.heap.objs.size f cd).kindOf (ps.zip us) fun _ => none) (cellsFrom (s.heap.objs.size + 1) scope.names []) (bindC (envOfC qual scope s.heap.objs.size f cd).kindOf (ps.zip us) fun _ => none) s1) :
    Inv (cxOf CX P w K mg base N qual scope f cd A outer s H E) [] (start N vs) H s1 := by
  have hpl : ps.length ≤ N.length := by have := congrArg List.length S.pre; rw [List.length_take] at this; omega
  obtain ⟨h1, tk, rfl, hk⟩ := x.done
  have noA : ∀ b : Addr, b ∉ (cxOf CX P w K mg base N qual scope f cd A outer s H E).ex := fun b z => absurd (show b ∈ ([] : List Addr) from z) (by simp)
  refine ⟨⟨e0.mod, S.kind, rfl, rfl, Nat.le_refl _, fun y z c h1 h2 => ?_, fun y hy => ?_, fun y c _ h => ?_, fun _ => hd, Around.frames_deeper e0.frames, .inr ⟨rfl, rfl⟩, fun b z => absurd z (noA b), e0.bs, e0.bsz, fun b _ _ => noA b, fun b z => absurd z (noA b), e0.funs, e0.frf⟩,
    rfl, e0.bare, Un.kept hk, ⟨_, x.toInCall.ns, fun i y v h1 h2 h3 => ?_⟩, fun y c h => ⟨_, x.cell y c h⟩, e0.hok.fresh (Nat.le_refl _), fun y c h => ?_, fun p hp => absurd (show p ∈ ([] : List (Addr × Obj)) from hp) (by simp), e0.hok.kept hk, ?_⟩
  · exact name_of_addr x.apart (PySem.mem_of_lookup h1) (PySem.mem_of_lookup h2)
  · have hy : scope.names.lookup y = some .cell ∨ scope.names.lookup y = some .free := hy
    rcases hy with hy | hy
    · exact cell_has hy
    · exact absurd rfl (S.nofree _ (PySem.mem_of_lookup hy))
  · exact Nat.le_of_lt (x.above y c (PySem.mem_of_lookup h))
  · have hi : i < vs.length := by
      unfold start at h2
      by_cases hi : i < vs.length
      · exact hi
      · rw [List.getElem?_append_right (by simpa using hi)] at h2
        rw [List.getElem?_replicate] at h2
        split at h2 <;> cases h2
    have ha : vs[i]? = some v := by
      unfold start at h2
      rw [List.getElem?_append_left (by simpa using hi), List.getElem?_map] at h2
      cases e : vs[i]? with
      | none => rw [e] at h2; cases h2
      | some a => rw [e] at h2; cases h2; rfl
    obtain ⟨u, hu, rv⟩ := r.get ha
    have hp : ps[i]? = some y := by
      rw [← S.pre, List.getElem?_take_of_lt (by omega)]; exact h1
    have ndP : ps.Nodup := by rw [← S.pre]; exact S.nd.sublist (List.take_sublist _ _)
    refine ⟨u, rv, ?_⟩
    rcases S.par y (List.mem_of_getElem? hp) with k | k
    · exact .inl ⟨k, bindL_get ndP hp hu k⟩
    · obtain ⟨c, e⟩ := cell_has (n := s.heap.objs.size + 1) k
      refine .inr ⟨.inl k, c, e, ?_⟩
      have q := x.cell y c e
      rw [bindC_get ndP hp hu (by show scope.names.lookup y ≠ _; rw [k]; decide)] at q
      exact q
  · exact e0.hok.fresh (Nat.le_of_lt (x.above y c (PySem.mem_of_lookup h)))
  · unfold start
    show _ = N.length
    rw [List.length_append, List.length_map, List.length_replicate]
    omega

theorem fn_of {CX : CXT} {P : Program} {w : World} {K : PySem.W.Frag} {mg : Str → Option Value} {base : Heap} {k : Nat} {f : Addr} {name qual : Str} {params : Arguments} {body : List Stmt} {scope : Scope} {dV kV doc pm cdv ct oc : Value} {an od : Option Addr}
    {osl : Array (Option Value)} {N ps : List Str} {sp : Sp} (lk : K.lookup f = some ⟨oc, od, .func (PySem.W.fnOf name qual params body scope dV kV doc pm an cdv ct), osl⟩) (hcd : PySem.W.codeIn K cdv qual = true) (S : FnScope N ps scope)
    (len : ∀ vs H Q E, sp vs H Q E → vs.length = ps.length)
    (hbody : ∀ (A : Around) (outer : List Env) (s : Shared) (H : Hp) (vs : List V) (Q : VK) (E : XK), Room k (A.deeper (envOfC qual scope s.heap.objs.size f cdv)) → sp vs H Q E →
      ∃ t, PSs (cxOf CX P w K mg base N qual scope f cdv A outer s H E) body t ∧ t { nx := fun _ H' => Q .non H', rt := Q } (start N vs) H) :
    FnOk P w K mg base CX (k + 1) f (PySem.W.fnOf name qual params body scope dV kV doc pm an cdv ct) ps sp := by
  refine ⟨len, fun A outer s H args us vs Q E hr e0 hb r hsp => ?_⟩
  have hl := len _ _ _ _ hsp
  have KX : K.In s.heap := e0.mod.kin.keeps fun b o e => (e0.bs b o e).1
  have lim : s.heap.NoLimit := e0.mod.nolimit.keeps fun b o e => (e0.bs b o e).1
  have hkind : ∀ y ∈ ps.zip us, scope.names.lookup y.1 = some .local ∨ (scope.names.lookup y.1 = some .cell ∧ ((cellsFrom (s.heap.objs.size + 1) scope.names []).lookup y.1).isSome = true) := fun ⟨n, v⟩ hy => by
    rcases S.par n (List.of_mem_zip hy).1 with q | q
    · exact .inl q
    · exact .inr ⟨q, PySem.W.cellsFrom_some _ _ _ (.inl q)⟩
  refine codeAny_call_function hr.depth (KX _ _ lk) rfl S.co S.gen rfl (PySem.W.codeRec_of KX hcd) (hb _ _ _ _ ?_)
  refine wpAny_newFunctionEnv_cells S.kind hkind fun env he s1 x => ?_
  subst he
  refine ⟨lim.keeps x.toInCall.keep, codeAny_func ?_⟩
  obtain ⟨t, ht, hq⟩ := hbody A outer s H vs Q E (hr.deeper _) hsp
  have I : Inv (cxOf CX P w K mg base N qual scope f cdv A outer s H E) [] (start N vs) H s1 := inv_start S hr.hd e0 hl r x
  refine wpAny_mono (ht [] s1 (start N vs) H _ I hq) (fun fl s' hs => ?_) fun e s' hs => hs
  have fin : ∀ {σ' : St} {H' : Hp} {v : V} {u : Value}, Inv (cxOf CX P w K mg base N qual scope f cdv A outer s H E) [] σ' H' s' → RelV v u → Q v H' → CE outer P w H s Q u s' :=
    fun {σ' H' v u} J rv q => ⟨v, H', J.os, J.bare, J.base, J.hok, rv, q⟩
  cases fl with
  | ret u =>
    obtain ⟨v, σ', H', J, rv, q⟩ := hs
    exact fin J rv q
  | next =>
    obtain ⟨σ', H', J, q⟩ := hs
    exact fin (v := V.non) (u := Value.none) J rfl q
  | brk =>
    obtain ⟨_, _, _, q⟩ := hs
    exact False.elim q
  | cont =>
    obtain ⟨_, _, _, q⟩ := hs
    exact False.elim q
end L2

namespace L2
open PySem PySem.Spec PyProof.Rows
section
variable {X : Cx} {x : Str} {p pos : Pos} {e : Expr} {es : List Expr} {t : TA} {id T : String} {r : List V → Hp → VK → Prop}

def tCB (r : List V → Hp → VK → Prop) (t : TA) : TE := fun σ H Q => t σ H fun vs H1 => r vs H1 Q
theorem pe_callB (hc : CallR X (.builtin id) r) (hg : Gl X x) (hm : X.mg x = none) (hv : bootBuiltins x = some (.builtin id)) (ha : PA X (e :: es) t) (hn : x ≠ "__name__" := by decide) (hdb : (x == ("__debug__" : Str)) = false := by decide)
    (he : starEach (e :: es) X.env = (false, eval e X.env) :: starEach es X.env := by rfl) (hpl : (backTo pos (starEach es X.env)).any (·.1) = false := by rfl) : PE X (.Call (.Name x p) (e :: es) [] pos) (tCB r t) := by
  intro pins s σ H Q I h
  refine wpAny_Call_Name_kw (ld_blt I hg hm hv ?_ hn hdb)
  exact PyProof.Rows.callWith_builtin1 (thn (ha pos pins s σ H _ I h) fun us s1 ⟨vs, H1, I1, r1, q1⟩ => hc pins s1 σ H1 vs us Q I1 r1 q1) he hpl
theorem pe_callTy (hc : CallR X (.type T) r) (hg : Gl X x) (hm : X.mg x = none) (hv : bootBuiltins x = some (.type T)) (ha : PA X (e :: es) t) (hn : x ≠ "__name__" := by decide) (hdb : (x == ("__debug__" : Str)) = false := by decide)
    (he : starEach (e :: es) X.env = (false, eval e X.env) :: starEach es X.env := by rfl) (hpl : (backTo pos (starEach es X.env)).any (·.1) = false := by rfl) : PE X (.Call (.Name x p) (e :: es) [] pos) (tCB r t) := by
  intro pins s σ H Q I h
  refine wpAny_Call_Name_kw (ld_blt I hg hm hv ?_ hn hdb)
  exact PyProof.Rows.callWith_type1 (thn (ha pos pins s σ H _ I h) fun us s1 ⟨vs, H1, I1, r1, q1⟩ => hc pins s1 σ H1 vs us Q I1 r1 q1) he hpl
end
end L2

namespace HT
open PySem PyProof.Rows

def lexLt : List Int → List Int → Bool
  | [], [] => false
  | [], _ :: _ => true
  | _ :: _, [] => false
  | x :: xs, y :: ys => if x = y then lexLt xs ys else decide (x < y)
theorem lexLt_cons (x y : Int) (xs ys : List Int) : lexLt (x :: xs) (y :: ys) = if x = y then lexLt xs ys else decide (x < y) := rfl
section
open PySem.SeqAt
open PySem.AutoSeq1 (wpAny_loadPart')
open PySem.MeetsSeq PySem.MeetsSeq2 PySem.MeetsSeq3

end

section
variable {prog : Program} {w : World} {A : Around} {E : Value → Shared → Prop} {s : Shared}

end
end HT

namespace L2
open PySem PySem.Spec PyProof.Rows

section
variable {X : Cx} {e : Expr} {te : TE} {lo hi : Option Expr} {tl th : TO} {pos p2 : Pos}

end
end L2

namespace L2
open PySem PySem.Spec PyProof.Rows

def ixN (n : Nat) (i : Int) : Option Nat := if 0 ≤ i then (if i < n then some i.toNat else none) else if -(n : Int) ≤ i then some (i + n).toNat else none
def atI {α : Type} (xs : List α) (i : Int) : Option α := (ixN xs.length i).bind fun j => xs[j]?
theorem ixN_seq {n : Nat} {i : Int} {j : Nat} (h : ixN n i = some j) : seqIndex? i n = some j ∧ j < n ∧ -(n : Int) ≤ i ∧ i < n := by
  unfold ixN at h
  by_cases h0 : 0 ≤ i
  · rw [if_pos h0] at h
    by_cases h1 : i < n
    · rw [if_pos h1] at h
      have e : i.toNat = j := Option.some.inj h
      exact ⟨by rw [seqIndex_of h0 h1, e], by omega, by omega, h1⟩
    · rw [if_neg h1] at h; cases h
  · rw [if_neg h0] at h
    by_cases h1 : -(n : Int) ≤ i
    · rw [if_pos h1] at h
      have e : (i + n).toNat = j := Option.some.inj h
      exact ⟨by rw [seqIndex_neg (by omega) h1, e], by omega, h1, by omega⟩
    · rw [if_neg h1] at h; cases h
theorem atI_get {α : Type} {xs : List α} {i : Int} {v : α} (h : atI xs i = some v) : ∃ j, seqIndex? i xs.length = some j ∧ xs[j]? = some v ∧ j < xs.length ∧ -(xs.length : Int) ≤ i ∧ i < xs.length := by
  unfold atI at h
  cases e : ixN xs.length i with
  | none => rw [e] at h; cases h
  | some j =>
    rw [e] at h
    obtain ⟨h1, h2, h3, h4⟩ := ixN_seq e
    exact ⟨j, h1, h, h2, h3, h4⟩
theorem atI_nat {α : Type} {xs : List α} {j : Nat} {v : α} (h : xs[j]? = some v) : atI xs (j : Int) = some v := by
  have hj : j < xs.length := (List.getElem?_eq_some_iff.mp h).1
  have e : ixN xs.length (j : Int) = some j := by
    unfold ixN
    rw [if_pos (by omega), if_pos (by omega)]; simp
  unfold atI; rw [e]; exact h
def PlainIx (b : Expr) : Prop := ∀ o i, subscripted b false o i = operate [o, i] (getItem o i)
def IxR (X : Cx) (r : R2) : Prop :=
  ∀ (value slice : Expr) (pins : List (Addr × Obj)) (s : Shared) (σ : St) (H : Hp) (x y : V) (v u : Value) (Q : VK), Inv X pins σ H s → RelV x v → RelV y u → r x y H Q →
    subscripted slice false v u = operate [v, u] (getItem v u) → wpAny (model X.prog X.w) X.A (subscriptTail value slice v u) (EP X pins σ Q) X.xe s
def MtR (X : Cx) (id : String) (r : V → List V → Hp → VK → Prop) : Prop :=
  ∀ (pins : List (Addr × Obj)) (s : Shared) (σ : St) (H : Hp) (x : V) (xs : List V) (v : Value) (us : List Value) (Q : VK), Inv X pins σ H s → RelV x v → Vals xs us → r x xs H Q →
    wpAny (model X.prog X.w) X.A (call (.builtin id) (v :: us)) (EP X pins σ Q) X.xe s
section
variable {X : Cx} {a b : Expr} {ta tb : TE} {pos : Pos}
theorem IxR.or {r r' : R2} (h : IxR X r) (h' : IxR X r') : IxR X (fun x y H Q => r x y H Q ∨ r' x y H Q) := by
  intro value slice pins s σ H x y v u Q I rx ry q hs
  rcases q with q | q
  · exact h value slice pins s σ H x y v u Q I rx ry q hs
  · exact h' value slice pins s σ H x y v u Q I rx ry q hs
theorem pe_ix {r : R2} (hr : IxR X r) (ha : PE X a ta) (hb : PE X b tb) (hs : PlainIx b) : PE X (.Subscript a b pos) (tOp r ta tb) := by
  intro pins s σ H Q I h
  exact Subscript_ (binT ha hb I h fun v u s2 x y H2 I2 rx ry q => hr a b pins s2 σ H2 x y v u Q I2 rx ry q (hs _ _))

def rIxL (K : PySem.W.Frag) : R2 := fun x y H Q => ∃ p xs i v, x = .ref p ∧ y = .int i ∧ SqL K H p xs ∧ atI xs i = some v ∧ Q v H
def rIxT (K : PySem.W.Frag) : R2 := fun x y H Q => ∃ p xs i v, x = .ref p ∧ y = .int i ∧ SqT K H p xs ∧ atI xs i = some v ∧ Q v H
def rIxS : R2 := fun x y H Q => ∃ z i c, x = .str z ∧ y = .int i ∧ z.length ≤ sizeLine ∧ atI z.cps.toList i = some c ∧ Q (.str ⟨#[c]⟩) H
theorem ix_list : IxR X (rIxL X.K) := by
  intro value slice pins s σ H x y v u Q I rx ry h hs
  obtain ⟨p, xs, i, z, rfl, rfl, hq, he, q⟩ := h
  cases rx
  obtain ⟨t, rfl⟩ := ry
  obtain ⟨its, r, pl, hz⟩ := I.list hq
  obtain ⟨j, h1, h2, h3, h4, h5⟩ := atI_get he
  obtain ⟨w, ew, rw'⟩ := r.get h2
  have hl := r.length
  have hn := line63
  have fin : EP X pins σ Q w s := ⟨z, H, I, rw', q⟩
  by_cases h0 : 0 ≤ i
  · have hj : i.toNat = j := by
      rw [seqIndex_of h0 h5] at h1
      exact Option.some.inj h1
    exact item_listR pl.isList h0 (by omega) (by rw [hj]; simpa using ew) fin hs
  · have hj : (i + (its.toArray.size : Int)).toNat = j := by
      rw [seqIndex_neg (by omega) h4] at h1
      rw [List.size_toArray, ← hl]
      exact Option.some.inj h1
    exact subscriptTail_builtinR (x := w) pl.isList.typeIs slot_list_getitem.lookup
      (wpAny_getItem_list_neg (Q := fun r s' => r = w ∧ EP X pins σ Q r s') pl.isList (by omega) (by rw [List.size_toArray] <;> omega) (by omega) (by rw [hj]; simpa using ew) ⟨rfl, fin⟩) hs
theorem ix_tup : IxR X (rIxT X.K) := by
  intro value slice pins s σ H x y v u Q I rx ry h hs
  obtain ⟨p, xs, i, z, rfl, rfl, hq, he, q⟩ := h
  cases rx
  obtain ⟨t, rfl⟩ := ry
  obtain ⟨its, r, pl, hz⟩ := I.tuple hq
  obtain ⟨j, h1, h2, h3, h4, h5⟩ := atI_get he
  obtain ⟨w, ew, rw'⟩ := r.get h2
  have hl := r.length
  have hn := line63
  have fin : EP X pins σ Q w s := ⟨z, H, I, rw', q⟩
  exact subscriptTail_builtinR (x := w) pl.typeIs slot_tuple_getitem.lookup
    (getItem_tuple (j := j) (Q := fun r s' => r = w ∧ EP X pins σ Q r s') pl (by omega) (by omega) (by rw [List.size_toArray, ← hl]; exact h1) (by simpa using ew) ⟨rfl, fin⟩) hs
theorem ix_str : IxR X rIxS := by
  intro value slice pins s σ H x y v u Q I rx ry h hs
  obtain ⟨z, i, c, rfl, rfl, hz, he, q⟩ := h
  obtain ⟨t, rfl⟩ := rx
  obtain ⟨t', rfl⟩ := ry
  obtain ⟨j, h1, h2, h3, h4, h5⟩ := atI_get he
  have hl : z.cps.toList.length = z.length := by simp [Str.length]
  rw [hl] at h1 h4 h5
  have hn := line63
  exact tail_any (typeIs_str s z t) slot_str_getitem.lookup (getItem_str (c := c) (by
    have e1 : decide (i < -(2 ^ 63 : Int)) = false := decide_eq_false (by omega)
    have e2 : decide (i ≥ 2 ^ 63) = false := decide_eq_false (by omega)
    rw [e1, e2, Bool.or_false]) (by rw [h1]; simpa using h2) ⟨.str ⟨#[c]⟩, H, I.tok _, ⟨_, rfl⟩, q⟩) hs
def rIx (K : PySem.W.Frag) : R2 := fun x y H Q => rIxL K x y H Q ∨ rIxT K x y H Q ∨ rIxS x y H Q
theorem ix_seq : IxR X (rIx X.K) := ix_list.or (ix_tup.or ix_str)

theorem mapSeq_set (its : List Value) (n j : Nat) (u : Value) : Obj.mapSeq (·.setIfInBounds j u) { cls := .type "list", data := .seq its.toArray n } = { cls := .type "list", data := .seq (its.set j u).toArray n } := by
  simp [Obj.mapSeq]
theorem Inv.lst {pins : List (Addr × Obj)} {σ : St} {H : Hp} {s : Shared} {p : Addr} {xs : List V} (I : Inv X pins σ H s) (h : H p = some (.lst xs)) :
    ∃ (its : List Value) (n : Nat), Vals xs its ∧ s.heap.get? p = some { cls := .type "list", data := .seq its.toArray n } ∧ xs.length ≤ sizeLine := by
  obtain ⟨z, its, n, r, e⟩ := I.hok p _ h
  exact ⟨its, n, r, e, z⟩
theorem Inv.lstUpd {pins : List (Addr × Obj)} {σ : St} {H : Hp} {s : Shared} {p : Addr} {xs ys : List V} {its its' : List Value} {n n' : Nat} {f : Obj → Obj} (I : Inv X pins σ H s) (h : H p = some (.lst xs))
    (ho : s.heap.get? p = some { cls := .type "list", data := .seq its.toArray n }) (hf : f { cls := .type "list", data := .seq its.toArray n } = { cls := .type "list", data := .seq its'.toArray n' }) (r : Vals ys its') (hz : ys.length ≤ sizeLine) (t : Nat) :
    Inv X pins σ (upd H p (.lst ys)) { s with heap := s.heap.update p f, toks := t } := by
  have e : (s.heap.update p f).get? p = some { cls := .type "list", data := .seq its'.toArray n' } := by
    rw [Heap.get?_update_self f ho (by rw [hf] <;> rfl), hf]
  refine I.write (x := p) (e := p) (by rw [h]; trivial) (.inl rfl) (fun b u hb q => (Heap.get?_update_other _ _ (Ne.symm hb)).trans q) ⟨_, e⟩ ?_
  exact ⟨hz, its', n', r, e⟩
def rSetL : V → V → V → Hp → (Hp → Prop) → Prop := fun o i v H Q => ∃ p xs k j, o = .ref p ∧ i = .int k ∧ H p = some (.lst xs) ∧ ixN xs.length k = some j ∧ Q (upd H p (.lst (xs.set j v)))
theorem set_list : PSet X rSetL := by
  intro pins s σ H o i v ov iv u Q I ro ri rv h
  obtain ⟨p, xs, k, j, rfl, rfl, hp, hj, q⟩ := h
  cases ro
  obtain ⟨t, rfl⟩ := ri
  obtain ⟨its, n, r, ho, hz⟩ := I.lst hp
  obtain ⟨h1, h2, h3, h4⟩ := ixN_seq hj
  have hl := r.length
  have hn := line63
  have I' : Inv X pins σ (upd H p (.lst (xs.set j v))) { s with heap := s.heap.update p (Obj.mapSeq (·.setIfInBounds j u)) } :=
    I.lstUpd hp ho (mapSeq_set its n j u) (r.set rv j) (by rw [List.length_set]; exact hz) s.toks
  by_cases h0 : 0 ≤ k
  · have hk : k.toNat = j := by
      rw [seqIndex_of h0 h4] at h1
      exact Option.some.inj h1
    exact PySem.W.ki_setAt ho h0 (by omega) (by rw [List.size_toArray, ← hl]; exact h4) (by rw [hk]; exact ⟨_, I', q⟩)
  · have hk : (k + (its.toArray.size : Int)).toNat = j := by
      rw [seqIndex_neg (by omega) h3] at h1
      rw [List.size_toArray, ← hl]
      exact Option.some.inj h1
    exact PySem.W.ki_setBack ho (by omega) (by rw [List.size_toArray, ← hl]; exact h3) (by omega) (by rw [hk]; exact ⟨_, I', q⟩)

theorem call_len_seq : CallR X (.builtin "len") (fun xs H Q => ∃ p ys, xs = [.ref p] ∧ (SqL X.K H p ys ∨ SqT X.K H p ys) ∧ Q (.int ys.length) H) := by
  intro pins s σ H xs us Q I r h
  obtain ⟨p, ys, rfl, hq, q⟩ := h
  obtain ⟨u, rfl, rx⟩ := vals1 r
  cases rx
  have hn := line63
  rcases hq with hq | hq
  · obtain ⟨its, r', pl, hz⟩ := I.list hq
    have hlen := r'.length
    exact Calls.call_len_list pl.isList (by simp only [List.size_toArray] <;> omega) ⟨.int ys.length, H, I.tok _, ⟨s.toks + 1, by rw [List.size_toArray, hlen]⟩, q⟩
  · obtain ⟨its, r', pl, hz⟩ := I.tuple hq
    have hlen := r'.length
    exact len_tuple pl (by simp only [List.size_toArray] <;> omega) ⟨.int ys.length, H, I.tok _, ⟨s.toks + 1, by rw [List.size_toArray, hlen]⟩, q⟩
theorem call_list_of : CallR X (.type "list") (fun xs H Q => ∃ p ys, xs = [.ref p] ∧ (SqL X.K H p ys ∨ SqT X.K H p ys) ∧ ∀ l, H l = none → Q (.ref l) (upd H l (.lst ys))) := by
  intro pins s σ H xs us Q I r h
  obtain ⟨p, ys, rfl, hq, q⟩ := h
  obtain ⟨u, rfl, rx⟩ := vals1 r
  cases rx
  have fin : ∀ (its : List Value), Vals ys its → ys.length ≤ sizeLine → ∀ (h' : Heap) (c' : Nat), (∀ b o', s.heap.get? b = some o' → h'.get? b = some o') →
      h'.get? s.heap.objs.size = some { cls := .type "list", dict := none, data := .seq its.toArray c', slots := #[] } → EP X pins σ Q (.ref s.heap.objs.size) { s with heap := h' } := fun its r' hz h' c' kp e =>
    ⟨.ref s.heap.objs.size, _, I.laid (t' := s.toks) kp (Nat.le_refl _) (show ObjOk X.prog X.w _ h' _ (.lst ys) from ⟨hz, its, c', r', e⟩), rfl, q _ (I.hok.fresh (Nat.le_refl _))⟩
  rcases hq with hq | hq
  · obtain ⟨its, r', pl, hz⟩ := I.list hq
    have hlen := r'.length
    obtain ⟨o, ho, hc, n, hd⟩ := pl.isList
    exact call_list_seq p (.inl rfl) ho hc hd (fun h' c' kp e => fin its r' hz h' c' kp e) (by simp only [List.size_toArray] <;> omega)
  · obtain ⟨its, r', pl, hz⟩ := I.tuple hq
    have hlen := r'.length
    obtain ⟨o, ho, hc, n, hd⟩ := pl
    exact call_list_seq p (.inr rfl) ho hc hd (fun h' c' kp e => fin its r' hz h' c' kp e) (by simp only [List.size_toArray] <;> omega)
def tyV (K : PySem.W.Frag) (T : String) (x : V) (H : Hp) : Prop := match x with
  | .str _ => T = "str"
  | .int _ => T = "int"
  | .ref p => (T = "list" ∧ ∃ xs, SqL K H p xs) ∨ (T = "tuple" ∧ ∃ o, K.lookup p = some o ∧ o.cls = .type "tuple" ∧ o.dict = none) ∨
      (T = "dict" ∧ ((∃ kvs, H p = some (.dK kvs)) ∨ ∃ kvs, H p = some (.dT kvs))) ∨ (T = "set" ∧ ∃ S n, H p = some (.set S n))
  | _ => False
theorem tyV_is {pins : List (Addr × Obj)} {σ : St} {H : Hp} {s : Shared} {T : String} {x : V} {v : Value} (I : Inv X pins σ H s) (r : RelV x v) (ty : tyV X.K T x H) :
    s.TypeIs v T ∧ ∀ a, v = .ref a → ∃ ob, s.heap.get? a = some ob ∧ ob.dict = none := by
  cases x with
  | str z =>
    obtain ⟨t, rfl⟩ := r
    cases (show T = "str" from ty)
    exact ⟨typeIs_str s z t, fun _ e => nomatch e⟩
  | int i =>
    obtain ⟨t, rfl⟩ := r
    cases (show T = "int" from ty)
    exact ⟨typeIs_int s i t, fun _ e => nomatch e⟩
  | ref p =>
    cases r
    rcases ty with ⟨rfl, xs, hq⟩ | ⟨rfl, o, hk, hc, hd⟩ | ⟨rfl, hk⟩ | ⟨rfl, S, n, hk⟩
    · obtain ⟨its, _, pl, _⟩ := I.list hq
      refine ⟨pl.isList.typeIs, fun a e => ?_⟩
      cases e
      obtain ⟨o, n, e, c, hd, _⟩ := pl
      exact ⟨o, e, hd⟩
    · refine ⟨⟨o, I.kIn p o hk, hc⟩, fun a e => ?_⟩
      cases e
      exact ⟨o, I.kIn _ o hk, hd⟩
    · have z : ∃ o, s.heap.get? p = some o ∧ o.ExactDict := by
        rcases hk with ⟨kvs, hk⟩ | ⟨kvs, hk⟩
        · obtain ⟨_, _, _, _, o, _, _, e, ex, _⟩ := I.hok p _ hk
          exact ⟨o, e, ex⟩
        · obtain ⟨_, _, _, _, o, _, _, e, ex, _⟩ := I.hok p _ hk
          exact ⟨o, e, ex⟩
      obtain ⟨o, e, ex⟩ := z
      refine ⟨⟨o, e, ex.1⟩, fun a e2 => ?_⟩
      cases e2
      exact ⟨o, e, ex.2.1⟩
    · obtain ⟨o, _, _, _, e, ex, _⟩ := I.hok p _ hk
      refine ⟨⟨o, e, ex.1⟩, fun a e2 => ?_⟩
      cases e2
      exact ⟨o, e, ex.2.1⟩
  | _ => exact False.elim ty
def tBM (K : PySem.W.Frag) (T : String) (r : V → List V → Hp → VK → Prop) (to : TE) (t : TA) : TE := fun σ H Q => to σ H fun x H1 => tyV K T x H1 ∧ t σ H1 fun xs H2 => r x xs H2 Q
variable {o e : Expr} {es : List Expr} {to : TE} {t : TA} {name : Str} {apos cpos : Pos} {T id : String} {r : V → List V → Hp → VK → Prop}
theorem pe_bm (pa : PlainAttrs T) (slot : Slot T name id) (hty : typeOf (.builtin id) = pure (.type "method_descriptor")) (hm : MtR X id r) (ho : PE X o to) (ha : PA X (e :: es) t)
    (hbase : attributeBase o name X.env (eval o X.env) = eval o X.env := by rfl)
    (hfew : ((backTo cpos (starEach (e :: es) X.env)).all (fun x => !x.1) && (backToKw cpos (keywordEach [] X.env)).all (fun x => x.1.isSome)
      && decide ((e :: es).length + ([] : List Keyword).length + (if ([] : List Keyword).isEmpty then 0 else 1) < 30)) = true := by rfl)
    (hline : (apos.endLine == cpos.line) = true := by rfl) (hs : starEach (e :: es) X.env = (false, eval e X.env) :: starEach es X.env := by rfl) (hplain : (backTo cpos (starEach es X.env)).any (·.1) = false := by rfl) :
    PE X (.Call (.Attribute o name apos) (e :: es) [] cpos) (tBM X.K T r to t) := by
  intro pins s σ H Q I h
  refine wpAny_Call_method_late hbase hfew hline rfl (thn (ho pins s σ H _ I h) fun v s1 ⟨x, H1, I1, r1, ty, q1⟩ => ?_)
  obtain ⟨h1, h2⟩ := tyV_is I1 r1 ty
  refine ⟨T, id, pa, slot, hty, h1, h2, ?_⟩
  have hA := ha cpos pins s1 σ H1 _ I1 q1
  rw [hs] at hA ⊢
  refine Calls.callWith_builtin (by show (false || (backTo cpos (starEach es X.env)).any (·.1)) = false; rw [hplain] <;> rfl) (Calls.evalArgs_plain ?_)
  exact thn hA fun us s2 ⟨vs, H2, I2, r2, q2⟩ => hm pins s2 σ H2 x vs v us Q I2 r1 r2 q2
/- xs.append(e), list.index on a module's tuple .. are MtR facts of 06m -/
end
end L2

namespace L2
open PySem PySem.Spec PyProof.Rows

def MtM (X : Cx) (id : String) (r : V → List V → Hp → VK → Prop) : Prop :=
  ∀ (pins : List (Addr × Obj)) (s : Shared) (σ : St) (H : Hp) (x : V) (xs : List V) (v : Value) (us : List Value) (Q : VK), Inv X pins σ H s → RelV x v → Vals xs us → r x xs H Q →
    wpAny (model X.prog X.w) X.A (call (.builtin id) (v :: us)) (EP X pins σ Q) X.xe s

theorem Vals.one : ∀ {x : V} {us : List Value}, Vals [x] us → ∃ u, us = [u] ∧ RelV x u
  | _, _, .cons r .nil => ⟨_, rfl, r⟩
section
variable {X : Cx} {pins : List (Addr × Obj)} {σ : St} {H : Hp} {s : Shared} {l b : Addr} {xs ys zs : List V}

theorem Inv.lset {its its' : List Value} {n : Nat} {f : Array Value → Array Value} {t' : Nat} (I : Inv X pins σ H s) (hH : H l = some (.lst xs))
    (e : s.heap.get? l = some { cls := .type "list", data := .seq its.toArray n }) (hf : f its.toArray = its'.toArray) (hv : Vals ys its') (hz : ys.length ≤ sizeLine) :
    Inv X pins σ (upd H l (.lst ys)) { s with heap := s.heap.update l (Obj.mapSeq f), toks := t' } := by
  have q := PySem.IsL.update e f
  rw [hf] at q
  refine I.write (x := l) (e := l) (by rw [hH]; exact trivial) (.inl rfl) (fun b' u hb hu => (Heap.get?_update_other s.heap (Obj.mapSeq f) (Ne.symm hb)).trans hu) ⟨_, q⟩ ?_
  exact ⟨hz, its', _, hv, q⟩
theorem Inv.lnew {its : List Value} {t' : Nat} (I : Inv X pins σ H s) (hv : Vals ys its) (hz : ys.length ≤ sizeLine) :
    Inv X pins σ (upd H s.heap.objs.size (.lst ys)) { s with heap := s.heap.push { cls := .type "list", data := .seq its.toArray }, toks := t' } :=
  I.laid (fun _ _ q => Heap.get?_push_of_some _ q) (Nat.le_refl _) ⟨hz, its, 0, hv, Heap.get?_push_size _ rfl⟩
theorem Inv.fresh (I : Inv X pins σ H s) : H s.heap.objs.size = none := I.hok.fresh (Nat.le_refl _)
theorem Inv.lstM (I : Inv X pins σ H s) (hH : H l = some (.lst xs)) : xs.length ≤ sizeLine ∧ ∃ (its : List Value) (n : Nat), Vals xs its ∧ xs.length = its.length ∧ s.heap.get? l = some { cls := .type "list", data := .seq its.toArray n } := by
  obtain ⟨z, its, n, r, e⟩ := I.hok l _ hH
  exact ⟨z, its, n, r, r.length, e⟩

end

section
variable {X : Cx}

def rAppend : V → List V → Hp → VK → Prop := fun x vs H Q => ∃ l xs y, x = .ref l ∧ vs = [y] ∧ H l = some (.lst xs) ∧ xs.length < sizeLine ∧ Q .non (upd H l (.lst (xs ++ [y])))
theorem mt_append : MtM X "list.append" rAppend := by
  intro pins s σ H x vs v us Q I rx rv h
  obtain ⟨l, xs, y, rfl, rfl, hH, hz, q⟩ := h
  cases rx
  obtain ⟨u, rfl, ru⟩ := rv.one
  obtain ⟨z, its, n, r, hl, e⟩ := I.lstM hH
  refine call_meets F.slot_list_append ⟨_, e, rfl⟩ F.entry_list_append (F.args_list_append_2 _ _) (PySem.list_append l its.toArray n u (by rw [List.size_toArray]; omega)) ⟨e, ?_⟩
  refine ⟨.non, _, I.lset (its' := its ++ [u]) hH e (by simp) (r.append (.cons ru .nil)) ?_, rfl, q⟩
  rw [List.length_append, List.length_singleton]
  omega

def rCat : R2 := fun x y H Q => ∃ l b xs zs, x = .ref l ∧ y = .ref b ∧ H l = some (.lst xs) ∧ H b = some (.lst zs) ∧ xs.length + zs.length ≤ sizeLine ∧ ∀ p, H p = none → Q (.ref p) (upd H p (.lst (xs ++ zs)))
theorem op_cat : OpR X (binaryOp .Add) rCat := by
  intro pins s σ H x y v u Q I rx ry h
  obtain ⟨l, b, xs, zs, rfl, rfl, hH, hB, hz, q⟩ := h
  cases rx
  cases ry
  obtain ⟨z, its, n, r, hl, e⟩ := I.lstM hH
  obtain ⟨z2, its2, n2, r2, hl2, e2⟩ := I.lstM hB
  refine PySem.P.add_list e e2 ?_ (by rw [List.size_toArray, List.size_toArray]; omega)
  have ea : its.toArray ++ its2.toArray = (its ++ its2).toArray := by simp
  rw [ea]
  exact ⟨.ref _, _, I.lnew (t' := s.toks) (r.append r2) (by rw [List.length_append]; omega), rfl, q _ I.fresh⟩
end

section
variable {prog : Program} {w : World} {A : Around} {E : Value → Shared → Prop} {s : Shared}
end

section
variable {X : Cx}
end
end L2

namespace Att
open PySem PySem.W PySem.Calls PyProof.Rows

theorem ints_of_wellAll {P : Params} {h : Heap} : ∀ (ns : List Int) (vs : List Value), WellAll P h vs (ns.map WData.int) → IntsAre vs ns := by
  intro ns
  induction ns with
  | nil =>
    intro vs w
    rw [List.map_nil] at w
    cases w
    exact .nil
  | cons n ns ih =>
    intro vs w
    rw [List.map_cons] at w
    cases w with
    | cons a b =>
      cases a
      exact .cons _ _ (ih _ b)

theorem script_of {l : OpenLaw} {n : Nat} (hn : l.most = some n) {P : Params} {h : Heap} {args : List WData} {vals : List Value}
    (hpre : l.row.toRowW.claim.pre args = true) (hwl : WellAll P h vals args) :
    ∃ a vs ns, vals = [Value.ref a] ∧ args = [WData.list (ns.map WData.int)] ∧ h.get? a = some { cls := .type "list", data := .seq vs.toArray } ∧ IntsAre vs ns ∧ ns.length ≤ n := by
  have hsh : WShape.hasAll [] args [.list .int] = true := (pre_splitW hpre).1
  have hc : l.pre.holds [] { args := args } = true := (pre_splitW hpre).2
  obtain ⟨d, r, rfl, h1, h2⟩ := hasAllW_cons hsh
  obtain rfl := hasAllW_nil h2
  obtain ⟨xs, rfl, h3⟩ := hasW_list h1
  obtain ⟨ns, rfl⟩ := items_int h3
  have hlen : ns.length ≤ n := by
    unfold OpenLaw.pre at hc
    have h4 : (WTm.not (.lt (.lit (.int (n : Int))) (.len (.arg 0)))).holds [] { args := [.list (ns.map .int)] } = true := by
      have h4 := (holds_andW hc).1
      rw [hn] at h4
      exact h4
    have h5 := condW_of h4 (w_not (w_lt w_lit (w_len_list (w_arg rfl))))
    rw [List.length_map] at h5
    refine Nat.le_of_not_lt fun q => ?_
    have q' : (n : Int) < ((ns.length : Nat) : Int) := by omega
    first
      | (rw [decide_eq_true q'] at h5; exact absurd h5 (by decide))
      | (simp at h5; omega)
  cases hwl with
  | cons w1 w2 =>
    cases w2
    cases w1 with
    | list ho hall => exact ⟨_, _, ns, rfl, rfl, ho, ints_of_wellAll ns _ hall, hlen⟩

theorem post_true (l : OpenLaw) (args : List WData) : l.row.toRowW.claim.post args (.bool true) args = true :=
  postW_of (r := l.row.toRowW) (X := (true == true))
    (show WShape.has [] (.bool true) .bool = true by first | rfl | decide | simp [WShape.has, WShape.arms, WShape.armsAll])
    (show (WTm.eq .res (.lit (.bool true))).value [] { args := args, res := some (.bool true), after := args } = some (.bool (true == true)) from w_eq_bool (w_res rfl) w_lit) rfl

theorem attach_call {l : OpenLaw} {n : Nat} {q : Program} {loose : List Str} {XP : (Str → Option Value) → Heap → Prop} {YP : World → Heap → Prop} {d : DefRec}
    (hn : l.most = some n) (hdf : d.params.defaults = [])
    (call : ∀ (w : World) (s₀ s₁ : Shared) (mg mb : Str → Option Value) (fa : Addr) (o : Obj) (pm cd doc : Value) (a : Addr) (vs : List Value) (ns : List Int),
      Ground q loose [] XP w s₀ mg mb s₁.heap → YP w s₁.heap →
      s₁.heap.get? fa = some o → o.data = .func (docDef d.name d.params d.body d.scope pm cd doc) → s₁.heap.CodeRec cd d.name → mg d.name = some (.ref fa) →
      s₁.heap.get? a = some { cls := .type "list", data := .seq vs.toArray } → IntsAre vs ns → ns.length ≤ n → s₁.gens = #[] →
      codeAny (model l.prog w) callerA (.call (.ref fa) ⟨[.ref a], []⟩) (fun r s' => r = .ok (.ret (.bool true)) ∧ OldK s₁.heap s'.heap ∧ s'.os = s₁.os ∧ AllBare s'.gens) s₁) :
    WalkO q loose XP YP l.row.toRowW d [] (fun f vs => PySem.call f vs) := by
  intro w s₀ s₁ mg mb G Y fa o pm cd doc dV kV ho hd hcd hD hmg hg args vals as hpre hlay hrd hwl hlo
  obtain rfl : dV = .none := Dflts.none hD hdf
  obtain rfl : kV = .none := Dflts.noKw hD
  obtain ⟨a, vs, ns, rfl, rfl, hobj, hints, hlen⟩ := script_of hn hpre hwl
  refine enter_call (codeAny_mono (call w s₀ s₁ mg mb fa o pm cd doc a vs ns G Y ho (fd_plain hd) hcd hmg hobj hints hlen hg) fun r s' hq => ?_)
  obtain ⟨rfl, h2, h3, h4⟩ := hq
  exact ⟨.inl ⟨.bool true, .bool true, [], rfl, fun _ => rfl, .bool true, post_true l _, fun _ => ⟨List.Pairwise.nil, fun _ hm => (nomatch hm)⟩⟩, h2, h3, h4⟩

section
variable {prog : Program} {w : World} {A : Around} {E : Value → Shared → Prop} {s : Shared} {K : Frag}

end
end Att

namespace L2
open PySem PySem.Spec PyProof.Rows

theorem vals_ints : ∀ {vs : List Value} {ns : List Int}, IntsAre vs ns → Vals (ns.map V.int) vs
  | _, _, .nil => .nil
  | _, _, .cons n t h => .cons ⟨t, rfl⟩ (vals_ints h)

def Only (H : Hp) : Prop := ∀ b, H b = none ∨ ∃ o xs, H b = some (.frz o (.lst xs))

theorem law_call {P : Program} {w : World} {K : PySem.W.Frag} {mg mb : Str → Option Value} {CX : CXT} {k : Nat} {fa a : Addr} {fd : FuncData} {x : Str} {sp : Sp} {s₁ : Shared} {vs : List Value} {ns : List Int}
    (KX : K.In s₁.heap) (hns : s₁.heap.Ns mainGlobals mg) (hb : s₁.heap.Ns builtinsNs mb) (hbb : ∀ x : Str, x ≠ "__name__" → mb x = bootBuiltins x) (hlim : s₁.heap.NoLimit) (hg : s₁.gens = #[])
    (ha : s₁.heap.get? a = some { cls := .type "list", data := .seq vs.toArray }) (hi : IntsAre vs ns) (hl : ns.length ≤ sizeLine) (hr : Room k callerA)
    (F : ∀ base : Heap, K.In base → base.Ns mainGlobals mg → FnOk P w K mg base CX k fa fd [x] sp) (hbind : ∀ (s : Shared) (u : Value), BindsTo s fd ⟨[u], []⟩ [(x, u)])
    (hsp : ∀ H : Hp, Only H → SqL K H a (ns.map V.int) → sp [.ref a] H (fun v _ => v = .bl true) fun _ _ _ => False)
    (hCX : ∀ H e s', CX [] H s₁ (fun _ _ _ => False) e s' → False) :
    codeAny (model P w) callerA (.call (.ref fa) ⟨[.ref a], []⟩) (fun r s' => r = .ok (.ret (.bool true)) ∧ OldK s₁.heap s'.heap ∧ s'.os = s₁.os ∧ AllBare s'.gens) s₁ := by
  have rv := vals_ints hi
  have lenV := hi.length
  -- from an abstract heap in which nothing but the script may be tracked
  have core : ∀ H : Hp, Only H → SqL K H a (ns.map V.int) → HOk P w H s₁.heap → (∀ b, H b ≠ none → b = a) → (H a ≠ none → K.lookup a = none) →
      codeAny (model P w) callerA (.call (.ref fa) ⟨[.ref a], []⟩) (fun r s' => r = .ok (.ret (.bool true)) ∧ OldK s₁.heap s'.heap ∧ s'.os = s₁.os ∧ AllBare s'.gens) s₁ := by
    intro H hO hS hok hA hK
    have base_of : ∀ {b : Addr} {o : Obj}, s₁.heap.get? b = some o → H b = none → (hidT s₁.heap H).get? b = some o := fun e n => hidT_get e n
    have noA : ∀ {b : Addr} {o : Obj} {es : Array DictEntry} {ep : Nat}, s₁.heap.get? b = some o → o.data = .dict es ep → H b = none := fun {b o es ep} e d => by
      cases q : H b with
      | none => rfl
      | some u =>
        have e' : b = a := hA b (by rw [q]; simp)
        subst e'
        rw [ha] at e; cases e
        have d' : Data.seq vs.toArray _ = Data.dict es ep := d
        cases d'
    have nsK : ∀ {b : Addr} {m : Str → Option Value}, s₁.heap.Ns b m → (hidT s₁.heap H).Ns b m := fun {b m} ⟨o, es, ep, e, d, r⟩ => ⟨o, es, ep, base_of e (noA e d), d, r⟩
    have hKb : K.In (hidT s₁.heap H) := fun b o e => base_of (KX b o e) (by
      cases q : H b with
      | none => rfl
      | some u =>
        have e' : b = a := hA b (by rw [q]; simp)
        subst e'
        rw [hK (by rw [q]; simp)] at e; cases e)
    have hM : Mod K mg (hidT s₁.heap H) := ⟨hKb, nsK hns, ⟨mb, nsK hb, hbb⟩, let ⟨mc, h1, h2⟩ := hlim; ⟨mc, nsK h1, h2⟩⟩
    have e0 : Env0 P w K mg (hidT s₁.heap H) callerA [] s₁ H := ⟨rfl, hM, fun b o e => of_hidT e, Nat.le_of_eq (hidT_size _ _), trivial, fun b hb => absurd (show b ∈ ([] : List Addr) from hb) (by simp), hok, .of_eq hg⟩
    refine codeAny_mono ((F _ hKb (nsK hns)).run callerA [] s₁ H ⟨[.ref a], []⟩ [.ref a] [.ref a] _ _ hr e0 (hbind s₁ (.ref a)) (.cons rfl .nil) (hsp H hO hS)) fun r s' h => ?_
    cases r with
    | error e => exact (hCX H e s' h).elim
    | ok fl =>
      cases fl with
      | next => exact False.elim h
      | brk => exact False.elim h
      | cont => exact False.elim h
      | ret u =>
        obtain ⟨v, H', os, bare, un, hok', r', q⟩ := h
        have q' : v = .bl true := q
        subst q'
        obtain rfl : u = Value.bool true := r'
        refine ⟨rfl, OldK.of_keep fun b o e => ?_, os, bare⟩
        cases q : H b with
        | none => exact un.keep b o e q (by intro z; exact absurd (show b ∈ ([] : List Addr) from z) (by simp)) (by simp)
        | some u =>
          rcases hO b with z | ⟨ob, xs, z⟩
          · rw [q] at z; cases z
          · have z2 := un.frzs b ob _ z
            obtain ⟨e1, _⟩ := hok b _ z
            obtain ⟨e2, _⟩ := hok' b _ z2
            rw [e] at e1; cases e1
            exact e2
  cases hk : K.lookup a with
  | some o =>
    -- the script is one of the module's own objects
    have e := KX a o hk
    rw [ha] at e
    cases e
    refine core (fun _ => none) (fun _ => .inl rfl) (.inr ⟨_, vs.toArray, _, hk, rfl, rfl, rfl, by rw [List.size_toArray, lenV]; exact hl, by simpa using rv⟩) (fun b u z => by have z' : (none : Option HO) = some u := z; cases z') (fun b z => absurd rfl z) fun z => absurd rfl z
  | none =>
    refine core (fun b => if b = a then some (.frz { cls := .type "list", data := .seq vs.toArray } (.lst (ns.map V.int))) else none) (fun b => ?_) (.inl (.inr ⟨{ cls := .type "list", data := .seq vs.toArray }, if_pos rfl⟩)) (fun b u z => ?_) (fun b z => ?_) fun _ => hk
    · by_cases hb : b = a
      · exact .inr ⟨_, _, if_pos hb⟩
      · exact .inl (if_neg hb)
    · by_cases hb : b = a
      · have z' := (if_pos hb).symm.trans z
        cases z'
        subst hb
        exact ⟨ha, by rw [List.length_map]; exact hl, vs, _, rv, ha⟩
      · have z' := (if_neg hb).symm.trans z
        cases z'
    · by_cases hb : b = a
      · exact hb
      · exact absurd (if_neg hb) z
end L2

namespace L2
open PySem PySem.Spec PyProof.Rows

theorem walk_of {l : PySem.W.OpenLaw} {n k : Nat} {q : Program} {loose : List Str} {XP : (Str → Option Value) → Heap → Prop} {YP : World → Heap → Prop} {d : DefRec} {K : Params → PySem.W.Frag} {CX : World → CXT} {sp : World → Sp} {x : Str}
    (hn : l.most = some n) (hn2 : n ≤ sizeLine) (hdf : d.params.defaults = []) (hr : Room k callerA)
    (hY : ∀ (w : World) (h : Heap), YP w h → (K w.params).In h)
    (F : ∀ (w : World) (mg : Str → Option Value) (fa : Addr) (h : Heap), (K w.params).In h → h.Ns mainGlobals mg → mg d.name = some (.ref fa) →
      ∃ fd : FuncData, (∀ (s : Shared) (u : Value), BindsTo s fd ⟨[u], []⟩ [(x, u)]) ∧
        ∀ base : Heap, (K w.params).In base → base.Ns mainGlobals mg → FnOk l.prog w (K w.params) mg base (CX w) k fa fd [x] (sp w))
    (hsp : ∀ (w : World) (H : Hp) (a : Addr) (ns : List Int), ns.length ≤ n → Only H → SqL (K w.params) H a (ns.map V.int) → sp w [.ref a] H (fun v _ => v = .bl true) fun _ _ _ => False)
    (hCX : ∀ (w : World) (H : Hp) (s : Shared) (e : Value) (s' : Shared), CX w [] H s (fun _ _ _ => False) e s' → False) :
    PySem.W.WalkO q loose XP YP l.row.toRowW d [] (fun f vs => PySem.call f vs) := by
  refine Att.attach_call hn hdf fun w s₀ s₁ mg mb fa o pm cd doc a vs ns G Y ho hd hcd hmg hobj hints hlen hg => ?_
  have KX := hY w _ Y
  obtain ⟨fd, hb, hF⟩ := F w mg fa _ KX G.T.g hmg
  exact law_call KX G.T.g G.T.b G.T.builtins G.T.nolimit hg hobj hints (Nat.le_trans hlen hn2) hr hF hb (fun H hO hS => hsp w H a ns hlen hO hS) fun H e s' => hCX w H s₁ e s'
end L2

/- THE LAST THEOREM (shape; LID, My.* are yours):
   My.Adr: a structure of the addresses that your layer names (classes, functions); My.Txt K t: a structure (Prop) of the equations over K;
   My.txt_mk : {K} {implicit addresses ..} (e1 : nsIn K mainGlobals "law" = some (some (.ref f))) (e2 : K.lookup f = some ⟨oc, od, .func (fnOf "law" "law" params body scope dV kV doc pm an cdv ct), sl⟩) (e3 : codeIn K cdv "law" = true) .. : ∃ t, My.Txt K t

set_option maxRecDepth 100000 in
set_option maxHeartbeats 0 in
theorem PySem.Challenge.cw_LID_holds : PySem.Challenge.rw_LID.Holds := by
  w_on; o_law; k_head; (case hw => w_witness2)
  k_fill
  refine L2.walk_of (l := PySem.Challenge.rw_LID) (n := 63) (k := 40) (x := "script") (CX := fun w => ..) (sp := fun _ => My.sp_law) rfl (by decide) rfl ⟨rfl, by decide, by decide⟩ (fun w h Y => PySem.W.kIn_of Y) ?F ?S ?C
  case F =>
    intro w mg fa h KX G hmg
    have T : ∃ t, My.Txt (L2.KOf KX) t := by
      dsimp only [L2.KOf]                          -- K must stand as «<heap const> w.params» for k_is
      refine' My.txt_mk ?e1 ?e2 ?e3 ..
      (case e1 => PySem.W.k_is)                    -- in the order: a name -> its address -> its object -> its parts
      (case e2 => PySem.W.k_is)
      ..
    obtain ⟨t, T⟩ := T
    have e0 := hmg.symm.trans (PySem.W.mg_of KX G T.law)
    cases e0                                       -- fa is the law's own address
    exact ⟨_, fun s u => .of_eq rfl, fun base kb nb => My.law_fn T kb nb⟩     -- if «.of_eq rfl» comes too early: refine' ⟨_, ?b, fun base kb nb => My.law_fn T kb nb⟩; exact fun s u => .of_eq rfl
  case S => exact fun w H a ns hl hO hS => ..
  case C => exact ..
(the tactic k_is has no namespace: write k_is) -/

namespace L2
open PySem PySem.Spec PyProof.Rows

def defArgs (s : Stmt) : Arguments := match s with
  | .FunctionDef _ a _ _ _ _ _ _ _ _ => a
  | _ => { posonlyargs := [], args := [], vararg := none, kwonlyargs := [], kw_defaults := [], kwarg := none, defaults := [] }
def defBody (s : Stmt) : List Stmt := match s with
  | .FunctionDef _ _ b _ _ _ _ _ _ _ => b
  | _ => []
def defScope (s : Stmt) : Scope := match s with
  | .FunctionDef _ _ _ _ _ _ sc _ _ _ => sc
  | _ => { kind := .function, names := [], isGenerator := false, isCoroutine := false }

abbrev CX0 : CXT := fun _ _ _ _ _ _ => False
abbrev E0 : XK := fun _ _ _ => False
theorem pass0 {X : Cx} : Passes CX0 X E0 := fun _ _ _ _ _ _ _ h => h.elim

structure Fun (K : PySem.W.Frag) (x qual : Str) (st : Stmt) (f : Addr) (fd : FuncData) : Prop where
  ex : ∃ (oc : Value) (od : Option Addr) (kV doc pm : Value) (an : Option Addr) (cdv ct : Value) (osl : Array (Option Value)),
    fd = PySem.W.fnOf x qual (defArgs st) (defBody st) (defScope st) .none kV doc pm an cdv ct ∧ K.lookup f = some ⟨oc, od, .func fd, osl⟩ ∧ PySem.W.codeIn K cdv qual = true
  kp : PySem.W.keepIn K (.ref f) = true
section
variable {P : Program} {w : World} {K : PySem.W.Frag} {mg : Str → Option Value} {base : Heap}
theorem Fun.ok {x qual : Str} {st : Stmt} {f : Addr} {fd : FuncData} {N ps : List Str} {k : Nat} {sp : Sp} (F : Fun K x qual st f fd) (S : FnScope N ps (defScope st)) (len : ∀ vs H Q E, sp vs H Q E → vs.length = ps.length)
    (hbody : ∀ (cdv : Value) (A : Around) (outer : List Env) (s : Shared) (H : Hp) (vs : List V) (Q : VK) (E : XK), Room k (A.deeper (envOfC qual (defScope st) s.heap.objs.size f cdv)) → sp vs H Q E →
      ∃ t, PSs (cxOf CX0 P w K mg base N qual (defScope st) f cdv A outer s H E).nox (defBody st) t ∧ t { nx := fun _ H' => Q .non H', rt := Q } (start N vs) H) : FnOk P w K mg base CX0 (k + 1) f fd ps sp := by
  obtain ⟨oc, od, kV, doc, pm, an, cdv, ct, osl, rfl, lk, hcd⟩ := F.ex
  refine fn_of lk hcd S len fun A outer s H vs Q E hr hsp => ?_
  obtain ⟨t, h, q⟩ := hbody cdv A outer s H vs Q E hr hsp
  exact ⟨t, h.nox, q⟩
theorem Fun.binds {x qual : Str} {st : Stmt} {f : Addr} {fd : FuncData} {ps : List Str} (F : Fun K x qual st f fd)
    (h : ∀ (kV doc pm : Value) (an : Option Addr) (cdv ct : Value) (us : List Value), us.length = ps.length → bindArgs (PySem.W.fnOf x qual (defArgs st) (defBody st) (defScope st) .none kV doc pm an cdv ct) ⟨us, []⟩ = pure (ps.zip us)) : Binds K fd ps [] := by
  obtain ⟨oc, od, kV, doc, pm, an, cdv, ct, osl, rfl, lk, hcd⟩ := F.ex
  exact .all (h kV doc pm an cdv ct)
theorem fun_mk {x qual : Str} {st : Stmt} {f : Addr} {oc : Value} {od an : Option Addr} {osl : Array (Option Value)} {kV doc pm cdv ct : Value} (l : K.lookup f = some ⟨oc, od, .func (PySem.W.fnOf x qual (defArgs st) (defBody st) (defScope st) .none kV doc pm an cdv ct), osl⟩)
    (c : PySem.W.codeIn K cdv qual = true) (k : PySem.W.keepIn K (.ref f) = true) : Fun K x qual st f (PySem.W.fnOf x qual (defArgs st) (defBody st) (defScope st) .none kV doc pm an cdv ct) := ⟨⟨oc, od, kV, doc, pm, an, cdv, ct, osl, rfl, l, c⟩, k⟩
end
section
variable {X : Cx}
theorem pv (i : Nat) {x : Str} {pos : Pos} (hN : X.N[i]? = some x := by rfl) (hv : Vis X.env.scope x := by first | exact Or.inl rfl | exact Or.inr (Or.inl rfl) | exact Or.inr (Or.inr rfl)) (hd : (x == ("__debug__" : Str)) = false := by decide)
    (hcd : (x == ("__classdict__" : Str)) = false := by decide) : PE X (.Name x pos) (tVar i) := pe_var hN hv hd hcd
end

end L2
section
set_option maxHeartbeats 4000000
namespace L2
open PySem PySem.Spec PyProof.Rows

theorem bt_int : bootBuiltins "int" = some (.type "int") := by decide +kernel
theorem bt_bool : bootBuiltins "bool" = some (.type "bool") := by decide +kernel
theorem bt_list : bootBuiltins "list" = some (.type "list") := by decide +kernel
theorem bt_tuple : bootBuiltins "tuple" = some (.type "tuple") := by decide +kernel
theorem bt_len : bootBuiltins "len" = some (.builtin "len") := by decide +kernel
theorem bt_isinstance : bootBuiltins "isinstance" = some (.builtin "isinstance") := by decide +kernel

def Has (P : Program) (w : World) (K : PySem.W.Frag) (mg : Str → Option Value) (base : Heap) (k : Nat) (x : Str) (ps : List Str) (sp : Sp) : Prop :=
  ∃ (f : Addr) (fd : FuncData), FnOk P w K mg base CX0 k f fd ps sp ∧ mg x = some (.ref f) ∧ PySem.W.keepIn K (.ref f) = true ∧ Binds K fd ps [] ∧ ∃ (oc : Value) (od : Option Addr) (osl : Array (Option Value)), K.lookup f = some ⟨oc, od, .func fd, osl⟩
theorem pe_fn {X : Cx} {j k : Nat} {x : Str} {ps : List Str} {sp : Sp} {e : Expr} {es : List Expr} {t : TA} {p pos : Pos} (E : Has X.prog X.w X.K X.mg X.base k x ps sp) (hr : Room j X.A) (ha : PA X (e :: es) t)
    (hk : k ≤ j := by decide) (hg : Gl X x := by rfl) (hdb : (x == ("__debug__" : Str)) = false := by decide) (he : starEach (e :: es) X.env = (false, eval e X.env) :: starEach es X.env := by rfl)
    (hpl : (backTo pos (starEach es X.env)).any (·.1) = false := by rfl) : PE X (.Call (.Name x p) (e :: es) [] pos) (tCall sp [] E0 t) := by
  obtain ⟨f, fd, F, hm, kp, hb, _⟩ := E
  exact pe_call F (hr.mono hk) hg hm kp hb .nil pass0 ha hdb he hpl
def Src (K : PySem.W.Frag) (mg : Str → Option Value) (x : Str) (st : Stmt) : Prop := ∃ (f : Addr) (fd : FuncData), Fun K x x st f fd ∧ mg x = some (.ref f)
theorem Src.has {P : Program} {w : World} {K : PySem.W.Frag} {mg : Str → Option Value} {base : Heap} {x : Str} {st : Stmt} {N ps : List Str} {k : Nat} {sp : Sp} (S : Src K mg x st) (sc : FnScope N ps (defScope st))
    (hb : ∀ (kV doc pm : Value) (an : Option Addr) (cdv ct : Value) (us : List Value), us.length = ps.length → bindArgs (PySem.W.fnOf x x (defArgs st) (defBody st) (defScope st) .none kV doc pm an cdv ct) ⟨us, []⟩ = pure (ps.zip us))
    (len : ∀ vs H Q E, sp vs H Q E → vs.length = ps.length)
    (hbody : ∀ (f : Addr) (cdv : Value) (A : Around) (outer : List Env) (s : Shared) (H : Hp) (vs : List V) (Q : VK) (E : XK), Room k (A.deeper (envOfC x (defScope st) s.heap.objs.size f cdv)) → sp vs H Q E →
      ∃ t, PSs (cxOf CX0 P w K mg base N x (defScope st) f cdv A outer s H E).nox (defBody st) t ∧ t { nx := fun _ H' => Q .non H', rt := Q } (start N vs) H) : Has P w K mg base (k + 1) x ps sp := by
  obtain ⟨f, fd, F, hm⟩ := S
  exact ⟨f, fd, F.ok sc len fun cdv A outer s H vs Q E hr h => hbody f cdv A outer s H vs Q E hr h, hm, F.kp, F.binds hb, let ⟨oc, od, kV, doc, pm, an, cdv, ct, osl, _, lk, _⟩ := F.ex; ⟨oc, od, osl, lk⟩⟩
theorem src_mk {K : PySem.W.Frag} {h : Heap} {mg : Str → Option Value} {x : Str} {st : Stmt} {f : Addr} {oc : Value} {od an : Option Addr} {osl : Array (Option Value)} {kV doc pm cdv ct : Value} (X : K.In h) (G : h.Ns mainGlobals mg)
    (a : PySem.W.nsIn K mainGlobals x = some (some (.ref f))) (l : K.lookup f = some ⟨oc, od, .func (PySem.W.fnOf x x (defArgs st) (defBody st) (defScope st) .none kV doc pm an cdv ct), osl⟩)
    (c : PySem.W.codeIn K cdv x = true) (k : PySem.W.keepIn K (.ref f) = true) : Src K mg x st := ⟨f, _, fun_mk l c k, PySem.W.mg_of X G a⟩

theorem law_has {P : Program} {w : World} {K : PySem.W.Frag} {mg : Str → Option Value} {k : Nat} {st : Stmt} {fa : Addr} {x : Str} {sp : Sp} (S : Src K mg "law" st) (hfa : mg "law" = some (.ref fa))
    (hb : ∀ (kV doc pm : Value) (an : Option Addr) (cdv ct : Value) (v : Value), bindArgs (PySem.W.fnOf "law" "law" (defArgs st) (defBody st) (defScope st) .none kV doc pm an cdv ct) ⟨[v], []⟩ = pure [(x, v)])
    (all : ∀ base : Heap, Has P w K mg base k "law" [x] sp) :
    ∃ fd : FuncData, (∀ (s : Shared) (v : Value), BindsTo s fd ⟨[v], []⟩ [(x, v)]) ∧ ∀ base : Heap, K.In base → base.Ns mainGlobals mg → FnOk P w K mg base CX0 k fa fd [x] sp := by
  obtain ⟨f, fd, F, hm⟩ := S
  have e := hfa.symm.trans hm
  cases e
  obtain ⟨oc, od, kV, doc, pm, an, cdv, ct, osl, rfl, lk, _⟩ := F.ex
  refine ⟨_, fun s v => .of_eq (hb kV doc pm an cdv ct v), fun base _ _ => ?_⟩
  obtain ⟨f', fd', G', hm', _, _, oc', od', osl', lk'⟩ := all base
  have e := hm.symm.trans hm'
  cases e
  rw [lk] at lk'
  injection lk' with e1
  injection e1 with _ _ e2 _
  injection e2 with e3
  rw [e3]
  exact G'

def tH (ms : List Int) : Int := reduceHash (Builtin.Tuple.tupleHashOf (ms.map hashInt))
def DctE (x : List Int × Addr × Value) : DictEntry := ⟨tH x.1, .ref x.2.1, x.2.2⟩
abbrev EV : List (List Int × Addr × V) → List (List Int × Addr × Value) → Prop := Paired fun p q => p.1 = q.1 ∧ p.2.1 = q.2.1 ∧ RelV p.2.2 q.2.2
def DctP (a : Addr) (es : List (List Int × Addr × V)) (h : Heap) : Prop :=
  es.length ≤ sizeLine ∧ (a == sysModules) = false ∧ (es.map (·.1)).Nodup ∧ ∃ xs, EV es xs ∧ ∃ o ds ep, h.get? a = some o ∧ o.ExactDict ∧ o.data = .dict ds ep ∧ ds.toList = xs.map DctE
def DctO (a : Addr) (ob : Obj) (es : List (List Int × Addr × V)) : HO := .ext fun h => DctP a es h ∧ h.get? a = some ob
theorem dctB_of {X : Cx} {pins : List (Addr × Obj)} {σ : St} {H : Hp} {s : Shared} {a : Addr} {ob : Obj} {es : List (List Int × Addr × V)} (I : Inv X pins σ H s) (e : H a = some (DctO a ob es)) : DctP a es s.heap ∧ s.heap.get? a = some ob :=
  (show ObjOk X.prog X.w H s.heap a (.ext fun h => DctP a es h ∧ h.get? a = some ob) from I.hok a _ e).1
theorem dctP_of {X : Cx} {pins : List (Addr × Obj)} {σ : St} {H : Hp} {s : Shared} {a : Addr} {ob : Obj} {es : List (List Int × Addr × V)} (I : Inv X pins σ H s) (e : H a = some (DctO a ob es)) : DctP a es s.heap := (dctB_of I e).1
inductive TyO (K : PySem.W.Frag) (H : Hp) : V → String → Prop where
  | non : TyO K H .non "NoneType"
  | bl (x : Bool) : TyO K H (.bl x) "bool"
  | int (i : Int) : TyO K H (.int i) "int"
  | str (x : Str) : TyO K H (.str x) "str"
  | lst {a : Addr} {xs : List V} (e : SqL K H a xs) : TyO K H (.ref a) "list"
  | tup {a : Addr} {xs : List V} (e : SqT K H a xs) : TyO K H (.ref a) "tuple"
  | dK {a : Addr} {kvs : List (Key × V)} (e : H a = some (.dK kvs)) : TyO K H (.ref a) "dict"
  | dT {a : Addr} {kvs : List (List Key × V)} (e : H a = some (.dT kvs)) : TyO K H (.ref a) "dict"
  | dE {a : Addr} {ob : Obj} {es : List (List Int × Addr × V)} (e : H a = some (DctO a ob es)) : TyO K H (.ref a) "dict"
def isiB (t c : String) : Option Bool := PySem.W.kitOne [] (.type t) (.type c)
theorem kitOne_K {K : PySem.W.Frag} {t c : String} : PySem.W.kitOne K (.type t) (.type c) = isiB t c := rfl
theorem isiB_int_int : isiB "int" "int" = some true := by decide +kernel
theorem isiB_int_bool : isiB "int" "bool" = some false := by decide +kernel
def rIsi (K : PySem.W.Frag) : List V → Hp → VK → Prop := fun xs H Q => ∃ x t c b, xs = [x, .ty c] ∧ TyO K H x t ∧ isiB t c = some b ∧ Q (.bl b) H
theorem call_isi {X : Cx} : CallR X (.builtin "isinstance") (rIsi X.K) := by
  intro pins s σ H xs us Q I r h
  obtain ⟨x, t, c, b, rfl, ty, e, q⟩ := h
  obtain ⟨u, w', rfl, rx, rc⟩ := vals2 r
  obtain rfl : w' = Value.type c := rc
  have e' : PySem.W.kitOne X.K (.type t) (.type c) = some b := by rw [kitOne_K]; exact e
  have fin : ∀ tk, EP X pins σ Q (.bool b) { s with toks := tk } := fun tk => ⟨.bl b, H, I.tok tk, rfl, q⟩
  cases ty with
  | non => exact isinst_ok I rx (.non) e' fin
  | bl y => exact isinst_ok I rx (.bl y) e' fin
  | int i => exact isinst_ok I rx (.int i) e' fin
  | str y => exact isinst_ok I rx (.str y) e' fin
  | dK ea => exact isinst_ok I rx (.dK ea) e' fin
  | dT ea => exact isinst_ok I rx (.dT ea) e' fin
  | @dE a ob es ea =>
    cases rx
    obtain ⟨_, _, _, _, _, o, _, _, h1, h2, _⟩ := dctP_of I ea
    exact PySem.W.kia_one PySem.W.kitx_dict I.kIn ⟨o, h1, h2.1⟩ e' (fun z => nomatch z) fin
  | lst ea =>
    cases rx
    obtain ⟨its, _, pl, _⟩ := I.list ea
    obtain ⟨o, h1, h2, _⟩ := pl.isList
    exact PySem.W.kia_one PySem.W.kitx_list I.kIn ⟨o, h1, h2⟩ e' (fun z => nomatch z) fin
  | tup ea =>
    cases rx
    obtain ⟨its, _, p, _⟩ := I.tuple ea
    obtain ⟨o, h1, h2, _⟩ := p
    exact PySem.W.kia_one PySem.W.kitx_tuple I.kIn ⟨o, h1, h2⟩ e' (fun z => nomatch z) fin

section
variable {X : Cx} {pins : List (Addr × Obj)} {σ : St} {H : Hp} {s : Shared}
end
section
variable {X : Cx}
def Tups (K : PySem.W.Frag) (H : Hp) (ps : List Addr) (mss : List (List Int)) : Prop := Paired (fun p ms => SqT K H p (List.map V.int ms)) ps mss
end
end L2
end
section
set_option maxHeartbeats 4000000
namespace L2
open PySem PySem.Spec PyProof.Rows
def clOf (env : Env) : List (Str × NameKind) → List (Str × Addr) → List (Str × Addr)
  | [], acc => acc
  | (n, k) :: r, acc => clOf env r (if (k == NameKind.free) = true then (match env.cells.lookup n with | some c => (n, c) :: acc | none => acc) else acc)
theorem clOf_mem {env : Env} : ∀ {l : List (Str × NameKind)} {acc : List (Str × Addr)} {n : Str} {c : Addr}, (n, c) ∈ clOf env l acc → (n, c) ∈ acc ∨ env.cells.lookup n = some c
  | [], _, _, _, h => .inl h
  | (m, k) :: r, acc, n, c, h => by
    unfold clOf at h
    rcases clOf_mem h with h | h
    · split at h
      · split at h
        · rename_i c' e
          rcases List.mem_cons.mp h with h | h
          · cases h; exact .inr e
          · exact .inl h
        · exact .inl h
      · exact .inl h
    · exact .inr h
theorem clOf_keep {env : Env} : ∀ {l : List (Str × NameKind)} {acc : List (Str × Addr)} {p : Str × Addr}, p ∈ acc → p ∈ clOf env l acc
  | [], _, _, h => h
  | (m, k) :: r, acc, p, h => by
    unfold clOf
    refine clOf_keep ?_
    split
    · split
      · exact List.mem_cons_of_mem _ h
      · exact h
    · exact h
theorem clOf_has {env : Env} : ∀ {l : List (Str × NameKind)} {acc : List (Str × Addr)} {n : Str} {c : Addr}, (n, NameKind.free) ∈ l → env.cells.lookup n = some c → (n, c) ∈ clOf env l acc
  | (m, k) :: r, acc, n, c, h, e => by
    unfold clOf
    rcases List.mem_cons.mp h with h | h
    · cases h
      refine clOf_keep ?_
      rw [if_pos (show (NameKind.free == NameKind.free) = true from rfl), e]
      exact List.mem_cons_self
    · exact clOf_has h e
theorem cellOf_eq {env : Env} {n : Str} {c : Addr} (h : env.cells.lookup n = some c) : cellOf env n = pure c := by
  unfold cellOf
  rw [h]
theorem closure_ok {env : Env} {scope : Scope} (h : ∀ n, (n, NameKind.free) ∈ scope.names → ∃ c, env.cells.lookup n = some c) : closureFor scope env = pure (clOf env scope.names []) := by
  have all : ∀ (l : List (Str × NameKind)) (acc : List (Str × Addr)), (∀ n, (n, NameKind.free) ∈ l → ∃ c, env.cells.lookup n = some c) →
      (forIn l acc fun (x : Str × NameKind) (cs : List (Str × Addr)) => (if (x.2 == NameKind.free) = true then (do let c ← cellOf env x.1; pure (ForInStep.yield ((x.1, c) :: cs))) else pure (ForInStep.yield cs) : Sem (ForInStep (List (Str × Addr))))) = pure (clOf env l acc) := by
    intro l
    induction l with
    | nil => intro acc _; rfl
    | cons x r ih =>
      intro acc hl
      obtain ⟨n, k⟩ := x
      rw [List.forIn_cons]
      unfold clOf
      cases hk : (k == NameKind.free) with
      | true =>
        have hk' : k = NameKind.free := by simpa using hk
        subst hk'
        obtain ⟨c, e⟩ := hl n List.mem_cons_self
        simp only [if_true, cellOf_eq e, pure_bind, e]
        exact ih _ fun m hm => hl m (List.mem_cons_of_mem _ hm)
      | false =>
        simp only [Bool.false_eq_true, if_false, pure_bind]
        exact ih _ fun m hm => hl m (List.mem_cons_of_mem _ hm)
  have q := all scope.names [] h
  unfold closureFor
  first
    | (simp only [bind_pure_comp, map_pure] at q ⊢; rw [q]; rfl)
    | (rw [q]; rfl)
    | exact q

def cxComp (X : Cx) (scope : Scope) (N : List Str) (C : Addr) (fp : List Addr) (s₀ : Shared) (H₀ : Hp) : Cx :=
  { X with N := N, s₀ := s₀, H₀ := H₀, env := compEnvC scope (clOf X.env scope.names []) C X.env, outer := X.stack, stack := X.stack, ex := fp, fn := fun _ => false, pn := [], xe := fun _ _ => False }
def capt (n : Nat) (ix : List Nat) (σ : St) : St := List.replicate n none ++ ix.map fun i => (σ[i]?).getD none
structure CompScope (X : Cx) (scope : Scope) (tg cs : List Str) (ix : List Nat) : Prop where
  kind : scope.kind = .function
  nocell : ∀ y ∈ scope.names, y.2 ≠ .cell
  names : ∀ y ∈ scope.names, y.2 = .local → scope.names.lookup y.1 = some .local
  nd : (tg ++ cs).Nodup
  at_ : ix.map (fun i => X.N[i]?) = cs.map some
  free : ∀ x ∈ cs, (x, NameKind.free) ∈ scope.names ∧ scope.names.lookup x = some .free
  out : ∀ x, (x, NameKind.free) ∈ scope.names → X.env.scope.names.lookup x = some .cell ∨ X.env.scope.names.lookup x = some .free
theorem lookup_kinds {f : Str × NameKind → Str × NameKind} (hf : ∀ p, (f p).1 = p.1) : ∀ (names : List (Str × NameKind)) (x : Str), (names.map f).lookup x = (names.lookup x).map fun k => (f (x, k)).2
  | [], _ => rfl
  | p :: r, x => by
    have e : f p = (p.1, (f p).2) := by rw [← hf p]
    rw [List.map_cons, e, List.lookup_cons, List.lookup_cons, lookup_kinds hf r x]
    cases q : x == p.1 with
    | false => rfl
    | true =>
      have z : x = p.1 := by simpa using q
      subst z
      rfl
def freed (env : Env) (p : Str × NameKind) : Bool := p.2 == NameKind.free && env.scope.kind == .function && env.kindOf p.1 == some .cell
theorem lookup_freed {env : Env} {names : List (Str × NameKind)} {x : Str} :
    (names.map fun (n, k) => if (k == NameKind.free && env.scope.kind == .function && env.kindOf n == some .cell) then (n, NameKind.cell) else (n, k)).lookup x = (names.lookup x).map fun k => if freed env (x, k) = true then .cell else k := by
  refine (lookup_kinds (fun p => ?_) names x).trans ?_
  · dsimp only
    split <;> rfl
  · congr 1
    funext k
    unfold freed
    dsimp only
    split <;> rfl
theorem lookup_relabel_free {env : Env} {names : List (Str × NameKind)} {x : Str} {k : NameKind}
    (h : (names.map fun (n, k) => if (k == NameKind.free && env.scope.kind == .function && env.kindOf n == some .cell) then (n, NameKind.cell) else (n, k)).lookup x = some k) (hk : k = .cell ∨ k = .free) (nc : ∀ y ∈ names, y.2 ≠ .cell) : (x, NameKind.free) ∈ names := by
  rw [lookup_freed] at h
  cases q : names.lookup x with
  | none => rw [q] at h; cases h
  | some k0 =>
    have hm := PySem.mem_of_lookup q
    suffices z : k0 = .free by rw [← z]; exact hm
    rw [q] at h
    by_cases c : freed env (x, k0) = true
    · unfold freed at c
      simp only [Bool.and_eq_true, beq_iff_eq] at c
      exact c.1.1
    · have h2 : k0 = k := by simpa [c] using h
      rcases hk with e | e
      · exact absurd (h2.trans e) (nc _ hm)
      · exact h2.trans e
theorem lookup_relabel_kind {env : Env} {names : List (Str × NameKind)} {x : Str} (h : names.lookup x = some .free) :
    (names.map fun (n, k) => if (k == NameKind.free && env.scope.kind == .function && env.kindOf n == some .cell) then (n, NameKind.cell) else (n, k)).lookup x = some .cell ∨
    (names.map fun (n, k) => if (k == NameKind.free && env.scope.kind == .function && env.kindOf n == some .cell) then (n, NameKind.cell) else (n, k)).lookup x = some .free := by
  rw [lookup_freed, h]
  by_cases c : freed env (x, .free) = true
  · exact .inl (by simp [c])
  · exact .inr (by simp [c])
section
variable {X : Cx} {pins : List (Addr × Obj)} {σ : St} {H H1 : Hp} {s : Shared}
theorem Inv.track {D : Addr} {o : HO} (I : Inv X pins σ H s) (hn : H D = none) (hs : X.s₀.heap.objs.size ≤ D) (hL : D ≠ X.env.locals) (hc : ∀ x c, X.env.cells.lookup x = some c → c ≠ D) (hp : ∀ p ∈ X.pn ++ pins, p.1 ≠ D)
    (new : ObjOk X.prog X.w (upd H D o) s.heap D o) : Inv X pins σ (upd H D o) s := by
  have nb : ∀ b ob, X.s₀.heap.get? b = some ob → b ≠ D := fun b ob e z => by subst z; exact absurd (Nat.lt_of_lt_of_le (Heap.lt_size e) hs) (Nat.lt_irrefl _)
  refine ⟨I.ok, I.os, I.bare, ⟨I.base.keep, I.base.slot, fun b ob e n hx => ?_, I.base.there, fun b xs e => ?_, fun b ob u e => ?_, fun b ps e => ?_⟩, I.loc, I.cell, ?_, fun x c e => ?_, fun p hpp => ?_, fun b u e => ?_, I.len⟩
  · rw [upd_ne (nb b ob e)]; exact I.base.free b ob e n hx
  · have q := I.base.tups b xs e
    rw [upd_ne (ne_of_none q hn)]; exact q
  · have q := I.base.frzs b ob u e
    rw [upd_ne (ne_of_none q hn)]; exact q
  · obtain ⟨more, q⟩ := I.base.tbls b ps e
    exact ⟨more, by rw [upd_ne (ne_of_none q hn)]; exact q⟩
  · rw [upd_ne hL.symm]; exact I.free
  · rw [upd_ne (hc x c e)]; exact I.freeC x c e
  · obtain ⟨a, b, c, d, e⟩ := I.pin p hpp
    exact ⟨a, by rw [upd_ne (hp p hpp)]; exact b, c, d, e⟩
  · by_cases hb : b = D
    · subst hb; rw [upd_same] at e; cases e; exact new
    · rw [upd_ne hb] at e
      exact (I.hok b u e).stay (fun _ _ _ q => q) (fun c q => by rw [upd_ne (ne_of_none q hn)]; exact q) fun c xs q => by rw [upd_ne (ne_of_none q hn)]; exact q
theorem capt_get {X : Cx} {tg cs : List Str} {ix : List Nat} (hat : ix.map (fun i => X.N[i]?) = cs.map some) {i : Nat} {x : Str} {v : V} (h1 : (tg ++ cs)[i]? = some x) (h2 : (capt tg.length ix σ)[i]? = some (some v)) :
    x ∈ cs ∧ ∃ k : Nat, X.N[k]? = some x ∧ σ[k]? = some (some v) := by
  unfold capt at h2
  by_cases hi : i < tg.length
  · rw [List.getElem?_append_left (by simpa using hi), List.getElem?_replicate, if_pos hi] at h2
    cases h2
  · rw [List.getElem?_append_right (by simpa using hi), List.length_replicate, List.getElem?_map] at h2
    rw [List.getElem?_append_right (by lia)] at h1
    cases e : ix[i - tg.length]? with
    | none => rw [e] at h2; cases h2
    | some k =>
      rw [e] at h2
      have h2 : (σ[k]?).getD none = some v := Option.some.inj h2
      have q := congrArg (fun l => l[i - tg.length]?) hat
      simp only [List.getElem?_map, e, h1, Option.map_some] at q
      refine ⟨List.mem_of_getElem? h1, k, Option.some.inj q, ?_⟩
      cases z : σ[k]? with
      | none => rw [z] at h2; cases h2
      | some y => rw [z] at h2; exact congrArg some h2
end


def PTs (X : Cx) (ifs : List Expr) (t : TT) : Prop :=
  ∀ (pins : List (Addr × Obj)) (s : Shared) (σ : St) (H : Hp) (Q : Bool → Hp → Prop), Inv X pins σ H s → t σ H Q →
    wpAny (model X.prog X.w) X.A (forIn ifs true fun c r => if r = true then do let ok ← isTrue c X.env (eval c X.env); pure (ForInStep.yield ok) else pure (ForInStep.yield r)) (TP X pins σ Q) X.xe s
def tTrue : TT := fun _ H Q => Q true H
theorem pts_nil {X : Cx} : PTs X [] tTrue := fun _ _ _ H _ I h => wpAny_tests_nil ⟨H, I, h⟩
theorem pts_one {X : Cx} {c : Expr} {t : TT} (h : PT X c t) : PTs X [c] t := fun pins s σ H Q I hw => wpAny_tests_one (h pins s σ H Q I hw)
def KeepsG (n : Nat) (ix : List Nat) (g : TG) : Prop := ∀ x σ H Q, g x (capt n ix σ) H Q → g x (capt n ix σ) H fun σ2 H2 => (σ2.length = (capt n ix σ).length ∧ ∀ (i : Nat) (v : V), (capt n ix σ)[i]? = some (some v) → σ2[i]? = some (some v)) ∧ Q σ2 H2
theorem capt_none {n : Nat} {ix : List Nat} {σ : St} {j : Nat} (h : j < n) {v : V} (e : (capt n ix σ)[j]? = some (some v)) : False := by
  unfold capt at e
  rw [List.getElem?_append_left (by simpa using h), List.getElem?_replicate, if_pos h] at e
  cases e
theorem keeps_name {n : Nat} {ix : List Nat} {j : Nat} (h : j < n) : KeepsG n ix (gName j) := fun x σ H Q q => ⟨⟨by simp, fun i v e => by
  by_cases hi : j = i
  · subst hi; exact (capt_none h e).elim
  · rw [List.getElem?_set_ne hi]; exact e⟩, q⟩
theorem keeps_two {K : PySem.W.Frag} {n : Nat} {ix : List Nat} {m j k : Nat} (h : j < n) (h' : k < n) : KeepsG n ix (gTup K m (gCons (gName j) (gCons (gName k) gNil))) := fun x σ H Q q => by
  obtain ⟨a, xs, e1, hq, hl, v, r, e2, v', r', e3, e4, q⟩ := q
  refine ⟨a, xs, e1, hq, hl, v, r, e2, v', r', e3, e4, ⟨by simp, fun i v e => ?_⟩, q⟩
  by_cases hi : j = i
  · subst hi; exact (capt_none h e).elim
  · by_cases hk : k = i
    · subst hk; exact (capt_none h' e).elim
    · rw [List.getElem?_set_ne hk, List.getElem?_set_ne hi]; exact e
def tComp (wi : TI) (n : Nat) (ix : List Nat) (g : TG) (tc : TT) (te : TE) : TE := fun σ H Q => wi σ H fun J H1 => ∃ W : Nat → Nat → List V → Hp → Prop, (∃ m, W 0 m [] H1) ∧ ∀ i m ys H2, W i m ys H2 →
  (J.stop i H2 ∧ ys.length ≤ sizeLine ∧ ∀ D, H2 D = none → Q (.ref D) (upd H2 D (.lst ys))) ∨
  (J.go i H2 ∧ ys.length < sizeLine ∧ ∃ Nx : List V → Hp → Prop, (∀ ys' H', Nx ys' H' → ∃ m', m' < m ∧ W (i + 1) m' ys' H') ∧
    ∀ x H3, J.yld i H2 x H3 → g x (capt n ix σ) H3 fun σ2 H4 => tc σ2 H4 fun b H5 => if b = true then te σ2 H5 fun v H6 => Nx (ys ++ [v]) H6 else Nx ys H5)
section
variable {X : Cx} {pins : List (Addr × Obj)} {σ : St} {H H1 : Hp} {s : Shared}
theorem inv_comp {scope : Scope} {tg cs : List Str} {ix : List Nat} {fp : List Addr} {s4 : Shared} (S : CompScope X scope tg cs ix) (I : Inv X pins σ H s) (hf : ∀ b ∈ fp, FpOk X pins H b) (ho : ∀ b ∈ fp, ∃ o, s.heap.get? b = some o) {C : Addr} (hC : s.heap.objs.size ≤ C)
    (hk : ∀ b o, s.heap.get? b = some o → s4.heap.get? b = some o) (hns : s4.heap.Ns C fun _ => none) (os : s4.os = s.os) (bare : AllBare s4.gens) (hn : H C = none) :
    Inv (cxComp X scope (tg ++ cs) C fp s H) [] (capt tg.length ix σ) H s4 := by
  have clX : ∀ x c, (clOf X.env scope.names []).lookup x = some c → X.env.cells.lookup x = some c := fun x c e => by
    rcases clOf_mem (PySem.mem_of_lookup e) with h | h
    · cases h
    · exact h
  have hasC : ∀ x, (x, NameKind.free) ∈ scope.names → ∃ c, (clOf X.env scope.names []).lookup x = some c := fun x hx => by
    obtain ⟨c, e⟩ := I.ok.has x (S.out x hx)
    have m := clOf_has (acc := []) hx e
    cases q : (clOf X.env scope.names []).lookup x with
    | some c' => exact ⟨c', rfl⟩
    | none =>
      have := List.lookup_eq_none_iff.mp q (x, c) m
      simp at this
  refine ⟨⟨I.ok.mod, ?_, I.ok.glob, I.ok.blt, hC, fun x y c e1 e2 => I.ok.inj x y c (clX x c e1) (clX y c e2), fun x hx => ?_, fun x c h => ?_, I.ok.hd, I.ok.frames, .inl rfl, fun b hb => ⟨?_, fun x c e => ?_⟩, I.bs, Nat.le_trans I.ok.bsz I.sz, fun b o e hb => ?_, fun b hb hx => ?_, I.stack, I.stkFree⟩,
    os, bare, Un.kept hk, ⟨_, hns, fun i x v e1 e2 e3 => ?_⟩, fun x c e => ?_, hn, fun x c e => I.freeC x c (clX x c e), fun p hp => (by cases hp), I.hok.kept hk, ?_⟩
  · show (relabel scope X.env).kind = .function
    exact S.kind
  · have hx' : (relabel scope X.env).names.lookup x = some .cell ∨ (relabel scope X.env).names.lookup x = some .free := hx
    rcases hx' with h | h
    · exact hasC x (lookup_relabel_free h (.inl rfl) S.nocell)
    · exact hasC x (lookup_relabel_free h (.inr rfl) S.nocell)
  · cases h
  · obtain ⟨o, e⟩ := ho b hb
    exact Nat.ne_of_lt (Nat.lt_of_lt_of_le (Heap.lt_size e) hC)
  · exact (hf b hb).2.2.2.2.1 x c (clX x c e)
  · obtain ⟨_, _, _, h, _⟩ := hf b hb
    rcases h with h | h
    · exact I.ok.noex b o e h
    · exact absurd (Nat.lt_of_lt_of_le (Heap.lt_size (I.ok.bs b o e).1) h) (Nat.lt_irrefl _)
  · have hx : b ∈ frs X.stack := hx
    obtain ⟨_, h1, h2, _⟩ := hf b hb
    rcases List.mem_cons.mp (I.stkSub b hx) with h | h
    · exact h1 h
    · exact h2 h
  · obtain ⟨hx, k, h1, h2⟩ := capt_get (X := X) S.at_ e1 e2
    obtain ⟨hx1, hx2⟩ := S.free x hx
    obtain ⟨m, hnm, hl⟩ := I.loc
    have ov := S.out x hx1
    obtain ⟨u, r, l⟩ := hl k x v h1 h2 (by rcases ov with z | z; exact .inr (.inl z); exact .inr (.inr z))
    refine ⟨u, r, ?_⟩
    rcases l with ⟨l, _⟩ | ⟨_, c, lc, ic⟩
    · have l : X.env.scope.names.lookup x = some .local := l
      rcases ov with z | z <;> rw [z] at l <;> cases l
    · obtain ⟨c', e'⟩ := hasC x hx1
      have := (clX x c' e').symm.trans lc
      cases this
      refine .inr ⟨lookup_relabel_kind hx2, c, e', ?_⟩
      obtain ⟨o, ho1, ho2⟩ := ic
      exact ⟨o, hk c o ho1, ho2⟩
  · obtain ⟨v, o, ho1, ho2⟩ := I.cell x c (clX x c e)
    exact ⟨v, o, hk c o ho1, ho2⟩
  · show (capt tg.length ix σ).length = (tg ++ cs).length
    have := congrArg List.length S.at_
    simp only [List.length_map] at this
    unfold capt
    simp [this]
theorem comp_core {use : Option (Value → Sem Unit)} {Qc : Value → Shared → Prop} {pos' : Pos} {elt target iter : Expr} {ifs : List Expr} {scope : Scope} {pos : Pos} {tg cs : List Str} {ix : List Nat} {wi : TI} {g : TG} {tc : TT} {te : TE} (S : CompScope X scope tg cs ix) (hcalm : X.calm = true) (kg : KeepsG tg.length ix g)
    (hi : PI X target iter wi) (hg : ∀ C fp s H, PG (cxComp X scope (tg ++ cs) C fp s H) target g) (hc : ∀ C fp s H, PTs (cxComp X scope (tg ++ cs) C fp s H) ifs tc) (he : ∀ C fp s H, PE (cxComp X scope (tg ++ cs) C fp s H) elt te)
    (hs : ∀ x, foldedSetIterable iter X.env x = pure x) {pins : List (Addr × Obj)} {s : Shared} {σ : St} {H : Hp} {Q : VK} (I : Inv X pins σ H s) (h : tComp wi tg.length ix g tc te σ H Q)
    (fin : ∀ D C H' s' v, Inv X pins σ H' s' → Q (.ref D) H' → FpOk X pins H' C → (∃ m, s'.heap.Ns C m) → compPost (model X.prog X.w) X.A X.xe use Qc (.ref D) C (.ok v) s') :
    wpAny (model X.prog X.w) X.A (comprehension (.ListComp elt [⟨target, iter, ifs, 0⟩] scope pos) scope X.env pos' (newList []) false (eval iter X.env) use) Qc X.xe s := by
  refine wpAny_comprehension_free (use := use) (cl := clOf X.env scope.names []) rfl hs (closure_ok fun n hn => I.ok.has n (S.out n hn)) S.kind S.names ?_
  refine wpAny_mono (hi pins s σ H _ I h) (fun v s1 h1 => wpAny_mono h1 (fun itv s2 h2 => ?_) fun _ _ e => e) fun _ _ e => e
  obtain ⟨it, fp, tn, J, H2, rfl, I2, T, st2, f2, W, ⟨m0, w0⟩, turn⟩ := h2
  refine wpAny_newObj_type (wpAny_newFunctionEnv S.nocell (by intro y hy; simp at hy) (fun h1 hns1 hsb1 => ?_) S.kind)
  dsimp only at hns1 hsb1 ⊢
  generalize hP : s2.heap.push { cls := .type "list", dict := none, data := .seq ([] : List Value).toArray } = P2 at hns1 hsb1 ⊢
  have hCs : P2.objs.size = s2.heap.objs.size + 1 := by rw [← hP, Heap.size_push]
  have hDC : s2.heap.objs.size ≠ P2.objs.size := by rw [hCs]; exact Nat.ne_of_lt (Nat.lt_succ_self _)
  have hCle : s2.heap.objs.size ≤ P2.objs.size := by rw [hCs]; exact Nat.le_succ _
  generalize hCg : P2.objs.size = C at *
  have old : ∀ b o, s2.heap.get? b = some o → h1.get? b = some o := fun b o e => hsb1.extBut b o (Nat.ne_of_lt (Nat.lt_of_lt_of_le (Heap.lt_size e) hCle)) (Heap.get?_push_of_some _ (hP ▸ Heap.get?_push_of_some _ e))
  generalize hDg : s2.heap.objs.size = D at *
  have hD0 : h1.get? D = some { cls := .type "list", data := .seq ([] : List Value).toArray 0 } := hsb1.extBut _ _ hDC (Heap.get?_push_of_some _ (hP ▸ hDg ▸ Heap.get?_push_size _ rfl))
  have nC : H2 C = none := I2.hok.fresh (by rw [hDg]; exact hCle)
  have nD : H2 D = none := I2.hok.fresh (by rw [hDg]; exact Nat.le_refl _)
  have fo : ∀ b ∈ fp, ∃ o, s2.heap.get? b = some o := fun b hb => let ⟨o, e, _⟩ := T.obj _ _ st2 b hb; ⟨o, e⟩
  have Dfp : D ∉ fp := fun z => by
    obtain ⟨o, e⟩ := fo D z
    have := Heap.lt_size e
    rw [hDg] at this
    exact absurd this (Nat.lt_irrefl _)
  have Dfs : D ∉ frs X.stack := fun z => by
    rcases List.mem_cons.mp (I2.stkSub D z) with e | e
    · have := I2.lt
      rw [← e, hDg] at this
      exact absurd this (Nat.lt_irrefl _)
    · exact I2.nofs (by rw [hDg]; exact Nat.le_refl _) e
  have DcY : ∀ x c, (clOf X.env scope.names []).lookup x = some c → c ≠ D := fun x c e => by
    rcases clOf_mem (PySem.mem_of_lookup e) with h | h
    · cases h
    · exact (I2.fpOk (H' := H2) (b := D) (by rw [hDg]; exact Nat.le_refl _) nD).2.2.2.2.1 x c h
  -- the block's context
  have Yok : ∀ s4 : Shared, s4 = { s2 with heap := h1, toks := s2.toks + ([] : List (Str × Value)).length } → Inv (cxComp X scope (tg ++ cs) C fp s2 H2) [] (capt tg.length ix σ) H2 s4 := by
    rintro s4 rfl
    exact inv_comp S I2 f2 fo (by rw [hDg]; exact hCle) old (by simpa using hns1) rfl I2.bare nC
  -- the loop
  have loop : ∀ s4 : Shared, s4 = { s2 with heap := h1, toks := s2.toks + ([] : List (Str × Value)).length } →
      codeAny (model X.prog X.w) X.A (.compLoop (.ListComp elt [⟨target, iter, ifs, 0⟩] scope pos) 0 (.ref it) (.ref D) (compEnvC scope (clOf X.env scope.names []) C X.env)) (compPost (model X.prog X.w) X.A X.xe use Qc (.ref D) C) s4 := by
    intro s4 e4
    refine codeAny_loop rfl (fun n s' => ∃ i ys its k H', Inv (cxComp X scope (tg ++ cs) C fp s2 H2) [] (capt tg.length ix σ) H' s' ∧ tn i s'.heap ∧ (∀ b ∈ fp, H' b = none) ∧ H' D = none ∧ s'.heap.get? D = some { cls := .type "list", data := .seq (its : List Value).toArray k } ∧ Vals ys its ∧ W i n ys H')
      ?_ m0 ⟨0, [], [], 0, H2, Yok s4 e4, ?_, fun b hb => (f2 b hb).1, nD, by rw [e4]; exact hD0, .nil, w0⟩
    · rintro n s5 ⟨i, ys, its, k, H5, I5, st5, fr5, d5, o5, v5, w5⟩
      show wpAny _ X.A ((compTurn (.ListComp elt [⟨target, iter, ifs, 0⟩] scope pos) 0 (.ref it) (.ref D) (compEnvC scope (clOf X.env scope.names []) C X.env)).onRaise (fun x => do noteFrame x (compEnvC scope (clOf X.env scope.names []) C X.env); theTreesLotGoes x)) _ _ s5
      refine wpAny_noted ?_
      rw [compTurn_list]
      have pin0 : Inv (cxComp X scope (tg ++ cs) C fp s2 H2) [(D, { cls := .type "list", data := .seq its.toArray k })] (capt tg.length ix σ) H5 s5 := I5.pins_of fun p hp => by
        have e : p = (D, { cls := .type "list", data := .seq its.toArray k }) := by simpa using hp
        subst e
        exact ⟨o5, d5, hDC, Dfs, fun v z => by have z' : Data.seq _ _ = Data.cell v := z; cases z'⟩
      have fpY : ∀ {H' : Hp}, (∀ b ∈ fp, H' b = none) → ∀ b ∈ fp, FpOk (cxComp X scope (tg ++ cs) C fp s2 H2) [(D, { cls := .type "list", data := .seq its.toArray k })] H' b := fun hn b hb =>
        ⟨hn b hb, (I5.ok.exf b hb).1, fun z => I5.ok.exfs b hb z, .inl hb, (I5.ok.exf b hb).2, fun p hp z => by
          have hp : p ∈ ([] : List (Addr × Obj)) ++ [(D, { cls := .type "list", data := .seq its.toArray k })] := hp
          have e : p = (D, { cls := .type "list", data := .seq its.toArray k }) := by simpa using hp
          subst e
          have z : D = b := z
          exact Dfp (z ▸ hb)⟩
      refine wpAny_bind (wpAny_standAt (wpAny_bind ?_))
      rcases turn i n ys H5 w5 with ⟨stop, hz, qn⟩ | ⟨go, hz, Nx, hN, step⟩
      · refine thn (T.done (cxComp X scope (tg ++ cs) C fp s2 H2) rfl rfl rfl hcalm i _ s5 _ H5 _ pin0 (fpY fr5) st5 stop) fun r s6 ⟨hr, I6⟩ => ?_
        subst hr
        refine wpAny_pure ?_
        obtain ⟨mC, hnsC, _⟩ := id I6.loc
        have IX : Inv X pins σ H5 s6 := I2.call' (ch := fp) I6.os I6.base I6.hok I6.bare fun b hb => let ⟨_, a1, _, a3, a4, a5⟩ := f2 b hb; ⟨a3, a1, a4, a5⟩
        obtain ⟨_, b1, _, b3, b4, b5⟩ := I2.fpOk (H' := H5) (b := D) (by rw [hDg]; exact Nat.le_refl _) d5
        obtain ⟨_, c1, c2, c3, c4, c5⟩ := I2.fpOk (H' := H5) (b := C) (by rw [hDg]; exact hCle) I6.free
        have gD : s6.heap.get? D = some { cls := .type "list", data := .seq its.toArray k } := (I6.pin (D, { cls := .type "list", data := .seq its.toArray k }) (List.mem_append_right _ List.mem_cons_self)).1
        have IXD : Inv X pins σ (upd H5 D (.lst ys)) s6 := IX.track d5 (by rw [← hDg]; exact I2.sz) b1 b4 b5 ⟨hz, its, k, v5, gD⟩
        exact fin D C _ s6 _ IXD (qn D d5) ⟨by rw [upd_ne (Ne.symm hDC)]; exact I6.free, c1, c2, c3, c4, c5⟩ ⟨mC, hnsC⟩
      · refine thn (T.item (cxComp X scope (tg ++ cs) C fp s2 H2) rfl rfl rfl hcalm i _ s5 _ H5 _ pin0 (fpY fr5) st5 go) fun r s6 ⟨u, hr, h6⟩ => ?_
        subst hr
        refine wpAny_bind (thn h6 fun _ s7 ⟨x, H7, I7, r7, y7, st7, fr7⟩ => ?_)
        have I7' := I7.pinned (fpY fr7) (T.obj _ _ st7)
        -- the next turn
        have again : ∀ {σ2 : St} {H8 : Hp} {s8 : Shared} {ys' : List V} {its' : List Value} {k' : Nat} , Inv (cxComp X scope (tg ++ cs) C fp s2 H2) [] σ2 H8 s8 → (σ2.length = (capt tg.length ix σ).length ∧ ∀ (i : Nat) (v : V), (capt tg.length ix σ)[i]? = some (some v) → σ2[i]? = some (some v)) →
            (∀ b ∈ fp, ∀ o, s7.heap.get? b = some o → s8.heap.get? b = some o) → (∀ b ∈ fp, H8 b = none) → H8 D = none → s8.heap.get? D = some { cls := .type "list", data := .seq its'.toArray k' } → Vals ys' its' → Nx ys' H8 →
            ∃ m, m < n ∧ ∃ i ys its k H', Inv (cxComp X scope (tg ++ cs) C fp s2 H2) [] (capt tg.length ix σ) H' s8 ∧ tn i s8.heap ∧ (∀ b ∈ fp, H' b = none) ∧ H' D = none ∧ s8.heap.get? D = some { cls := .type "list", data := .seq (its : List Value).toArray k } ∧ Vals ys its ∧ W i m ys H' := by
          intro σ2 H8 s8 ys' its' k' I8 kp fk fn dn dg vv nx
          obtain ⟨m', hm, w8⟩ := hN ys' H8 nx
          exact ⟨m', hm, i + 1, ys', its', k', H8, I8.weak kp.1.symm kp.2, T.keep _ _ _ st7 fk, fn, dn, dg, vv, w8⟩
        refine wpAny_bind (wpAny_mono (hg C fp s2 H2 _ s7 _ H7 x u _ I7' r7 (kg x σ H7 _ (step x H7 y7))) (fun _ s8 ⟨σ8, H8, I8, kp8, q8⟩ => ?_) fun _ _ z => z.elim)
        refine wpAny_bind (wpAny_mono (hc C fp s2 H2 _ s8 σ8 H8 _ I8 q8) (fun ok s9 ⟨H9, I9, q9⟩ => ?_) fun _ _ z => z.elim)
        have pinsOf : ∀ {σ' : St} {H' : Hp} {s' : Shared}, Inv (cxComp X scope (tg ++ cs) C fp s2 H2) ([(D, { cls := .type "list", data := .seq its.toArray k })] ++ pinsAt fp s7.heap) σ' H' s' →
            (∀ b ∈ fp, ∀ o, s7.heap.get? b = some o → s'.heap.get? b = some o) ∧ (∀ b ∈ fp, H' b = none) ∧ H' D = none ∧ s'.heap.get? D = some { cls := .type "list", data := .seq its.toArray k } := by
          intro σ' H' s' I'
          refine ⟨fun b hb o e => (I'.pin (b, o) (List.mem_append_right _ (List.mem_append_right _ (mem_pinsAt hb e)))).1, fun b hb => ?_, (I'.pin (D, { cls := .type "list", data := .seq its.toArray k }) (List.mem_append_right _ (List.mem_append_left _ List.mem_cons_self))).2.1, (I'.pin (D, { cls := .type "list", data := .seq its.toArray k }) (List.mem_append_right _ (List.mem_append_left _ List.mem_cons_self))).1⟩
          obtain ⟨o, e, d⟩ := T.obj _ _ st7 b hb
          exact (I'.pin (b, o) (List.mem_append_right _ (List.mem_append_right _ (mem_pinsAt hb e)))).2.1
        cases ok with
        | false =>
          obtain ⟨p1, p2, p3, p4⟩ := pinsOf I9
          exact wpAny_pure ⟨rfl, again (I9.pins_of fun p hp => nomatch hp) kp8 p1 p2 p3 p4 v5 q9⟩
        | true =>
          have q9 : te σ8 H9 fun v H6 => Nx (ys ++ [v]) H6 := q9
          refine wpAny_bind (wpAny_bind (wpAny_mono (he C fp s2 H2 _ s9 σ8 H9 _ I9 q9) (fun y s10 ⟨v, H10, I10, rv, nx⟩ => ?_) fun _ _ z => z.elim))
          obtain ⟨p1, p2, p3, p4⟩ := pinsOf I10
          have hl5 := v5.length
          refine wpAny_bind (call_meets F.slot_list_append ⟨_, p4, rfl⟩ F.entry_list_append (F.args_list_append_2 _ _) (PySem.list_append D its.toArray k y (by rw [List.size_toArray]; lia)) ⟨p4, ?_⟩)
          have g10 := PySem.IsL.update p4 (·.push y)
          rw [show its.toArray.push y = (its ++ [y]).toArray by simp] at g10
          have I11 : Inv (cxComp X scope (tg ++ cs) C fp s2 H2) [] σ8 H10 s10 := I10.pins_of fun p hp => nomatch hp
          have I12 : Inv (cxComp X scope (tg ++ cs) C fp s2 H2) [] σ8 H10 { s10 with heap := s10.heap.update D (Obj.mapSeq (·.push y)) } :=
            I11.turned (t' := s10.toks) (fun b o hb e => (Heap.get?_update_other s10.heap (Obj.mapSeq (·.push y)) (Ne.symm hb)).trans e) p3 hDC (.inr (by show s2.heap.objs.size ≤ D; rw [hDg]; exact Nat.le_refl _)) DcY (fun p hp => nomatch hp)
          refine wpAny_pure (wpAny_pure ⟨rfl, again (its' := its ++ [y]) I12 kp8 (fun b hb o e => ?_) p2 p3 g10 (v5.append (.cons rv .nil)) nx⟩)
          exact (Heap.get?_update_other s10.heap (Obj.mapSeq (·.push y)) (fun z : D = b => Dfp (z ▸ hb))).trans (p1 b hb o e)
    · rw [e4]; exact T.keep _ _ _ st2 fun b _ o e => old b o e
  exact codeAny_compStart_list (loop _ rfl) (T.self _ 0 _ _ _ (T.keep _ _ _ st2 fun b _ o e => old b o e) (loop _ rfl))
theorem pe_comp {elt target iter : Expr} {ifs : List Expr} {scope : Scope} {pos : Pos} {tg cs : List Str} {ix : List Nat} {wi : TI} {g : TG} {tc : TT} {te : TE} (S : CompScope X scope tg cs ix) (hcalm : X.calm = true) (kg : KeepsG tg.length ix g)
    (hi : PI X target iter wi) (hg : ∀ C fp s H, PG (cxComp X scope (tg ++ cs) C fp s H) target g) (hc : ∀ C fp s H, PTs (cxComp X scope (tg ++ cs) C fp s H) ifs tc) (he : ∀ C fp s H, PE (cxComp X scope (tg ++ cs) C fp s H) elt te)
    (hs : ∀ x, foldedSetIterable iter X.env x = pure x := by intro _; rfl) : PE X (.ListComp elt [⟨target, iter, ifs, 0⟩] scope pos) (tComp wi tg.length ix g tc te) := by
  intro pins s σ H Q I h
  rw [eval_ListComp]
  refine comp_core S hcalm kg hi hg hc he hs I h fun D C H' s' v I' q fp z => ?_
  obtain ⟨f0, c1, _, c3, c4, c5⟩ := fp
  obtain ⟨m, hm⟩ := z
  exact ⟨m, hm, fun h' sb => ⟨.ref D, H', I'.turned (t' := s'.toks) (fun b o hb e => (sb.2 b hb).trans e) f0 c1 c3 c4 c5, rfl, q⟩⟩
end
end L2
end
section
set_option maxHeartbeats 4000000
namespace Srt
open PySem PySem.W PyProof.Rows
section
variable {O : KeyOrd} (key : Nat → O.α)
variable {key}
end
end Srt
end
section
set_option maxHeartbeats 4000000
namespace L2
open PySem PySem.Spec PyProof.Rows
theorem lex_irrefl : ∀ a : List Int, HT.lexLt a a = false
  | [] => rfl
  | x :: r => by rw [HT.lexLt_cons, if_pos rfl]; exact lex_irrefl r
theorem lex_trans : ∀ a b c : List Int, HT.lexLt a b = true → HT.lexLt b c = true → HT.lexLt a c = true
  | [], _, [], h1, h2 => by
    rename_i b
    cases b with
    | nil => exact h1
    | cons y r => cases h2
  | [], _, _ :: _, _, _ => rfl
  | x :: r, [], _, h1, _ => by cases h1
  | x :: r, y :: t, [], _, h2 => by cases h2
  | x :: r, y :: t, z :: u, h1, h2 => by
    rw [HT.lexLt_cons] at *
    by_cases e1 : x = y
    · rw [if_pos e1] at h1
      by_cases e2 : y = z
      · rw [if_pos e2] at h2
        rw [if_pos (e1.trans e2)]
        exact lex_trans r t u h1 h2
      · rw [if_neg e2] at h2
        rw [if_neg (by lia)]
        rw [e1]; exact h2
    · rw [if_neg e1] at h1
      have h1 := of_decide_eq_true h1
      by_cases e2 : y = z
      · rw [if_neg (by lia)]
        exact decide_eq_true (by lia)
      · rw [if_neg e2] at h2
        have h2 := of_decide_eq_true h2
        rw [if_neg (by lia)]
        exact decide_eq_true (by lia)
theorem lex_total : ∀ a b : List Int, HT.lexLt a b = false → HT.lexLt b a = false → a = b
  | [], [], _, _ => rfl
  | [], _ :: _, h, _ => by cases h
  | _ :: _, [], _, h => by cases h
  | x :: r, y :: t, h1, h2 => by
    rw [HT.lexLt_cons] at *
    by_cases e : x = y
    · rw [if_pos e] at h1
      rw [if_pos e.symm] at h2
      rw [e, lex_total r t h1 h2]
    · rw [if_neg e] at h1
      rw [if_neg (Ne.symm e)] at h2
      have h1 := of_decide_eq_false h1
      have h2 := of_decide_eq_false h2
      lia
theorem lex_negTrans : ∀ a b c : List Int, HT.lexLt a c = true → HT.lexLt a b = true ∨ HT.lexLt b c = true := fun a b c h => by
  cases h1 : HT.lexLt a b with
  | true => exact .inl rfl
  | false =>
    right
    cases h2 : HT.lexLt b a with
    | true => exact lex_trans b a c h2 h
    | false => rw [← lex_total a b h1 h2]; exact h
def lexOrd : KeyOrd := ⟨List Int, HT.lexLt, lex_irrefl, lex_trans, lex_negTrans, lex_total⟩
def lexLe (a b : List Int) : Bool := !HT.lexLt b a
theorem lexLe_trans (a b c : List Int) (h1 : lexLe a b = true) (h2 : lexLe b c = true) : lexLe a c = true := by
  unfold lexLe at *
  cases h : HT.lexLt c a with
  | false => rfl
  | true =>
    rcases lex_negTrans c b a h with z | z
    · rw [z] at h2; cases h2
    · rw [z] at h1; cases h1
theorem lexLe_total (a b : List Int) : (lexLe a b || lexLe b a) = true := by
  unfold lexLe
  cases h : HT.lexLt b a with
  | false => rfl
  | true =>
    cases h' : HT.lexLt a b with
    | false => rfl
    | true => have := lex_trans a b a h' h; rw [lex_irrefl] at this; cases this
theorem lexLe_anti (a b : List Int) (h1 : lexLe a b = true) (h2 : lexLe b a = true) : a = b := by
  unfold lexLe at *
  exact lex_total a b (by simpa using h2) (by simpa using h1)
def srt (l : List (List Int)) : List (List Int) := l.mergeSort lexLe
theorem srt_perm (l : List (List Int)) : (srt l).Perm l := List.mergeSort_perm l lexLe
theorem srt_sorted (l : List (List Int)) : (srt l).Pairwise (fun a b => lexLe a b = true) := List.pairwise_mergeSort (le := lexLe) lexLe_trans lexLe_total l
theorem sorted_unique : ∀ {a b : List (List Int)}, a.Perm b → a.Pairwise (fun a b => lexLe a b = true) → b.Pairwise (fun a b => lexLe a b = true) → a = b
  | [], b, p, _, _ => (List.perm_nil.mp p.symm).symm
  | x :: r, [], p, _, _ => by have := p.length_eq; simp at this
  | x :: r, y :: t, p, ha, hb => by
    rw [List.pairwise_cons] at ha hb
    have e : x = y := by
      have hx : x ∈ y :: t := p.mem_iff.mp List.mem_cons_self
      have hy : y ∈ x :: r := p.mem_iff.mpr List.mem_cons_self
      rcases List.mem_cons.mp hx with h | h
      · exact h
      · rcases List.mem_cons.mp hy with h' | h'
        · exact h'.symm
        · exact lexLe_anti x y (ha.1 y h') (hb.1 x h)
    subst e
    rw [sorted_unique (List.Perm.cons_inv p) ha.2 hb.2]
theorem srt_of {a l : List (List Int)} (p : a.Perm l) (h : a.Pairwise (fun a b => lexLe a b = true)) : a = srt l := sorted_unique (p.trans (srt_perm l).symm) h (srt_sorted l)

section
variable {X : Cx} {pins : List (Addr × Obj)} {σ : St} {H : Hp} {s : Shared}
end
section
variable {prog : Program} {w : World} {A : Around} {E : Value → Shared → Prop} {s : Shared}
theorem sort_few {a : Addr} {vs : List Value} {n : Nat} {R : PySem.Fin → Shared → Prop} (ho : s.heap.get? a = some (seqObj "list" vs.toArray n)) (hf : vs.length < 2)
    (h : R (.done (.ret .none)) { s with heap := sortedHeap s.heap a vs vs.toArray }) : wpAny (model prog w) A (Builtin.«list.sort» ⟨[.ref a], []⟩) R E s := by
  have hlt : a < s.heap.objs.size := Heap.lt_size ho
  have few : vs.toArray.size < 2 := by rw [List.size_toArray]; exact hf
  have hz : vs.length ≤ sizeLine := by rw [sizeLine_eq]; lia
  obtain ⟨e, he⟩ : ∃ e, (s.heap.update a (Obj.mapSeq fun _ => #[])).get? a = some (seqObj "list" #[] e) := ⟨_, get?_update_seq ho (fun _ => #[])⟩
  rw [list_sort_plain]
  refine wpAny_bind (listItems_at ho rfl (wpAny_bind (listUpdate_at ho rfl (wpAny_bind (seqEpoch_at he rfl (wpAny_bind (wpAny_newTuple (wpAny_bind (wpAny_newList (wpAny_holding ?_))) (hsz := hz))))) (by rw [List.size_toArray]; lia))))
  have he2 : (((s.heap.update a (Obj.mapSeq fun _ => #[])).push (seqObj "tuple" vs.toArray 0)).push (seqObj "list" #[] 0)).get? a = some (seqObj "list" #[] e) := Heap.get?_push_of_some _ (Heap.get?_push_of_some _ he)
  dsimp only
  rw [if_pos few, if_pos few]
  refine wpAny_bind (wpAny_pure ?_); rw [StateT.run_pure]; refine wpAny_bind (wpAny_pure ?_); dsimp only
  have em : Array.map (fun x : Value × Value => x.2) (arrOf (SortSt.mk' general' (vs.toArray.zip vs.toArray) #[] 7 none)) = vs.toArray := by
    show Array.map (fun x : Value × Value => x.2) (vs.toArray.zip vs.toArray) = vs.toArray
    apply Array.ext <;> simp
  refine wpAny_bind (seqEpoch_at he2 rfl (wpAny_bind (listUpdate_at he2 rfl ?_ (hsz2 := by rw [em, List.size_toArray]; lia))))
  rw [em]
  simp only [bne_self_eq_false, Bool.false_eq_true, if_false]
  exact wpAny_pure h
theorem sorted_few {l : Addr} {vs : List Value} {Q : Value → Shared → Prop} (hl : s.heap.IsList l vs.toArray) (hf : vs.length < 2) (h : Q (.ref (s.heap.objs.size + 1)) { s with heap := sortedAll s.heap vs vs.toArray }) : wpAny (model prog w) A (call (.builtin "sorted") [.ref l]) Q E s := by
  have hz : vs.length ≤ sizeLine := by rw [sizeLine_eq]; lia
  have z1 : ((s.heap.push (seqObj "list" #[] 0)).update s.heap.objs.size (Obj.mapSeq (· ++ vs.toArray))).objs.size = s.heap.objs.size + 1 := by rw [Heap.size_update, size_push']
  have z2 : (((s.heap.push (seqObj "list" #[] 0)).update s.heap.objs.size (Obj.mapSeq (· ++ vs.toArray))).push (seqObj "list" vs.toArray 0)).get? (s.heap.objs.size + 1) = some (seqObj "list" vs.toArray 0) := z1 ▸ Heap.get?_push_size _ rfl
  have col := fun R r => collect_list (prog := prog) (w := w) (A := A.in1) (E := E) (Q := R) hl r hz
  refine Calls.call_function_entry kind_sorted plain_sorted entry_sorted (args_sorted1 _) (wpAny_bind (m := checkCount "sorted" 1 1 _) (wpAny_pure (wpAny_bind (m := collect (.ref l)) (col _ (wpAny_bind (wpAny_newList ?_ (hsz := hz)))))))
  dsimp only
  rw [z1]
  refine wpAny_bind (wpAny_holding (wpAny_call_entry slot_list_sort ⟨_, z2, rfl⟩ entry_list_sort (sort_few z2 hf ⟨_, rfl, wpAny_pure ⟨_, rfl, h⟩⟩) (args_list_sort _)))
end

section
variable {X : Cx} {pins : List (Addr × Obj)} {σ : St} {H : Hp} {s : Shared}
theorem Inv.trackN {D : Addr} {o : HO} (I : Inv X pins σ H s) (hn : H D = none) (hs : X.s₀.heap.get? D = none) (hL : D ≠ X.env.locals) (hc : ∀ x c, X.env.cells.lookup x = some c → c ≠ D) (hp : ∀ p ∈ X.pn ++ pins, p.1 ≠ D)
    (new : ObjOk X.prog X.w (upd H D o) s.heap D o) : Inv X pins σ (upd H D o) s := by
  have nb : ∀ b ob, X.s₀.heap.get? b = some ob → b ≠ D := fun b ob e z => by subst z; rw [hs] at e; cases e
  have nt : ∀ b u, H b = some u → b ≠ D := fun b u e => ne_of_none e hn
  refine ⟨I.ok, I.os, I.bare, ⟨I.base.keep, I.base.slot, fun b ob e n hx => by rw [upd_ne (nb b ob e)]; exact I.base.free b ob e n hx, I.base.there, fun b xs e => ?_, fun b ob u e => ?_, fun b ps e => ?_⟩, I.loc, I.cell, by rw [upd_ne hL.symm]; exact I.free, fun x c e => by rw [upd_ne (hc x c e)]; exact I.freeC x c e, fun p hpp => ?_, fun b u e => ?_, I.len⟩
  · have q := I.base.tups b xs e
    rw [upd_ne (nt b _ q)]; exact q
  · have q := I.base.frzs b ob u e
    rw [upd_ne (nt b _ q)]; exact q
  · obtain ⟨more, q⟩ := I.base.tbls b ps e
    exact ⟨more, by rw [upd_ne (nt b _ q)]; exact q⟩
  · obtain ⟨a, b, c, d, e⟩ := I.pin p hpp
    exact ⟨a, by rw [upd_ne (hp p hpp)]; exact b, c, d, e⟩
  · by_cases hb : b = D
    · subst hb; rw [upd_same] at e; cases e; exact new
    · rw [upd_ne hb] at e
      exact (I.hok b u e).stay (fun _ _ _ q => q) (fun c q => by rw [upd_ne (nt c _ q)]; exact q) fun c xs q => by rw [upd_ne (nt c _ q)]; exact q
theorem lex_ask {prog : Program} {w : World} {A : Around} {Q : Bool → Shared → Prop} : ∀ (ns ms : List Int) {us vs : List Value} (i : Nat) {fin : Bool}, Vals (ns.map V.int) us → Vals (ms.map V.int) vs → fin = decide (us.length < vs.length) → Q (HT.lexLt ns ms) s →
    PySem.W.KatLex prog w A true fin Q (us.zip vs) i s := by
  intro ns
  induction ns with
  | nil =>
    intro ms us vs i fin r r' hf h
    have r : Vals [] us := r
    cases r
    cases ms with
    | nil =>
      have r' : Vals [] vs := r'
      cases r'
      subst hf
      exact h
    | cons m ms =>
      have r' : Vals (V.int m :: ms.map V.int) vs := r'
      cases r' with
      | cons a b =>
        subst hf
        exact h
  | cons n ns ih =>
    intro ms us vs i fin r r' hf h
    have r : Vals (V.int n :: ns.map V.int) us := r
    cases r with
    | cons q1 t =>
      cases ms with
      | nil =>
        have r' : Vals [] vs := r'
        cases r'
        subst hf
        exact h
      | cons m ms =>
        have r' : Vals (V.int m :: ms.map V.int) vs := r'
        cases r' with
        | cons q2 t' =>
          obtain ⟨tk, rfl⟩ := q1
          obtain ⟨tk', rfl⟩ := q2
          rw [HT.lexLt_cons] at h
          rw [List.zip_cons_cons]
          refine PySem.W.kat_cons (SeqAt.EqAt.int_int n tk m tk' prog w _ _ ?_)
          by_cases e : n = m
          · rw [if_pos e] at h
            rw [show (n == m) = true by simpa using e]
            refine PySem.W.kat_yes (ih ms (i + 1) t t' ?_ h)
            rw [hf]
            simp
          · rw [if_neg e] at h
            rw [show (n == m) = false by simpa using e]
            refine PySem.W.kat_no ?_
            by_cases hi : i = 0
            · subst hi
              exact oneLt_int h
            · rw [show (true && i == 0) = false by simp [hi]]
              exact PySem.W.kat_one _ _ (lt_int (show PySem.W.BoolBack _ (Value.bool _) _ from h))
theorem first_of {h : Heap} {p : Addr} {ms : List Int} {its : List Value} (hne : ms ≠ []) (r : Vals (ms.map V.int) its) (ht : IsTup h p its.toArray) : ∃ (f : Value) (o : Obj) (n : Nat), (∃ i t, f = Value.int i t) ∧ h.get? p = some o ∧ o.cls = .type "tuple" ∧ o.data = .seq its.toArray n ∧ its.toArray[0]? = some f := by
  obtain ⟨o, ho, hc, n, hd⟩ := ht
  cases ms with
  | nil => exact absurd rfl hne
  | cons m ms =>
    have r : Vals (V.int m :: ms.map V.int) its := r
    cases r with
    | cons r1 r2 =>
      obtain ⟨t, rfl⟩ := r1
      exact ⟨_, o, n, ⟨m, t, rfl⟩, ho, hc, hd, by simp⟩
theorem katTups_of {h : Heap} (hT : ∀ a xs, SqT X.K H a xs → ∃ its : List Value, Vals xs its ∧ IsTup h a its.toArray) {ps : List Addr} {mss : List (List Int)} (ht : Tups X.K H ps mss) : (∀ ms ∈ mss, ms ≠ []) →
    ∃ fs : List Value, PySem.W.KatTups h (ps.map Value.ref) fs ∧ fs.length = ps.length ∧ ∀ v ∈ fs, ∃ i t, v = Value.int i t := by
  unfold Tups at ht
  induction ht with
  | nil => exact fun _ => ⟨[], trivial, rfl, (fun _ h => nomatch h)⟩
  | cons hp t ih =>
    intro hne
    obtain ⟨fs, h1, h2, h3⟩ := ih fun m hm => hne m (List.mem_cons_of_mem _ hm)
    obtain ⟨its, r, tt⟩ := hT _ _ hp
    obtain ⟨f, o, n, hi, ho, hc, hd, h0⟩ := first_of (hne _ List.mem_cons_self) r tt
    refine ⟨f :: fs, PySem.W.KatTups.cons ho hc hd h0 h1, by simp [h2], fun v hv => ?_⟩
    rcases List.mem_cons.mp hv with rfl | hv
    · exact hi
    · exact h3 v hv
theorem vals_refs : ∀ {ps : List Addr} {us : List Value}, Vals (ps.map V.ref) us → us = ps.map Value.ref
  | [], _, .nil => rfl
  | p :: ps, _, .cons r t => by
    rw [vals_refs t]
    cases r
    rfl
theorem refs_vals : ∀ (ps : List Addr), Vals (ps.map V.ref) (ps.map Value.ref)
  | [] => .nil
  | p :: ps => .cons rfl (refs_vals ps)
end
end L2
end
section
set_option maxHeartbeats 4000000
namespace L2
open PySem PySem.Spec PyProof.Rows
theorem ObjOk.there {P : Program} {w : World} {H : Hp} {h : Heap} {a : Addr} {o : HO} (x : ObjOk P w H h a o) : ∃ ob, h.get? a = some ob := by
  cases o with
  | lst xs => obtain ⟨_, _, _, _, e⟩ := x; exact ⟨_, e⟩
  | tup xs => obtain ⟨_, _, _, ob, e, _⟩ := x; exact ⟨_, e⟩
  | dK kvs => obtain ⟨_, _, _, _, o, _, _, e, _⟩ := x; exact ⟨_, e⟩
  | dT kvs => obtain ⟨_, _, _, _, o, _, _, e, _⟩ := x; exact ⟨_, e⟩
  | set S n => obtain ⟨o, _, _, _, e, _⟩ := x; exact ⟨_, e⟩
  | ins C dx fs => obtain ⟨_, _, _, e, _⟩ := x; exact ⟨_, e⟩
  | own y => exact x
  | xd fs => obtain ⟨_, ⟨_, _, _, e, _⟩, _⟩ := x; exact ⟨_, e⟩
  | rng lo hi => obtain ⟨_, _, _, e⟩ := x; exact ⟨_, e⟩
  | frz ob u => obtain ⟨e, _⟩ := x; exact ⟨_, e⟩
  | tbl ps => exact ⟨_, x⟩
  | met f y => exact ⟨_, x⟩
  | ext φ => exact x.2.1
end L2
end
section
set_option maxHeartbeats 4000000
namespace L2
open PySem PySem.Spec PyProof.Rows
section
variable {X : Cx} {pins : List (Addr × Obj)} {σ : St} {H : Hp} {s : Shared}
end
section
variable {X : Cx}
end

def CompOk (scope osc : Scope) (N tg cs : List Str) (ix : List Nat) : Prop :=
  (∀ y ∈ scope.names, y.2 ≠ .cell) ∧ (∀ y ∈ scope.names, y.2 = .local → scope.names.lookup y.1 = some .local) ∧ (tg ++ cs).Nodup ∧ ix.map (fun i => N[i]?) = cs.map some ∧
  (∀ x ∈ cs, (x, NameKind.free) ∈ scope.names ∧ scope.names.lookup x = some .free) ∧ ∀ y ∈ scope.names, y.2 = .free → osc.names.lookup y.1 = some .cell ∨ osc.names.lookup y.1 = some .free
instance (scope osc : Scope) (N tg cs : List Str) (ix : List Nat) : Decidable (CompOk scope osc N tg cs ix) := by unfold CompOk; infer_instance
theorem comp_scope {X : Cx} {scope : Scope} {tg cs : List Str} {ix : List Nat} (osc : Scope) (N : List Str) (h : CompOk scope osc N tg cs ix) (hk : scope.kind = .function := by rfl) (ho : X.env.scope = osc := by rfl) (hN : X.N = N := by rfl) : CompScope X scope tg cs ix := by
  obtain ⟨h1, h2, h3, h4, h5, h6⟩ := h
  exact ⟨hk, h1, h2, h3, by rw [hN]; exact h4, h5, fun x hx => by rw [ho]; exact h6 (x, .free) hx rfl⟩
end L2
end
section
set_option maxHeartbeats 4000000
namespace L2
open PySem PySem.Spec PyProof.Rows
section
variable {X : Cx} {pins : List (Addr × Obj)} {σ : St} {H H1 : Hp} {s : Shared}
theorem ps_compU {elt target iter : Expr} {ifs : List Expr} {scope : Scope} {pos spos py : Pos} {yy : Str} {ii : Nat} {tg cs : List Str} {ix : List Nat} {wi : TI} {g : TG} {tc : TT} {te : TE} (hN0 : X.N.Nodup) (hi0 : X.N[ii]? = some yy) (hx0 : Loc X.env.scope yy)
    (S : CompScope X scope tg cs ix) (hcalm : X.calm = true) (kg : KeepsG tg.length ix g)
    (hi : PI X target iter wi) (hg : ∀ C fp s H, PG (cxComp X scope (tg ++ cs) C fp s H) target g) (hc : ∀ C fp s H, PTs (cxComp X scope (tg ++ cs) C fp s H) ifs tc) (he : ∀ C fp s H, PE (cxComp X scope (tg ++ cs) C fp s H) elt te)
    (hf0 : X.fn yy = true ∨ X.env.scope.names.lookup yy = some .local)
    (hsw : swapsWith (.ListComp elt [⟨target, iter, ifs, 0⟩] scope pos) (some (.Name yy py)) spos.line X.env = pure true)
    (hs : ∀ x, foldedSetIterable iter X.env x = pure x := by intro _; rfl) : PS X (.Assign [.Name yy py] (.ListComp elt [⟨target, iter, ifs, 0⟩] scope pos) spos) (tAsg (tComp wi tg.length ix g tc te) (gName ii)) := by
  intro pins s σ H Dn I h
  rw [exec_Assign_Name_used _ _ _ _ hsw]
  refine wpAny_bind (wpAny_standAt (wpAny_bind ?_))
  show wpAny _ X.A (do let _ ← comprehension (.ListComp elt [⟨target, iter, ifs, 0⟩] scope pos) scope X.env _ (newList []) false (eval iter X.env) (some (assign (.Name yy py) X.env))) _ _ s
  refine wpAny_bind (wpAny_mono (comp_core (use := some (assign (.Name yy py) X.env)) (Qc := fun _ s' => SP X pins Dn .next s') S hcalm kg hi hg hc he hs I h fun D C H' s' v I' q fp z => ?_) (fun _ s' hq => wpAny_pure (wpAny_pure hq)) fun _ _ e => e)
  obtain ⟨f0, c1, _, c3, c4, c5⟩ := fp
  obtain ⟨m, hm⟩ := z
  show wpAny _ X.A (assign (.Name yy py) X.env (.ref D)) _ _ s'
  refine wpAny_assign_Name (store_ok2 (v := .ref D) I' hN0 hi0 hx0 rfl (fun s'' I'' zq => ?_) hf0)
  obtain ⟨a, sb, ha⟩ := zq
  have hCa : C ≠ a := by
    rcases ha with rfl | ha
    · exact c1
    · exact (c4 _ _ ha).symm
  exact ⟨m, hm.sameBut sb hCa, fun h' sb' => ⟨_, _, I''.turned (t' := s''.toks) (it := C) (fun b o hb e => (sb'.2 b hb).trans e) f0 c1 c3 c4 c5, q⟩⟩
end
end L2
end
section
set_option maxHeartbeats 4000000
namespace VL
open PySem L2
inductive D where
  | int (i : Int) | bl (b : Bool) | non | str (x : Str) | ty (n : String) | tup (ds : List D) | lst (ds : List D) | dic (ks : List (List Int)) (vs : List D) | exc (c : Value)
def kT (ms : List Int) : D := .tup (ms.map .int)
def IsM : Option HO → Prop
  | some (.lst _) => True
  | some (.ext _) => True
  | _ => False
theorem IsM.ne {o : Option HO} (h : IsM o) : o ≠ none := by rintro rfl; exact h
abbrev AP := Addr → Prop
def Any : AP := fun _ => True
abbrev FP := Option Addr → Prop
def AnyF : FP := fun _ => True
def Fr (H0 : Hp) : FP := fun o => ∃ a, o = some a ∧ H0 a = none
mutual
inductive Rep (K : PySem.W.Frag) (N : AP) (F : FP) (H : Hp) : V → D → Prop where
  | int (i : Int) : Rep K N F H (.int i) (.int i)
  | bl (b : Bool) : Rep K N F H (.bl b) (.bl b)
  | non : Rep K N F H .non .non
  | str (x : Str) : Rep K N F H (.str x) (.str x)
  | ty (x : String) : Rep K N F H (.ty x) (.ty x)
  | tup {a : Addr} {vs : List V} {ds : List D} (n : N a) (h : Rd H a (.tup vs)) (r : Reps K N F H vs ds) : Rep K N F H (.ref a) (.tup ds)
  | tupK {a : Addr} {vs : List V} {ds : List D} (h : SqT K (fun _ => none) a vs) (r : Reps K N F H vs ds) : Rep K N F H (.ref a) (.tup ds)
  | lst {a : Addr} {vs : List V} {ds : List D} (n : N a) (f : F (some a)) (h : H a = some (.lst vs)) (r : Reps K N F H vs ds) : Rep K N F H (.ref a) (.lst ds)
  | lstF {a : Addr} {vs : List V} {ds : List D} {o : Obj} (n : N a) (f : F none) (h : H a = some (.frz o (.lst vs))) (r : Reps K N F H vs ds) : Rep K N F H (.ref a) (.lst ds)
  | lstK {a : Addr} {vs : List V} {ds : List D} (f : F none) (h : SqL K (fun _ => none) a vs) (r : Reps K N F H vs ds) : Rep K N F H (.ref a) (.lst ds)
  | dic {a : Addr} {ob : Obj} {es : List (List Int × Addr × V)} {ks : List (List Int)} {ds : List D} (n : N a) (f : F (some a)) (h : H a = some (DctO a ob es)) (e : es.map (·.1) = ks) (rk : Reps K N F H (es.map fun x => .ref x.2.1) (ks.map kT)) (r : Reps K N F H (es.map (·.2.2)) ds) : Rep K N F H (.ref a) (.dic ks ds)
  | exc {x : Addr} {c : Value} {o : Obj} (n : N x) (h : H x = some (.frz o (.own x))) (e : o.cls = c) : Rep K N F H (.ref x) (.exc c)
inductive Reps (K : PySem.W.Frag) (N : AP) (F : FP) (H : Hp) : List V → List D → Prop where
  | nil : Reps K N F H [] []
  | cons {v : V} {d : D} {vs : List V} {ds : List D} (h : Rep K N F H v d) (t : Reps K N F H vs ds) : Reps K N F H (v :: vs) (d :: ds)
end
section
variable {K : PySem.W.Frag} {N N' : AP} {F F' : FP} {H H' H0 : Hp}
theorem Rd.there {a : Addr} {u : HO} (h : Rd H a u) : H a ≠ none := by rcases h with h | ⟨o, h⟩ <;> simp [h]
theorem Rd.keep {a : Addr} {u : HO} (h : Rd H a u) (e : H' a = H a) : Rd H' a u := by
  rcases h with h | ⟨o, h⟩
  · exact .inl (e.trans h)
  · exact .inr ⟨o, e.trans h⟩
mutual
theorem Rep.mono (hN : ∀ a, N a → H a ≠ none → N' a ∧ H' a = H a) (hF : ∀ o, F o → F' o) {v : V} {d : D} : Rep K N F H v d → Rep K N' F' H' v d
  | .int i => .int i
  | .bl i => .bl i
  | .non => .non
  | .str i => .str i
  | .ty i => .ty i
  | .tup n h r => .tup (hN _ n (Rd.there h)).1 (Rd.keep h (hN _ n (Rd.there h)).2) (Reps.mono hN hF r)
  | .tupK h r => .tupK h (Reps.mono hN hF r)
  | .lst n f h r => .lst (hN _ n (by simp [h])).1 (hF _ f) ((hN _ n (by simp [h])).2.trans h) (Reps.mono hN hF r)
  | .lstF n f h r => .lstF (hN _ n (by simp [h])).1 (hF _ f) ((hN _ n (by simp [h])).2.trans h) (Reps.mono hN hF r)
  | .lstK f h r => .lstK (hF _ f) h (Reps.mono hN hF r)
  | .dic n f h e rk r => .dic (hN _ n (by simp [h])).1 (hF _ f) ((hN _ n (by simp [h])).2.trans h) e (Reps.mono hN hF rk) (Reps.mono hN hF r)
  | .exc n h e => .exc (hN _ n (by simp [h])).1 ((hN _ n (by simp [h])).2.trans h) e
theorem Reps.mono (hN : ∀ a, N a → H a ≠ none → N' a ∧ H' a = H a) (hF : ∀ o, F o → F' o) {vs : List V} {ds : List D} : Reps K N F H vs ds → Reps K N' F' H' vs ds
  | .nil => .nil
  | .cons h t => .cons (Rep.mono hN hF h) (Reps.mono hN hF t)
end
theorem Rep.any {v : V} {d : D} (h : Rep K N F H v d) : Rep K Any AnyF H v d := h.mono (fun _ _ _ => ⟨trivial, rfl⟩) (fun _ _ => trivial)
theorem Reps.any {vs : List V} {ds : List D} (h : Reps K N F H vs ds) : Reps K Any AnyF H vs ds := h.mono (fun _ _ _ => ⟨trivial, rfl⟩) (fun _ _ => trivial)
mutual
theorem Rep.avoid (h1 : ∀ a, ¬N' a → IsM (H a)) (h2 : ∀ a, F (some a) → N' a) {v : V} {d : D} : Rep K N F H v d → Rep K N' F H v d
  | .int i => .int i
  | .bl i => .bl i
  | .non => .non
  | .str i => .str i
  | .ty i => .ty i
  | .tup (a := a) n h r => .tup (Classical.byContradiction fun z => by
      have e := h1 a z
      rcases h with h | ⟨o, h⟩ <;> rw [h] at e <;> exact e) h (Reps.avoid h1 h2 r)
  | .tupK h r => .tupK h (Reps.avoid h1 h2 r)
  | .lst n f h r => .lst (h2 _ f) f h (Reps.avoid h1 h2 r)
  | .lstF (a := a) n f h r => .lstF (Classical.byContradiction fun z => by
      have e := h1 a z
      rw [h] at e; exact e) f h (Reps.avoid h1 h2 r)
  | .lstK f h r => .lstK f h (Reps.avoid h1 h2 r)
  | .dic n f h e rk r => .dic (h2 _ f) f h e (Reps.avoid h1 h2 rk) (Reps.avoid h1 h2 r)
  | .exc (x := a) n h e => .exc (Classical.byContradiction fun z => by
      have e := h1 a z
      rw [h] at e; exact e) h e
theorem Reps.avoid (h1 : ∀ a, ¬N' a → IsM (H a)) (h2 : ∀ a, F (some a) → N' a) {vs : List V} {ds : List D} : Reps K N F H vs ds → Reps K N' F H vs ds
  | .nil => .nil
  | .cons h t => .cons (Rep.avoid h1 h2 h) (Reps.avoid h1 h2 t)
end
mutual
def flat : D → Bool
  | .lst _ => false
  | .dic _ _ => false
  | .tup ds => flats ds
  | _ => true
def flats : List D → Bool
  | [] => true
  | d :: r => flat d && flats r
end
theorem flats_intsW : ∀ ms : List Int, flats (ms.map D.int) = true
  | [] => rfl
  | _ :: r => by simp [flats, flat, flats_intsW r]
theorem flats_kT : ∀ ks : List (List Int), flats (ks.map kT) = true
  | [] => rfl
  | _ :: r => by simp [flats, kT, flat, flats_intsW, flats_kT r]
mutual
theorem Rep.flat {v : V} {d : D} : Rep K N F H v d → VL.flat d = true → Rep K N F' H v d
  | .int i, _ => .int i
  | .bl i, _ => .bl i
  | .non, _ => .non
  | .str i, _ => .str i
  | .ty i, _ => .ty i
  | .tup n h r, e => .tup n h (Reps.flat r (by simpa [VL.flat] using e))
  | .tupK h r, e => .tupK h (Reps.flat r (by simpa [VL.flat] using e))
  | .lst n f h r, e => by simp [VL.flat] at e
  | .lstF n f h r, e => by simp [VL.flat] at e
  | .lstK f h r, e => by simp [VL.flat] at e
  | .dic n f h _ _ r, e => by simp [VL.flat] at e
  | .exc n h e, _ => .exc n h e
theorem Reps.flat {vs : List V} {ds : List D} : Reps K N F H vs ds → flats ds = true → Reps K N F' H vs ds
  | .nil, _ => .nil
  | .cons h t, e => by
    simp only [flats, Bool.and_eq_true] at e
    exact .cons (Rep.flat h e.1) (Reps.flat t e.2)
end
theorem Reps.length : ∀ {vs : List V} {ds : List D}, Reps K N F H vs ds → vs.length = ds.length
  | _, _, .nil => rfl
  | _, _, .cons _ t => by simp [Reps.length t]
theorem Reps.get : ∀ {vs : List V} {ds : List D} {i : Nat} {v : V}, Reps K N F H vs ds → vs[i]? = some v → ∃ d, ds[i]? = some d ∧ Rep K N F H v d
  | _, _, 0, _, .cons h _, e => by simp at e; subst e; exact ⟨_, rfl, h⟩
  | _, _, i + 1, v, .cons _ t, e => by
    obtain ⟨d, h1, h2⟩ := Reps.get (i := i) (v := v) t (by simpa using e)
    exact ⟨d, by simpa using h1, h2⟩
  | _, _, _, _, .nil, e => by simp at e
theorem Reps.getD : ∀ {vs : List V} {ds : List D} {i : Nat} {d : D}, Reps K N F H vs ds → ds[i]? = some d → ∃ v, vs[i]? = some v ∧ Rep K N F H v d
  | _, _, 0, _, .cons h _, e => by simp at e; subst e; exact ⟨_, rfl, h⟩
  | _, _, i + 1, v, .cons _ t, e => by
    obtain ⟨d, h1, h2⟩ := Reps.getD (i := i) (d := v) t (by simpa using e)
    exact ⟨d, by simpa using h1, h2⟩
  | _, _, _, _, .nil, e => by simp at e
theorem Reps.append : ∀ {vs ws : List V} {ds es : List D}, Reps K N F H vs ds → Reps K N F H ws es → Reps K N F H (vs ++ ws) (ds ++ es)
  | _, _, _, _, .nil, s => s
  | _, _, _, _, .cons h t, s => .cons h (Reps.append t s)
theorem Reps.set {v : V} {d : D} (h : Rep K N F H v d) : ∀ {vs : List V} {ds : List D} (i : Nat), Reps K N F H vs ds → Reps K N F H (vs.set i v) (ds.set i d)
  | _, _, _, .nil => by simpa using .nil
  | _, _, 0, .cons _ t => by simpa using .cons h t
  | _, _, i + 1, .cons q t => by simpa using .cons q (Reps.set h i t)
theorem Reps.ints : ∀ {ns : List Int}, Reps K N F H (ns.map V.int) (ns.map D.int)
  | [] => .nil
  | _ :: r => .cons (.int _) (Reps.ints (ns := r))
theorem Reps.toInts : ∀ {vs : List V} {ns : List Int}, Reps K N F H vs (ns.map D.int) → vs = ns.map V.int
  | _, [], .nil => rfl
  | _, n :: ns, .cons h t => by cases h; rw [Reps.toInts t]; rfl
theorem sqT_none {a : Addr} {vs : List V} (h : SqT K (fun _ => none) a vs) : SqT K H a vs := by
  rcases h with (h | ⟨o, h⟩) | h
  · cases h
  · cases h
  · exact .inr h
theorem sqL_none {a : Addr} {vs : List V} (h : SqL K (fun _ => none) a vs) : SqL K H a vs := by
  rcases h with (h | ⟨o, h⟩) | h
  · cases h
  · cases h
  · exact .inr h
theorem Rep.sqT {v : V} {ds : List D} (h : Rep K N F H v (.tup ds)) : ∃ a vs, v = .ref a ∧ SqT K H a vs ∧ Reps K N F H vs ds := by
  cases h with
  | tup n h r => exact ⟨_, _, rfl, .inl h, r⟩
  | tupK h r => exact ⟨_, _, rfl, sqT_none h, r⟩
theorem Rep.sqL {v : V} {ds : List D} (h : Rep K N F H v (.lst ds)) : ∃ a vs, v = .ref a ∧ SqL K H a vs ∧ Reps K N F H vs ds := by
  cases h with
  | lst n f h r => exact ⟨_, _, rfl, .inl (.inl h), r⟩
  | lstF n f h r => exact ⟨_, _, rfl, .inl (.inr ⟨_, h⟩), r⟩
  | lstK f h r => exact ⟨_, _, rfl, sqL_none h, r⟩
theorem Rep.of_sqL {a : Addr} {vs : List V} {ds : List D} (h : SqL K H a vs) (n : N a) (f : ∀ o, F o) (r : Reps K N F H vs ds) : Rep K N F H (.ref a) (.lst ds) := by
  rcases h with (h | ⟨o, h⟩) | h
  · exact .lst n (f _) h r
  · exact .lstF n (f _) h r
  · exact .lstK (f _) (.inr h) r
end

inductive Sl where
  | no | val (d : D) | fre (d : D) | own (ds : List D) | pen (ad : Option Addr) (ns : List Int) | odi (ks : List (List Int)) (vs : List D)
def Sl.mut : Sl → Bool
  | .own _ => true
  | .pen _ _ => true
  | .odi _ _ => true
  | _ => false
def Mo (Z : AP) (σ : St) (S : List Sl) (a : Addr) : Prop := (∃ (i : Nat) (s : Sl), S[i]? = some s ∧ s.mut = true ∧ σ[i]? = some (some (V.ref a))) ∨ Z a
abbrev NM (Z : AP) (σ : St) (S : List Sl) : AP := fun a => ¬Mo Z σ S a
def SlOk (K : PySem.W.Frag) (H0 : Hp) (N : AP) (H : Hp) (o : Option V) : Sl → Prop
  | .no => True
  | .val d => ∃ v, o = some v ∧ Rep K N AnyF H v d
  | .fre d => ∃ v, o = some v ∧ Rep K N (Fr H0) H v d
  | .own ds => ∃ a vs, o = some (.ref a) ∧ H a = some (.lst vs) ∧ H0 a = none ∧ Reps K N (Fr H0) H vs ds
  | .pen ad ns => ∃ a, o = some (.ref a) ∧ (∀ b, ad = some b → a = b) ∧ H a = some (.lst (ns.map .int))
  | .odi ks ds => ∃ a es, o = some (.ref a) ∧ (∃ ob, H a = some (DctO a ob es)) ∧ H0 a = none ∧ (es.map (·.1) = ks ∧ Reps K N AnyF H (es.map fun x => V.ref x.2.1) (ks.map kT)) ∧ Reps K N (Fr H0) H (es.map (·.2.2)) ds
structure OK (K : PySem.W.Frag) (H0 : Hp) (Z : AP) (σ : St) (H : Hp) (S : List Sl) : Prop where
  len : σ.length = S.length
  at_ : ∀ (i : Nat) (o : Option V) (s : Sl), σ[i]? = some o → S[i]? = some s → SlOk K H0 (NM Z σ S) H o s
  inj : ∀ (i j : Nat) (a : Addr) (s t : Sl), S[i]? = some s → S[j]? = some t → s.mut = true → t.mut = true → σ[i]? = some (some (V.ref a)) → σ[j]? = some (some (V.ref a)) → i = j
  dom : ∀ a, H a = none → H0 a = none
  zl : ∀ a, Z a → IsM (H a)
  nz : ∀ (i : Nat) (s : Sl) (a : Addr), S[i]? = some s → s.mut = true → σ[i]? = some (some (V.ref a)) → ¬Z a
def Step (Z : AP) (σ : St) (S : List Sl) (H : Hp) (σ' : St) (S' : List Sl) (H' : Hp) : Prop := (∀ a, NM Z σ S a → H a ≠ none → H' a = H a ∧ NM Z σ' S' a) ∧ (∀ a, H' a = none → H a = none) ∧ ∀ a, Z a → H a ≠ none → H' a = H a
section
variable {K : PySem.W.Frag} {N N' : AP} {F F' : FP} {H H' H'' H0 : Hp} {Z : AP} {σ σ' σ'' : St} {S S' S'' : List Sl}
theorem Step.refl : Step Z σ S H σ S H := ⟨fun _ n _ => ⟨rfl, n⟩, fun _ h => h, fun _ _ _ => rfl⟩
theorem Step.trans (a : Step Z σ S H σ' S' H') (b : Step Z σ' S' H' σ'' S'' H'') : Step Z σ S H σ'' S'' H'' :=
  ⟨fun x n h => by
    obtain ⟨e1, n1⟩ := a.1 x n h
    obtain ⟨e2, n2⟩ := b.1 x n1 (by rw [e1]; exact h)
    exact ⟨e2.trans e1, n2⟩, fun x h => a.2.1 x (b.2.1 x h), fun x z h => by
    have e1 := a.2.2 x z h
    exact (b.2.2 x z (by rw [e1]; exact h)).trans e1⟩
theorem Rep.step {v : V} {d : D} (h : Rep K (NM Z σ S) F H v d) (st : Step Z σ S H σ' S' H') : Rep K (NM Z σ' S') F H' v d := h.mono (fun a n e => ⟨(st.1 a n e).2, (st.1 a n e).1⟩) fun _ x => x
theorem Reps.step {vs : List V} {ds : List D} (h : Reps K (NM Z σ S) F H vs ds) (st : Step Z σ S H σ' S' H') : Reps K (NM Z σ' S') F H' vs ds := h.mono (fun a n e => ⟨(st.1 a n e).2, (st.1 a n e).1⟩) fun _ x => x
theorem OK.mo (k : OK K H0 Z σ H S) {a : Addr} (h : Mo Z σ S a) : IsM (H a) := by
  rcases h with ⟨i, s, e1, e2, e3⟩ | h
  case inr => exact k.zl a h
  have q := k.at_ i _ s e3 e1
  cases s with
  | no => cases e2
  | val d => cases e2
  | fre d => cases e2
  | own ds => obtain ⟨b, vs, h1, h2, _⟩ := q; cases h1; rw [h2]; trivial
  | pen ad ns => obtain ⟨b, h1, _, h2⟩ := q; cases h1; rw [h2]; trivial
  | odi ks ds => obtain ⟨b, kvs, h1, ⟨ob, h2⟩, _⟩ := q; cases h1; rw [h2]; trivial
theorem OK.grow (k : OK K H0 Z σ H S) (h : ∀ a, H a ≠ none → H' a = H a) : OK K H0 Z σ H' S where
  len := k.len
  inj := k.inj
  nz := k.nz
  zl := fun a z => by
    have e := k.zl a z
    rw [h a e.ne]; exact e
  dom := fun a e => k.dom a (Classical.byContradiction fun z => by rw [h a z] at e; exact z e)
  at_ := fun i o s e1 e2 => by
    have q := k.at_ i o s e1 e2
    have hm : ∀ a, NM Z σ S a → H a ≠ none → NM Z σ S a ∧ H' a = H a := fun a n e => ⟨n, h a e⟩
    cases s with
    | no => trivial
    | val d => obtain ⟨v, e, r⟩ := q; exact ⟨v, e, r.mono hm fun _ x => x⟩
    | fre d => obtain ⟨v, e, r⟩ := q; exact ⟨v, e, r.mono hm fun _ x => x⟩
    | own ds => obtain ⟨a, vs, e, e', e0, r⟩ := q; exact ⟨a, vs, e, by rw [h a (by simp [e'])]; exact e', e0, r.mono hm fun _ x => x⟩
    | pen ad ns => obtain ⟨a, e, e1, e'⟩ := q; exact ⟨a, e, e1, by rw [h a (by simp [e'])]; exact e'⟩
    | odi ks ds => obtain ⟨a, vs, e, ⟨ob, e'⟩, e0, ek, r⟩ := q; exact ⟨a, vs, e, ⟨ob, by rw [h a (by simp [e'])]; exact e'⟩, e0, ⟨ek.1, ek.2.mono hm fun _ x => x⟩, r.mono hm fun _ x => x⟩
theorem Step.grow (h : ∀ a, H a ≠ none → H' a = H a) : Step Z σ S H σ S H' := ⟨fun a n e => ⟨h a e, n⟩, fun a e => Classical.byContradiction fun z => by rw [h a z] at e; exact z e, fun a _ e => h a e⟩
theorem upd_grow {p : Addr} {o : HO} (hp : H p = none) : ∀ a, H a ≠ none → upd H p o a = H a := fun a e => upd_ne fun z => e (by rw [z]; exact hp)
end
inductive VR where
  | d (x : D) | own (i : Nat)
def getO : Option Sl → Option D
  | some (.own ds) => some (.lst ds)
  | some (.pen _ ns) => some (.lst (ns.map .int))
  | some (.odi ks vs) => some (.dic ks vs)
  | _ => none
def get (S : List Sl) : VR → Option D
  | .d x => some x
  | .own i => getO S[i]?
def RepR (K : PySem.W.Frag) (F : FP) (Z : AP) (σ : St) (S : List Sl) (H : Hp) (v : V) : VR → Prop
  | .d x => Rep K (NM Z σ S) F H v x
  | .own i => σ[i]? = some (some v)
section
variable {K : PySem.W.Frag} {N N' : AP} {F F' : FP} {H H' H'' H0 : Hp} {Z : AP} {σ σ' σ'' : St} {S S' S'' : List Sl}
theorem RepR.step {v : V} {r : VR} (h : RepR K F Z σ S H v r) (st : Step Z σ S H σ S' H') : RepR K F Z σ S' H' v r := by
  cases r with
  | d x => exact Rep.step h st
  | own i => exact h
theorem RepR.get {v : V} {r : VR} {x : D} (h : RepR K F Z σ S H v r) (k : OK K H0 Z σ H S) (e : get S r = some x) : Rep K Any AnyF H v x := by
  cases r with
  | d y => cases e; exact Rep.any h
  | own i =>
    have h : σ[i]? = some (some v) := h
    have e : getO S[i]? = some x := e
    cases es : S[i]? with
    | none => rw [es] at e; cases e
    | some s =>
      rw [es] at e
      cases s with
      | no => cases e
      | val d => cases e
      | fre d => cases e
      | own ds =>
        cases e
        obtain ⟨a, vs, h1, h2, h3, h4⟩ := k.at_ i _ _ h es
        cases h1
        exact .lst trivial trivial h2 h4.any
      | pen ad ns =>
        cases e
        obtain ⟨a, h1, _, h2⟩ := k.at_ i _ _ h es
        cases h1
        exact .lst trivial trivial h2 Reps.ints
      | odi ks ds =>
        cases e
        obtain ⟨a, kvs, h1, ⟨ob, h2⟩, h3, h4, h5⟩ := k.at_ i _ _ h es
        cases h1
        exact .dic trivial trivial h2 h4.1 h4.2.any h5.any
end
abbrev VT := List Sl → (VR → List Sl → Prop) → Prop
abbrev VTT := List Sl → (Bool → List Sl → Prop) → Prop
abbrev VTA := List Sl → (List VR → List Sl → Prop) → Prop
abbrev VTN := List Sl → (List D → List Sl → Prop) → Prop
def FM (H0 : Hp) (m : Bool) : FP := fun o => m = true → Fr H0 o
def SndE (K : PySem.W.Frag) (m : Bool) (te : TE) (t : VT) : Prop := ∀ H0 Z σ H S Q C, OK K H0 Z σ H S → t S Q → (∀ v H' r S', OK K H0 Z σ H' S' → Step Z σ S H σ S' H' → RepR K (FM H0 m) Z σ S' H' v r → Q r S' → C v H') → te σ H C
def SndT (K : PySem.W.Frag) (te : TT) (t : VTT) : Prop := ∀ H0 Z σ H S Q C, OK K H0 Z σ H S → t S Q → (∀ b H' S', OK K H0 Z σ H' S' → Step Z σ S H σ S' H' → Q b S' → C b H') → te σ H C
inductive RepRs (K : PySem.W.Frag) (F : FP) (Z : AP) (σ : St) (S : List Sl) (H : Hp) : List V → List VR → Prop where
  | nil : RepRs K F Z σ S H [] []
  | cons {v : V} {r : VR} {vs : List V} {rs : List VR} (h : RepR K F Z σ S H v r) (t : RepRs K F Z σ S H vs rs) : RepRs K F Z σ S H (v :: vs) (r :: rs)
def gets (S : List Sl) : List VR → Option (List D)
  | [] => some []
  | r :: rs => match get S r, gets S rs with
    | some d, some ds => some (d :: ds)
    | _, _ => none
def SndA (K : PySem.W.Frag) (m : Bool) (te : TA) (t : VTA) : Prop := ∀ H0 Z σ H S Q C, OK K H0 Z σ H S → t S Q → (∀ vs H' rs S', OK K H0 Z σ H' S' → Step Z σ S H σ S' H' → RepRs K (FM H0 m) Z σ S' H' vs rs → Q rs S' → C vs H') → te σ H C
def SndN (K : PySem.W.Frag) (te : TE) (t : VTN) : Prop := ∀ H0 Z σ H S Q C, OK K H0 Z σ H S → t S Q → (∀ a vs ds H1 H' S', OK K H0 Z σ H1 S' → Step Z σ S H σ S' H1 → H1 a = none → (∀ b, H1 b ≠ none → H' b = H1 b) → H' a = some (.lst vs) →
  Reps K (fun b => NM Z σ S' b ∧ b ≠ a) (Fr H0) H' vs ds → Q ds S' → C (.ref a) H') → te σ H C
structure VE (K : PySem.W.Frag) (X : Cx) (m : Bool) (e : Expr) (te : TE) (t : VT) : Prop where
  pe : PE X e te
  snd : SndE K m te t
structure VTe (K : PySem.W.Frag) (X : Cx) (e : Expr) (te : TT) (t : VTT) : Prop where
  pe : PT X e te
  snd : SndT K te t
structure VWe (K : PySem.W.Frag) (X : Cx) (e : Expr) (te : TT) (t : VTT) : Prop where
  pe : PW X e te
  snd : SndT K te t
structure VA (K : PySem.W.Frag) (X : Cx) (m : Bool) (es : List Expr) (te : TA) (t : VTA) : Prop where
  pe : PA X es te
  snd : SndA K m te t
structure VN (K : PySem.W.Frag) (X : Cx) (e : Expr) (te : TE) (t : VTN) : Prop where
  pe : PE X e te
  snd : SndN K te t
section
variable {K : PySem.W.Frag} {N N' : AP} {F F' : FP} {H H' H'' H0 : Hp} {Z : AP} {σ σ' σ'' : St} {S S' S'' : List Sl}
theorem RepRs.gets {vs : List V} {rs : List VR} {ds : List D} (h : RepRs K F Z σ S H vs rs) (k : OK K H0 Z σ H S) (e : gets S rs = some ds) : Reps K Any AnyF H vs ds := by
  induction h generalizing ds with
  | nil => cases e; exact .nil
  | cons h t ih =>
    unfold VL.gets at e
    split at e
    · rename_i d es h1 h2
      cases e
      exact .cons (h.get k h1) (ih h2)
    · cases e
end
end VL
end
section
set_option maxHeartbeats 4000000
namespace VL
open PySem L2
section
variable {K : PySem.W.Frag} {X : Cx} {m : Bool} {e a b c : Expr} {ta tb tc te : TE} {va vb vc : VT} {pos : Pos}
theorem FM.any {H0 : Hp} {a : Option Addr} : FM H0 false a := fun z => nomatch z
def vC (d : D) : VT := fun S Q => Q (.d d) S
theorem ve_int {i j} : VE K X m (.Constant (.int i) j pos) (tC (.int i)) (vC (.int i)) := ⟨pe_int, fun _ _ _ _ _ _ _ k h q => q _ _ (.d (.int i)) _ k .refl (Rep.int i) h⟩
theorem ve_bl {i j} : VE K X m (.Constant (.bool i) j pos) (tC (.bl i)) (vC (.bl i)) := ⟨pe_bl, fun _ _ _ _ _ _ _ k h q => q _ _ (.d (.bl i)) _ k .refl (Rep.bl i) h⟩
theorem ve_non {j} : VE K X m (.Constant .none j pos) (tC .non) (vC .non) := ⟨pe_non, fun _ _ _ _ _ _ _ k h q => q _ _ (.d .non) _ k .refl Rep.non h⟩
theorem ve_str {i j} : VE K X m (.Constant (.str i) j pos) (tC (.str i)) (vC (.str i)) := ⟨pe_str, fun _ _ _ _ _ _ _ k h q => q _ _ (.d (.str i)) _ k .refl (Rep.str i) h⟩
theorem ve_pe {v : V} {d : D} (h : PE X e (tC v)) (r : ∀ N H, Rep K N AnyF H v d) : VE K X false e (tC v) (vC d) := ⟨h, fun _ _ _ _ _ _ _ k h q => q _ _ (.d d) _ k .refl (show Rep K _ _ _ v d from (r _ _).mono (fun _ n _ => ⟨n, rfl⟩) (fun _ _ => FM.any)) h⟩
def rdO (i : Nat) : Option Sl → Option VR
  | some (.val d) => some (.d d)
  | some (.fre d) => some (.d d)
  | some (.own _) => some (.own i)
  | some (.pen _ _) => some (.own i)
  | some (.odi _ _) => some (.own i)
  | _ => none
def vVar (i : Nat) : VT := fun S Q => ∃ r, rdO i S[i]? = some r ∧ Q r S
theorem OK.var {H0 H : Hp} {Z : AP} {σ : St} {S : List Sl} (k : OK K H0 Z σ H S) {i : Nat} {r : VR} (h : rdO i S[i]? = some r) : ∃ v, σ[i]? = some (some v) ∧ RepR K (FM H0 false) Z σ S H v r := by
  have hl := k.len
  cases es : S[i]? with
  | none => rw [es] at h; cases h
  | some s =>
    have hi : i < σ.length := by rw [hl]; exact (List.getElem?_eq_some_iff.mp es).1
    have q := k.at_ i _ s (List.getElem?_eq_getElem hi) es
    rw [es] at h
    cases s with
    | no => cases h
    | val d => obtain ⟨v, e, r'⟩ := q; cases h; exact ⟨v, by rw [List.getElem?_eq_getElem hi, e], r'.mono (fun _ n _ => ⟨n, rfl⟩) fun _ _ => FM.any⟩
    | fre d => obtain ⟨v, e, r'⟩ := q; cases h; exact ⟨v, by rw [List.getElem?_eq_getElem hi, e], r'.mono (fun _ n _ => ⟨n, rfl⟩) fun _ x _ => x⟩
    | own ds => obtain ⟨a, vs, e, _⟩ := q; cases h; exact ⟨.ref a, by rw [List.getElem?_eq_getElem hi, e], by show σ[i]? = _; rw [List.getElem?_eq_getElem hi, e]⟩
    | pen ad ds => obtain ⟨a, e, _⟩ := q; cases h; exact ⟨.ref a, by rw [List.getElem?_eq_getElem hi, e], by show σ[i]? = _; rw [List.getElem?_eq_getElem hi, e]⟩
    | odi ks ds => obtain ⟨a, _, e, _⟩ := q; cases h; exact ⟨.ref a, by rw [List.getElem?_eq_getElem hi, e], by show σ[i]? = _; rw [List.getElem?_eq_getElem hi, e]⟩
theorem ve_var (i : Nat) (h : PE X e (tVar i)) : VE K X false e (tVar i) (vVar i) := ⟨h, fun H0 Z σ H S Q C k zq1 hc => by
  obtain ⟨r, h, q⟩ := zq1
  obtain ⟨v, e, rr⟩ := k.var h
  exact ⟨v, e, hc _ _ _ _ k .refl rr q⟩⟩
def vFlat (t : VT) : VT := fun S Q => t S fun r S' => (match r with | .d d => flat d = true | .own _ => True) ∧ Q r S'
theorem ve_flat (h : VE K X false e te va) : VE K X m e te (vFlat va) := ⟨h.pe, fun H0 Z σ H S Q C k t hc => h.snd H0 Z σ H S _ C k t fun v H' r S' k' st rr ⟨f, q⟩ => hc v H' r S' k' st (by
  cases r with
  | d x => exact Rep.flat rr f
  | own i => exact rr) q⟩
def v2 (w : D → D → (D → Prop) → Prop) (va vb : VT) : VT := fun S Q => va S fun ra S1 => vb S1 fun rb S2 => ∃ d1 d2, get S2 ra = some d1 ∧ get S2 rb = some d2 ∧ w d1 d2 fun d => Q (.d d) S2
def Lift2 (K : PySem.W.Frag) (r : R2) (w : D → D → (D → Prop) → Prop) : Prop := ∀ (x y : V) (H : Hp) (d1 d2 : D) (q : D → Prop) (C : VK), Rep K Any AnyF H x d1 → Rep K Any AnyF H y d2 → w d1 d2 q → (∀ z dz, q dz → (∀ N F, Rep K N F H z dz) → C z H) → r x y H C
theorem snd2 {r : R2} {w : D → D → (D → Prop) → Prop} (L : Lift2 K r w) (ha : SndE K false ta va) (hb : SndE K false tb vb) : SndE K m (tOp r ta tb) (v2 w va vb) := by
  intro H0 Z σ H S Q C k t hc
  refine ha H0 Z σ H S _ _ k t fun x H1 ra S1 k1 st1 r1 t1 => ?_
  refine hb H0 Z σ H1 S1 _ _ k1 t1 fun y H2 rb S2 k2 st2 r2 ⟨d1, d2, e1, e2, t2⟩ => ?_
  exact L x y H2 d1 d2 _ _ ((r1.step st2).get k2 e1) (r2.get k2 e2) t2 fun z dz q rz => hc z H2 (.d dz) S2 k2 (st1.trans st2) (rz _ _) q
theorem ve_op {op : Operator} {r : R2} {w : D → D → (D → Prop) → Prop} (ho : OpR X (binaryOp op) r) (L : Lift2 K r w) (ha : VE K X false a ta va) (hb : VE K X false b tb vb) : VE K X m (.BinOp a op b pos) (tOp r ta tb) (v2 w va vb) := ⟨pe_op ho ha.pe hb.pe, snd2 L ha.snd hb.snd⟩
@[reducible] def ofV : V → D
  | .int i => .int i
  | .bl b => .bl b
  | .str x => .str x
  | .ty x => .ty x
  | _ => .non
def scV : V → Bool
  | .int _ => true | .bl _ => true | .str _ => true | .non => true | .ty _ => true | _ => false
theorem rep_sc {v : V} (h : scV v = true) {N : AP} {F : FP} {H : Hp} : Rep K N F H v (ofV v) := by
  cases v <;> first | exact .int _ | exact .bl _ | exact .str _ | exact .non | exact .ty _ | cases h
def wI (C : Int → Int → Prop) (g : Int → Int → V) : D → D → (D → Prop) → Prop := fun d1 d2 q => ∃ i j, d1 = .int i ∧ d2 = .int j ∧ C i j ∧ q (ofV (g i j))
def wI0 (g : Int → Int → V) : D → D → (D → Prop) → Prop := fun d1 d2 q => ∃ i j, d1 = .int i ∧ d2 = .int j ∧ q (ofV (g i j))
theorem l_rI {C : Int → Int → Prop} {g : Int → Int → V} (hg : ∀ i j, scV (g i j) = true := by intro _ _; rfl) : Lift2 K (rI C g) (wI C g) := by
  rintro x y H d1 d2 q Cc r1 r2 ⟨i, j, rfl, rfl, c, h⟩ hc
  cases r1; cases r2
  exact ⟨i, j, rfl, rfl, c, hc _ _ h fun _ _ => rep_sc (hg i j)⟩
theorem l_rI0 {g : Int → Int → V} (hg : ∀ i j, scV (g i j) = true := by intro _ _; rfl) : Lift2 K (rI0 g) (wI0 g) := by
  rintro x y H d1 d2 q Cc r1 r2 ⟨i, j, rfl, rfl, h⟩ hc
  cases r1; cases r2
  exact ⟨i, j, rfl, rfl, hc _ _ h fun _ _ => rep_sc (hg i j)⟩
def toV : D → Option V
  | .int i => some (.int i)
  | .bl b => some (.bl b)
  | .str x => some (.str x)
  | .non => some .non
  | _ => none
theorem rep_toV {v : V} {d : D} {u : V} {N : AP} {F : FP} {H : Hp} (h : Rep K N F H v d) (e : toV d = some u) : v = u := by
  cases h <;> cases e <;> rfl
def wEq : D → D → (D → Prop) → Prop := fun d1 d2 q => ∃ x y, toV d1 = some x ∧ toV d2 = some y ∧ scal x y = true ∧ q (.bl (decide (x = y)))
def wNe : D → D → (D → Prop) → Prop := fun d1 d2 q => ∃ x y, toV d1 = some x ∧ toV d2 = some y ∧ scal x y = true ∧ q (.bl (!decide (x = y)))
theorem l_eq : Lift2 K rEq wEq := by
  rintro x y H d1 d2 q C r1 r2 ⟨x', y', e1, e2, s, h⟩ hc
  obtain rfl := rep_toV r1 e1
  obtain rfl := rep_toV r2 e2
  exact ⟨s, hc _ _ h fun _ _ => .bl _⟩
theorem l_ne : Lift2 K rNe wNe := by
  rintro x y H d1 d2 q C r1 r2 ⟨x', y', e1, e2, s, h⟩ hc
  obtain rfl := rep_toV r1 e1
  obtain rfl := rep_toV r2 e2
  exact ⟨s, hc _ _ h fun _ _ => .bl _⟩
def vTest (t : VT) : VTT := fun S Q => t S fun r S' => ∃ k, r = .d (.bl k) ∧ Q k S'
theorem sndTest (h : SndE K m te va) : SndT K (tTest te) (vTest va) := fun H0 Z σ H S Q C k t hc => h H0 Z σ H S _ _ k t fun v H' r S' k' st rr zq1 => by
  obtain ⟨b, e, q⟩ := zq1
  subst e
  cases (show Rep K _ _ H' v (.bl b) from rr)
  exact ⟨b, rfl, hc b H' S' k' st q⟩
theorem sndB (h : SndE K m te va) : SndT K (tB te) (vTest va) := fun H0 Z σ H S Q C k t hc => h H0 Z σ H S _ _ k t fun v H' r S' k' st rr zq1 => by
  obtain ⟨b, e, q⟩ := zq1
  subst e
  cases (show Rep K _ _ H' v (.bl b) from rr)
  exact ⟨b, rfl, hc b H' S' k' st q⟩
theorem vt_cmp {op : CmpOp} {r : R2} {w : D → D → (D → Prop) → Prop} (ho : OpR X (compareOp op) r) (L : Lift2 K r w) (ha : VE K X false a ta va) (hb : VE K X false b tb vb) (hm : behindInMarks op b = false) : VTe K X (.Compare a [op] [b] pos) (tTest (tOp r ta tb)) (vTest (v2 w va vb)) :=
  ⟨pt_cmpR ho ha.pe hb.pe hm, sndTest (m := false) (snd2 L ha.snd hb.snd)⟩
theorem ve_cmp {op : CmpOp} {r : R2} {w : D → D → (D → Prop) → Prop} (ho : OpR X (compareOp op) r) (L : Lift2 K r w) (ha : VE K X false a ta va) (hb : VE K X false b tb vb) (hm : behindInMarks op b = false) : VE K X m (.Compare a [op] [b] pos) (tOp r ta tb) (v2 w va vb) :=
  ⟨pe_cmpR ho ha.pe hb.pe hm, snd2 L ha.snd hb.snd⟩
theorem vt_val (h : VE K X false e te va) (he : ∀ whole, isTrue e X.env whole = (do let v ← whole; standAt e.pos; holding [v] (truthy v)) := by intro _; rfl) : VTe K X e (tB te) (vTest va) := ⟨pt_val h.pe he, sndB h.snd⟩
section
variable {tA tB' : TT} {wA wB : VTT} {rest : List Expr}
def vAnd (t u : VTT) : VTT := fun S Q => t S fun c S1 => if c = true then u S1 Q else Q false S1
def vOr (t u : VTT) : VTT := fun S Q => t S fun c S1 => if c = true then Q true S1 else u S1 Q
def vNot (t : VTT) : VTT := fun S Q => t S fun c S1 => Q (!c) S1
theorem vw_and1 (h : VTe K X a tA wA) : VWe K X (.BoolOp .And [a] pos) tA wA := ⟨pw_and1 h.pe, h.snd⟩
theorem vw_or1 (h : VTe K X a tA wA) : VWe K X (.BoolOp .Or [a] pos) tA wA := ⟨pw_or1 h.pe, h.snd⟩
theorem vw_and (ha : VTe K X a tA wA) (hb : VWe K X (.BoolOp .And (b :: rest) pos) tB' wB) : VWe K X (.BoolOp .And (a :: b :: rest) pos) (tAnd tA tB') (vAnd wA wB) := ⟨pw_and ha.pe hb.pe, fun H0 Z σ H S Q C k t hc =>
  ha.snd H0 Z σ H S _ _ k t fun c H1 S1 k1 st1 q => by
    cases c with
    | true => rw [if_pos rfl] at q ⊢; exact hb.snd H0 Z σ H1 S1 _ _ k1 q fun c2 H2 S2 k2 st2 q2 => hc c2 H2 S2 k2 (st1.trans st2) q2
    | false => rw [if_neg Bool.false_ne_true] at q ⊢; exact hc false H1 S1 k1 st1 q⟩
theorem vw_or (ha : VTe K X a tA wA) (hb : VWe K X (.BoolOp .Or (b :: rest) pos) tB' wB) : VWe K X (.BoolOp .Or (a :: b :: rest) pos) (tOr tA tB') (vOr wA wB) := ⟨pw_or ha.pe hb.pe, fun H0 Z σ H S Q C k t hc =>
  ha.snd H0 Z σ H S _ _ k t fun c H1 S1 k1 st1 q => by
    cases c with
    | false => rw [if_neg Bool.false_ne_true] at q ⊢; exact hb.snd H0 Z σ H1 S1 _ _ k1 q fun c2 H2 S2 k2 st2 q2 => hc c2 H2 S2 k2 (st1.trans st2) q2
    | true => rw [if_pos rfl] at q ⊢; exact hc true H1 S1 k1 st1 q⟩
theorem vw_pt (h : VWe K X e tA wA) : VTe K X e tA wA := ⟨h.pe.pt, h.snd⟩
theorem vt_not (h : VTe K X a tA wA) : VTe K X (.UnaryOp .Not a pos) (tNot tA) (vNot wA) := ⟨pt_not h.pe, fun H0 Z σ H S Q C k t hc => h.snd H0 Z σ H S _ _ k t fun c H1 S1 k1 st1 q => hc (!c) H1 S1 k1 st1 q⟩
def vAndV (ta tb : VT) : VT := fun S Q => ta S fun r S1 => ∃ c, r = .d (.bl c) ∧ if c = true then tb S1 Q else Q (.d (.bl false)) S1
def vOrV (ta tb : VT) : VT := fun S Q => ta S fun r S1 => ∃ c, r = .d (.bl c) ∧ if c = true then Q (.d (.bl true)) S1 else tb S1 Q
def vNotV (ta : VT) : VT := fun S Q => ta S fun r S1 => ∃ c, r = .d (.bl c) ∧ Q (.d (.bl (!c))) S1
theorem ve_one {op} (h : VE K X m a ta va) : VE K X m (.BoolOp op [a] pos) ta va := ⟨pe_one h.pe, h.snd⟩
theorem ve_and (ha : VE K X m a ta va) (hb : VE K X m (.BoolOp .And (b :: rest) pos) tb vb) : VE K X m (.BoolOp .And (a :: b :: rest) pos) (tAndV ta tb) (vAndV va vb) := ⟨pe_and ha.pe hb.pe, fun H0 Z σ H S Q C k t hc =>
  ha.snd H0 Z σ H S _ _ k t fun v H1 r S1 k1 st1 rr zq1 => by
    obtain ⟨c, e, q⟩ := zq1
    subst e
    cases (show Rep K _ _ H1 v (.bl c) from rr)
    refine ⟨c, rfl, ?_⟩
    cases c with
    | true => rw [if_pos rfl] at q ⊢; exact hb.snd H0 Z σ H1 S1 _ _ k1 q fun v2 H2 r2 S2 k2 st2 rr2 q2 => hc v2 H2 r2 S2 k2 (st1.trans st2) rr2 q2
    | false => rw [if_neg Bool.false_ne_true] at q ⊢; exact hc _ H1 (.d (.bl false)) S1 k1 st1 (Rep.bl false) q⟩
theorem ve_or (ha : VE K X m a ta va) (hb : VE K X m (.BoolOp .Or (b :: rest) pos) tb vb) : VE K X m (.BoolOp .Or (a :: b :: rest) pos) (tOrV ta tb) (vOrV va vb) := ⟨pe_or ha.pe hb.pe, fun H0 Z σ H S Q C k t hc =>
  ha.snd H0 Z σ H S _ _ k t fun v H1 r S1 k1 st1 rr zq1 => by
    obtain ⟨c, e, q⟩ := zq1
    subst e
    cases (show Rep K _ _ H1 v (.bl c) from rr)
    refine ⟨c, rfl, ?_⟩
    cases c with
    | false => rw [if_neg Bool.false_ne_true] at q ⊢; exact hb.snd H0 Z σ H1 S1 _ _ k1 q fun v2 H2 r2 S2 k2 st2 rr2 q2 => hc v2 H2 r2 S2 k2 (st1.trans st2) rr2 q2
    | true => rw [if_pos rfl] at q ⊢; exact hc _ H1 (.d (.bl true)) S1 k1 st1 (Rep.bl true) q⟩
theorem ve_not (ha : VE K X m a ta va) : VE K X m (.UnaryOp .Not a pos) (tNotV ta) (vNotV va) := ⟨pe_not ha.pe, fun H0 Z σ H S Q C k t hc =>
  ha.snd H0 Z σ H S _ _ k t fun v H1 r S1 k1 st1 rr zq1 => by
    obtain ⟨c, e, q⟩ := zq1
    subst e
    cases (show Rep K _ _ H1 v (.bl c) from rr)
    exact ⟨c, rfl, hc _ H1 (.d (.bl (!c))) S1 k1 st1 (Rep.bl _) q⟩⟩
end
def vUn (g : Int → V) (va : VT) : VT := fun S Q => va S fun r S1 => ∃ i, get S1 r = some (.int i) ∧ Q (.d (ofV (g i))) S1
theorem ve_un {op : UnaryOp} {g : Int → V} (ho : UnR X (unaryOp op) (rU g)) (ha : VE K X false a ta va) (hg : ∀ i, scV (g i) = true := by intro _; rfl) : VE K X m (.UnaryOp op a pos) (tUn (rU g) ta) (vUn g va) := ⟨pe_un ho ha.pe, fun H0 Z σ H S Q C k t hc =>
  ha.snd H0 Z σ H S _ _ k t fun v H1 r S1 k1 st1 rr zq1 => by
    obtain ⟨i, e, q⟩ := zq1
    cases rr.get k1 e
    exact ⟨i, rfl, hc _ H1 (.d (ofV (g i))) S1 k1 st1 (rep_sc (hg i)) q⟩⟩
section
variable {es : List Expr} {tr : TA} {vr : VTA}
def vNil : VTA := fun S Q => Q [] S
def vCons (va : VT) (vr : VTA) : VTA := fun S Q => va S fun r S1 => vr S1 fun rs S2 => Q (r :: rs) S2
theorem va_nil : VA K X m [] tNil vNil := ⟨pa_nil, fun _ _ _ _ _ _ _ k h q => q _ _ _ _ k .refl .nil h⟩
theorem va_cons (ha : VE K X m e te va) (hr : VA K X m es tr vr) (hs : starEach (e :: es) X.env = (false, eval e X.env) :: starEach es X.env := by rfl) : VA K X m (e :: es) (tCons te tr) (vCons va vr) := ⟨pa_cons ha.pe hr.pe hs, fun H0 Z σ H S Q C k t hc =>
  ha.snd H0 Z σ H S _ _ k t fun v H1 r S1 k1 st1 rr q => hr.snd H0 Z σ H1 S1 _ _ k1 q fun vs H2 rs S2 k2 st2 rrs q2 => hc (v :: vs) H2 (r :: rs) S2 k2 (st1.trans st2) (.cons (rr.step st2) rrs) q2⟩
def allD : List VR → Option (List D)
  | [] => some []
  | .d x :: r => (allD r).map (x :: ·)
  | _ :: _ => none
theorem RepRs.allD {F : FP} {Z : AP} {σ : St} {S : List Sl} {H : Hp} {vs : List V} {rs : List VR} {ds : List D} (h : RepRs K F Z σ S H vs rs) (e : VL.allD rs = some ds) : Reps K (NM Z σ S) F H vs ds := by
  induction h generalizing ds with
  | nil => cases e; exact .nil
  | @cons v r vs rs h t ih =>
    cases r with
    | d x =>
      obtain ⟨es, h1, rfl⟩ := Option.map_eq_some_iff.mp (show (VL.allD rs).map (x :: ·) = some ds from e)
      exact .cons h (ih h1)
    | own i => cases e
theorem RepRs.length {F : FP} {Z : AP} {σ : St} {S : List Sl} {H : Hp} {vs : List V} {rs : List VR} (h : RepRs K F Z σ S H vs rs) : vs.length = rs.length := by
  induction h with
  | nil => rfl
  | cons h t ih => simp [ih]
theorem allD_length : ∀ {rs : List VR} {ds : List D}, allD rs = some ds → ds.length = rs.length
  | [], _, e => by cases e; rfl
  | .d x :: r, ds, e => by
    obtain ⟨es, h1, rfl⟩ := Option.map_eq_some_iff.mp (show (VL.allD r).map (x :: ·) = some ds from e)
    simp [allD_length h1]
  | .own _ :: _, _, e => by cases e
def vTup (vr : VTA) : VT := fun S Q => vr S fun rs S1 => ∃ ds, allD rs = some ds ∧ ds.length ≤ 1000 ∧ Q (.d (.tup ds)) S1
theorem small {n : Nat} (h : n ≤ 1000) : n ≤ sizeLine := by rw [sizeLine_eq]; lia
theorem OK.nm {H0 H : Hp} {Z : AP} {σ : St} {S : List Sl} (k : OK K H0 Z σ H S) {p : Addr} (hp : H p = none) : NM Z σ S p := fun z => by
  have e := k.mo z
  rw [hp] at e; exact e
theorem ve_tup {x1} (h : VA K X m es tr vr) : VE K X m (.Tuple es x1 pos) (tTup tr) (vTup vr) := ⟨pe_tup h.pe, fun H0 Z σ H S Q C k t hc =>
  h.snd H0 Z σ H S _ _ k t fun vs H1 rs S1 k1 st1 rrs ⟨ds, e, hl, q⟩ => ⟨small (by rw [rrs.length, ← allD_length e]; exact hl), fun p hp => by
    have g := upd_grow (o := .tup vs) hp
    exact hc _ _ (.d (.tup ds)) S1 (k1.grow g) (st1.trans (.grow g)) (Rep.tup (k1.nm hp) (.inl upd_same) ((rrs.allD e).mono (fun a n e => ⟨n, g a e⟩) fun _ x => x)) q⟩⟩
def vLst (vr : VTA) : VTN := fun S Q => vr S fun rs S1 => ∃ ds, allD rs = some ds ∧ ds.length ≤ 1000 ∧ Q ds S1
theorem reps_new {H0 H : Hp} {Z : AP} {σ : St} {S : List Sl} {p : Addr} {vs : List V} {ds : List D} {o : HO} (hp : H p = none) (h : Reps K (NM Z σ S) (FM H0 true) H vs ds) : Reps K (fun b => NM Z σ S b ∧ b ≠ p) (Fr H0) (upd H p o) vs ds :=
  h.mono (fun a n e => ⟨⟨n, fun z => e (by rw [z]; exact hp)⟩, upd_grow hp a e⟩) fun _ x => x rfl
theorem vn_lst (h : VA K X true es tr vr) : VN K X (.List es pos) (tLst tr) (vLst vr) := ⟨pe_lst h.pe, fun H0 Z σ H S Q C k t hc =>
  h.snd H0 Z σ H S _ _ k t fun vs H1 rs S1 k1 st1 rrs ⟨ds, e, hl, q⟩ => ⟨small (by rw [rrs.length, ← allD_length e]; exact hl), fun p hp =>
    hc p vs ds H1 _ S1 k1 st1 hp (upd_grow hp) upd_same (reps_new hp (rrs.allD e)) q⟩⟩
def vNew (t : VTN) : VT := fun S Q => t S fun ds S1 => Q (.d (.lst ds)) S1
theorem ve_new {t : VTN} (h : VN K X e te t) : VE K X m e te (vNew t) := ⟨h.pe, fun H0 Z σ H S Q C k t hc => h.snd H0 Z σ H S _ _ k t fun a vs ds H1 H' S1 k1 st1 ha hg hl rr q => by
  refine hc _ H' (.d (.lst ds)) S1 (k1.grow hg) (st1.trans (.grow hg)) (Rep.lst (k1.nm ha) (fun _ => ⟨a, rfl, k1.dom a ha⟩) hl (rr.mono (fun b n e => ⟨n.1, rfl⟩) fun _ x _ => x)) q⟩
end
theorem RepR.elems {H0 H : Hp} {Z : AP} {σ : St} {S : List Sl} {F : FP} {v : V} {r : VR} {ds : List D} (h : RepR K F Z σ S H v r) (k : OK K H0 Z σ H S) (e : VL.get S r = some (.lst ds)) : ∃ a vs, v = .ref a ∧ SqL K H a vs ∧ Reps K (NM Z σ S) AnyF H vs ds := by
  cases r with
  | d y =>
    cases e
    obtain ⟨a, vs, rfl, hq, rr⟩ := Rep.sqL h
    exact ⟨a, vs, rfl, hq, rr.mono (fun _ n _ => ⟨n, rfl⟩) fun _ _ => trivial⟩
  | own i =>
    have h : σ[i]? = some (some v) := h
    have e : getO S[i]? = some (.lst ds) := e
    cases es : S[i]? with
    | none => rw [es] at e; cases e
    | some s =>
      rw [es] at e
      cases s with
      | no => cases e
      | val d => cases e
      | fre d => cases e
      | own ds =>
        cases e
        obtain ⟨a, vs, h1, h2, h3, h4⟩ := k.at_ i _ _ h es
        cases h1
        exact ⟨a, vs, rfl, .inl (.inl h2), h4.mono (fun _ n _ => ⟨n, rfl⟩) fun _ _ => trivial⟩
      | pen ad ns =>
        cases e
        obtain ⟨a, h1, _, h2⟩ := k.at_ i _ _ h es
        cases h1
        exact ⟨a, _, rfl, .inl (.inl h2), Reps.ints⟩
      | odi ks ds => cases e
theorem RepR.elemsT {H0 H : Hp} {Z : AP} {σ : St} {S : List Sl} {F : FP} {v : V} {r : VR} {ds : List D} (h : RepR K F Z σ S H v r) (k : OK K H0 Z σ H S) (e : VL.get S r = some (.tup ds)) : ∃ a vs, v = .ref a ∧ SqT K H a vs ∧ Reps K (NM Z σ S) AnyF H vs ds := by
  cases r with
  | d y =>
    cases e
    cases (show Rep K (NM Z σ S) F H v (.tup ds) from h) with
    | tup n h2 r2 => exact ⟨_, _, rfl, .inl h2, r2.mono (fun _ n _ => ⟨n, rfl⟩) fun _ _ => trivial⟩
    | tupK h2 r2 => exact ⟨_, _, rfl, sqT_none h2, r2.mono (fun _ n _ => ⟨n, rfl⟩) fun _ _ => trivial⟩
  | own i =>
    have e : getO S[i]? = some (.tup ds) := e
    cases es : S[i]? with
    | none => rw [es] at e; cases e
    | some s => rw [es] at e; cases s <;> cases e
end
end VL
end
section
set_option maxHeartbeats 4000000
namespace VL
open PySem L2
section
variable {K : PySem.W.Frag} {X : Cx} {m : Bool} {e a b c : Expr} {ta tb tc te : TE} {va vb vc : VT} {pos : Pos}
theorem atI_reps {N : AP} {F : FP} {H : Hp} {vs : List V} {ds : List D} {i : Int} {d : D} (r : Reps K N F H vs ds) (h : atI ds i = some d) : ∃ v, atI vs i = some v ∧ Rep K N F H v d := by
  unfold atI at h ⊢
  rw [r.length]
  cases e : ixN ds.length i with
  | none => rw [e] at h; cases h
  | some j =>
    rw [e] at h
    exact r.getD h
def vIx (va vb : VT) : VT := fun S Q => va S fun ra S1 => vb S1 fun rb S2 => ∃ ds i d, (get S2 ra = some (.lst ds) ∨ get S2 ra = some (.tup ds)) ∧ get S2 rb = some (.int i) ∧ atI ds i = some d ∧ Q (.d d) S2
theorem ve_ix (hK : X.K = K) (ha : VE K X false a ta va) (hb : VE K X false b tb vb) (hs : PlainIx b) : VE K X false (.Subscript a b pos) (tOp (rIx K) ta tb) (vIx va vb) := ⟨by subst hK; exact pe_ix ix_seq ha.pe hb.pe hs, fun H0 Z σ H S Q C k t hc =>
  ha.snd H0 Z σ H S _ _ k t fun x H1 ra S1 k1 st1 r1 t1 => hb.snd H0 Z σ H1 S1 _ _ k1 t1 fun y H2 rb S2 k2 st2 r2 zq1 => by
    obtain ⟨ds, i, d, e1, e2, e3, q⟩ := zq1
    cases r2.get k2 e2
    have fin : ∀ v, Rep K (NM Z σ S2) AnyF H2 v d → C v H2 := fun v rv => hc v H2 (.d d) S2 k2 (st1.trans st2) (show Rep K _ _ H2 v d from rv.mono (fun _ n _ => ⟨n, rfl⟩) fun _ _ => FM.any) q
    rcases e1 with e1 | e1
    · obtain ⟨p, vs, rfl, hq, rr⟩ := (r1.step st2).elems k2 e1
      obtain ⟨v, h1, h2⟩ := atI_reps rr e3
      exact .inl ⟨p, vs, i, v, rfl, rfl, hq, h1, fin v h2⟩
    · obtain ⟨p, vs, rfl, hq, rr⟩ := (r1.step st2).elemsT k2 e1
      obtain ⟨v, h1, h2⟩ := atI_reps rr e3
      exact .inr (.inl ⟨p, vs, i, v, rfl, rfl, hq, h1, fin v h2⟩)⟩
section
variable {es : List Expr} {tr : TA} {vr : VTA} {x : Str} {p : Pos} {id T : String} {r : List V → Hp → VK → Prop}
def vCB (w : List D → (D → Prop) → Prop) (vr : VTA) : VT := fun S Q => vr S fun rs S1 => ∃ ds, gets S1 rs = some ds ∧ w ds fun d => Q (.d d) S1
def LiftC (K : PySem.W.Frag) (r : List V → Hp → VK → Prop) (w : List D → (D → Prop) → Prop) : Prop := ∀ (xs : List V) (H : Hp) (ds : List D) (q : D → Prop) (C : VK), Reps K Any AnyF H xs ds → w ds q → (∀ z dz, q dz → (∀ N F, Rep K N F H z dz) → C z H) → r xs H C
theorem sndC {w : List D → (D → Prop) → Prop} (L : LiftC K r w) (ha : SndA K false tr vr) : SndE K m (tCB r tr) (vCB w vr) := fun H0 Z σ H S Q C k t hc =>
  ha H0 Z σ H S _ _ k t fun vs H1 rs S1 k1 st1 rrs ⟨ds, e, q⟩ => L vs H1 ds _ _ (rrs.gets k1 e) q fun z dz q rz => hc z H1 (.d dz) S1 k1 st1 (rz _ _) q
theorem ve_callB {w : List D → (D → Prop) → Prop} (hc : CallR X (.builtin id) r) (L : LiftC K r w) (hg : Gl X x) (hm : X.mg x = none) (hv : bootBuiltins x = some (.builtin id)) (ha : VA K X false (e :: es) tr vr) (hn : x ≠ "__name__" := by decide) (hdb : (x == ("__debug__" : Str)) = false := by decide)
    (he : starEach (e :: es) X.env = (false, eval e X.env) :: starEach es X.env := by rfl) (hpl : (backTo pos (starEach es X.env)).any (·.1) = false := by rfl) : VE K X m (.Call (.Name x p) (e :: es) [] pos) (tCB r tr) (vCB w vr) := ⟨pe_callB hc hg hm hv ha.pe hn hdb he hpl, sndC L ha.snd⟩
theorem ve_callTy {w : List D → (D → Prop) → Prop} (hc : CallR X (.type T) r) (L : LiftC K r w) (hg : Gl X x) (hm : X.mg x = none) (hv : bootBuiltins x = some (.type T)) (ha : VA K X false (e :: es) tr vr) (hn : x ≠ "__name__" := by decide) (hdb : (x == ("__debug__" : Str)) = false := by decide)
    (he : starEach (e :: es) X.env = (false, eval e X.env) :: starEach es X.env := by rfl) (hpl : (backTo pos (starEach es X.env)).any (·.1) = false := by rfl) : VE K X m (.Call (.Name x p) (e :: es) [] pos) (tCB r tr) (vCB w vr) := ⟨pe_callTy hc hg hm hv ha.pe hn hdb he hpl, sndC L ha.snd⟩
theorem rep1 {N : AP} {F : FP} {H : Hp} {xs : List V} {d : D} (h : Reps K N F H xs [d]) : ∃ v, xs = [v] ∧ Rep K N F H v d := by
  cases h with | cons h t => cases t; exact ⟨_, rfl, h⟩
theorem rep2 {N : AP} {F : FP} {H : Hp} {xs : List V} {d d' : D} (h : Reps K N F H xs [d, d']) : ∃ v u, xs = [v, u] ∧ Rep K N F H v d ∧ Rep K N F H u d' := by
  cases h with | cons h t => cases t with | cons h' t => cases t; exact ⟨_, _, rfl, h, h'⟩
def wLen : List D → (D → Prop) → Prop := fun ds q => ∃ es, (ds = [.lst es] ∨ ds = [.tup es]) ∧ q (.int es.length)
theorem l_len : LiftC K (fun xs H Q => ∃ p ys, xs = [.ref p] ∧ (SqL K H p ys ∨ SqT K H p ys) ∧ Q (.int ys.length) H) wLen := by
  rintro xs H ds q C r ⟨es, rfl | rfl, h⟩ hc
  · obtain ⟨v, rfl, rv⟩ := rep1 r
    obtain ⟨a, vs, rfl, hq, rr⟩ := rv.sqL
    exact ⟨a, vs, rfl, .inl hq, by rw [rr.length]; exact hc _ _ h fun _ _ => .int _⟩
  · obtain ⟨v, rfl, rv⟩ := rep1 r
    obtain ⟨a, vs, rfl, hq, rr⟩ := rv.sqT
    exact ⟨a, vs, rfl, .inr hq, by rw [rr.length]; exact hc _ _ h fun _ _ => .int _⟩
def wInt : List D → (D → Prop) → Prop := fun ds q => (∃ i, ds = [.int i] ∧ q (.int i)) ∨ ∃ k : Bool, ds = [.bl k] ∧ q (.int (if k then 1 else 0))
theorem l_int : LiftC K (fun xs H Q => (∃ i, xs = [.int i] ∧ Q (.int i) H) ∨ ∃ k, xs = [.bl k] ∧ Q (.int (if k then 1 else 0)) H) wInt := by
  rintro xs H ds q C r (⟨i, rfl, h⟩ | ⟨i, rfl, h⟩) hc
  · obtain ⟨v, rfl, rv⟩ := rep1 r
    cases rv
    exact .inl ⟨i, rfl, hc _ _ h fun _ _ => .int _⟩
  · obtain ⟨v, rfl, rv⟩ := rep1 r
    cases rv
    exact .inr ⟨i, rfl, hc _ _ h fun _ _ => .int _⟩
def tyD : D → String
  | .int _ => "int" | .bl _ => "bool" | .non => "NoneType" | .str _ => "str" | .tup _ => "tuple" | .lst _ => "list" | .ty _ => "type" | .dic _ _ => "dict" | .exc _ => ""
def isE : D → Bool
  | .exc _ => true
  | _ => false
def wIsi : List D → (D → Prop) → Prop := fun ds q => ∃ x c b, ds = [x, .ty c] ∧ (∀ n, x ≠ .ty n) ∧ isE x = false ∧ isiB (tyD x) c = some b ∧ q (.bl b)
theorem l_isi : LiftC K (rIsi K) wIsi := by
  rintro xs H ds q C r ⟨x, c, b, rfl, hn, hE, e, h⟩ hc
  obtain ⟨v, u, rfl, rv, ru⟩ := rep2 r
  cases ru
  refine ⟨v, tyD x, c, b, rfl, ?_, e, hc _ _ h fun _ _ => .bl _⟩
  cases rv with
  | int i => exact .int i
  | bl i => exact .bl i
  | non => exact .non
  | str i => exact .str i
  | ty i => exact (hn _ rfl).elim
  | tup n h r => exact .tup (.inl h)
  | tupK h r => exact .tup (sqT_none h)
  | lst n f h r => exact .lst (.inl (.inl h))
  | lstF n f h r => exact .lst (.inl (.inr ⟨_, h⟩))
  | lstK f h r => exact .lst (sqL_none h)
  | dic n f h e _ r => exact .dE h
  | exc n h e => cases hE
theorem RepRs.one {F : FP} {Z : AP} {σ : St} {S : List Sl} {H : Hp} {vs : List V} {r : VR} (h : RepRs K F Z σ S H vs [r]) : ∃ v, vs = [v] ∧ RepR K F Z σ S H v r := by
  cases h with | cons h t => cases t; exact ⟨_, rfl, h⟩
def vListOf (vr : VTA) : VTN := fun S Q => vr S fun rs S1 => ∃ r ds, rs = [r] ∧ (get S1 r = some (.lst ds) ∨ get S1 r = some (.tup ds)) ∧ flats ds = true ∧ Q ds S1
theorem flats_new {H0 H : Hp} {Z : AP} {σ : St} {S : List Sl} {F : FP} {p : Addr} {vs : List V} {ds : List D} {o : HO} (hp : H p = none) (h : Reps K (NM Z σ S) F H vs ds) (f : flats ds = true) : Reps K (fun b => NM Z σ S b ∧ b ≠ p) (Fr H0) (upd H p o) vs ds :=
  reps_new hp (Reps.flat h f)
theorem vn_list (hK : X.K = K) (hg : Gl X "list") (hm : X.mg "list" = none) (ha : VA K X false [e] tr vr) (he : starEach [e] X.env = [(false, eval e X.env)] := by rfl) :
    VN K X (.Call (.Name "list" p) [e] [] pos) (tCB (fun xs H Q => ∃ p ys, xs = [.ref p] ∧ (SqL K H p ys ∨ SqT K H p ys) ∧ ∀ l, H l = none → Q (.ref l) (upd H l (.lst ys))) tr) (vListOf vr) :=
  ⟨by subst hK; exact pe_callTy call_list_of hg hm bt_list ha.pe (by decide) (by decide) he rfl, fun H0 Z σ H S Q C k t hc => ha.snd H0 Z σ H S _ _ k t fun vs H1 rs S1 k1 st1 rrs zq1 => by
    obtain ⟨r, ds, e1, e2, f, q⟩ := zq1
    subst e1
    obtain ⟨v, rfl, rv⟩ := rrs.one
    rcases e2 with e2 | e2
    · obtain ⟨a, ys, rfl, hq, rr⟩ := rv.elems k1 e2
      exact ⟨a, ys, rfl, .inl hq, fun l hl => hc l ys ds H1 _ S1 k1 st1 hl (upd_grow hl) upd_same (flats_new hl rr f) q⟩
    · obtain ⟨a, ys, rfl, hq, rr⟩ := rv.elemsT k1 e2
      exact ⟨a, ys, rfl, .inr hq, fun l hl => hc l ys ds H1 _ S1 k1 st1 hl (upd_grow hl) upd_same (flats_new hl rr f) q⟩⟩
@[reducible] def eT (ms : List Int) : D := .tup (ms.map .int)
@[reducible] def eL (mss : List (List Int)) : D := .lst (mss.map eT)
theorem flats_ints : ∀ ms : List Int, flats (ms.map D.int) = true
  | [] => rfl
  | _ :: r => by simp [flats, flat, flats_ints r]
theorem flats_eT : ∀ mss : List (List Int), flats (mss.map eT) = true
  | [] => rfl
  | _ :: r => by simp [flats, eT, flat, flats_ints, flats_eT r]
theorem reps_tups {N : AP} {F : FP} {H : Hp} : ∀ {vs : List V} {mss : List (List Int)}, Reps K N F H vs (mss.map eT) → ∃ ps, vs = ps.map V.ref ∧ Tups K H ps mss ∧ (∀ p ∈ ps, H p = none → N p → False ∨ True)
  | _, [], .nil => ⟨[], rfl, .nil, fun _ h => nomatch h⟩
  | _, ms :: r, .cons h t => by
    obtain ⟨ps, rfl, h1, h2⟩ := reps_tups t
    obtain ⟨a, vs, rfl, hq, rr⟩ := Rep.sqT h
    cases Reps.toInts rr
    exact ⟨a :: ps, rfl, .cons hq h1, fun _ _ _ _ => .inr trivial⟩
theorem reps_of_tups {N : AP} {F : FP} {H : Hp} (hN : ∀ p vs, Rd H p (.tup vs) → N p) : ∀ {ps : List Addr} {mss : List (List Int)}, Tups K H ps mss → Reps K N F H (ps.map V.ref) (mss.map eT)
  | _, _, .nil => .nil
  | _, _, .cons h t => by
    refine .cons ?_ (reps_of_tups hN t)
    rcases h with h | h
    · exact .tup (hN _ _ h) h Reps.ints
    · exact .tupK (.inr h) Reps.ints
theorem OK.tupN {H0 H : Hp} {Z : AP} {σ : St} {S : List Sl} (k : OK K H0 Z σ H S) : ∀ p vs, Rd H p (.tup vs) → NM Z σ S p := fun p vs h z => by
  have e := k.mo z
  rcases h with h | ⟨o, h⟩ <;> rw [h] at e <;> exact e
end
def spP (K : PySem.W.Frag) (p : List D → (D → Prop) → Prop) : Sp := fun vs H Q _ => ∃ ds R, Reps K Any AnyF H vs ds ∧ p ds R ∧ ∀ d v H', R d → (∀ a, H a ≠ none → H' a = H a) → Rep K Any (Fr H) H' v d → Q v H'
def spI (K : PySem.W.Frag) (j : Nat) (p : List Int → List D → (D → List Int → Prop) → Prop) : Sp := fun vs H Q _ => ∃ a ws us ns ds es R, vs = ws ++ .ref a :: us ∧ ws.length = j ∧ H a = some (.lst (ns.map .int)) ∧ Reps K (· ≠ a) AnyF H ws ds ∧ Reps K (· ≠ a) AnyF H us es ∧ p ns (ds ++ es) R ∧
  ∀ d ns' v H', R d ns' → (∀ b, b ≠ a → H b ≠ none → H' b = H b) → H' a = some (.lst (ns'.map .int)) → Rep K (· ≠ a) (Fr H) H' v d → Q v H'
section
variable {es : List Expr} {tr : TA} {vr : VTA} {x : Str} {p0 : Pos} {j k : Nat} {ps : List Str}
def vFn (p : List D → (D → Prop) → Prop) (vr : VTA) : VT := fun S Q => vr S fun rs S1 => ∃ ds, gets S1 rs = some ds ∧ p ds fun d => Q (.d d) S1
def vFnN (p : List D → (D → Prop) → Prop) (vr : VTA) : VTN := fun S Q => vr S fun rs S1 => ∃ ds, gets S1 rs = some ds ∧ p ds fun d => ∃ es, d = .lst es ∧ flats es = true ∧ Q es S1
theorem ve_fn {p : List D → (D → Prop) → Prop} (E : Has X.prog X.w X.K X.mg X.base k x ps (spP K p)) (hr : Room j X.A) (ha : VA K X false (e :: es) tr vr)
    (hk : k ≤ j := by decide) (hg : Gl X x := by rfl) (hdb : (x == ("__debug__" : Str)) = false := by decide) (he : starEach (e :: es) X.env = (false, eval e X.env) :: starEach es X.env := by rfl)
    (hpl : (backTo pos (starEach es X.env)).any (·.1) = false := by rfl) : VE K X m (.Call (.Name x p0) (e :: es) [] pos) (tCall (spP K p) [] E0 tr) (vFn p vr) := ⟨pe_fn E hr ha.pe hk hg hdb he hpl, fun H0 Z σ H S Q C k t hc =>
  ha.snd H0 Z σ H S _ _ k t fun vs H1 rs S1 k1 st1 rrs zq1 => by
    obtain ⟨ds, e, q⟩ := zq1
    refine ⟨ds, _, by rw [List.append_nil]; exact rrs.gets k1 e, q, fun d v H' q g r => ?_⟩
    refine hc v H' (.d d) S1 (k1.grow g) (st1.trans (.grow g)) (show Rep K _ _ H' v d from ?_) q
    refine (Rep.avoid (N' := NM Z σ S1) (fun a z => ?_) (fun a zq1 => by obtain ⟨b, e, f⟩ := zq1; cases e; exact k1.nm f) r).mono (fun _ n _ => ⟨n, rfl⟩) (fun o ⟨b, e, f⟩ _ => ⟨b, e, k1.dom b f⟩)
    have e := k1.mo (Classical.not_not.mp z)
    rw [g a e.ne]; exact e⟩
theorem vn_fn {p : List D → (D → Prop) → Prop} (E : Has X.prog X.w X.K X.mg X.base k x ps (spP K p)) (hr : Room j X.A) (ha : VA K X false (e :: es) tr vr)
    (hk : k ≤ j := by decide) (hg : Gl X x := by rfl) (hdb : (x == ("__debug__" : Str)) = false := by decide) (he : starEach (e :: es) X.env = (false, eval e X.env) :: starEach es X.env := by rfl)
    (hpl : (backTo pos (starEach es X.env)).any (·.1) = false := by rfl) : VN K X (.Call (.Name x p0) (e :: es) [] pos) (tCall (spP K p) [] E0 tr) (vFnN p vr) := ⟨pe_fn E hr ha.pe hk hg hdb he hpl, fun H0 Z σ H S Q C k t hc =>
  ha.snd H0 Z σ H S _ _ k t fun vs H1 rs S1 k1 st1 rrs zq1 => by
    obtain ⟨ds, e, q⟩ := zq1
    refine ⟨ds, _, by rw [List.append_nil]; exact rrs.gets k1 e, q, fun d v H' ⟨es, ed, hf, q⟩ g r => ?_⟩
    subst ed
    have r2 := Rep.avoid (N' := NM Z σ S1) (fun a z => by
      have e := k1.mo (Classical.not_not.mp z)
      rw [g a e.ne]; exact e) (fun a zq1 => by obtain ⟨b, e, f⟩ := zq1; cases e; exact k1.nm f) r
    cases r2 with
    | @lst a ws _ n f h rs =>
      obtain ⟨b, e, f⟩ := f
      cases e
      refine hc a ws es H1 H' S1 k1 st1 f g h ?_ q
      refine (Reps.avoid (N' := fun b => NM Z σ S1 b ∧ b ≠ a) (fun b z => ?_) (fun b fb => fb.elim) (Reps.flat (F' := fun _ => False) rs hf)).mono (fun _ n _ => ⟨n, rfl⟩) (fun o f => f.elim)
      by_cases hb : b = a
      · subst hb; rw [h]; trivial
      · have e := k1.mo (Classical.byContradiction fun y => z ⟨y, hb⟩)
        rw [g b e.ne]; exact e
    | lstF n f h rs => obtain ⟨b, e, f⟩ := f; cases e
    | lstK f h rs => obtain ⟨b, e, f⟩ := f; cases e⟩
end
end
end VL
end
section
set_option maxHeartbeats 4000000
namespace VL
open PySem L2
section
variable {K : PySem.W.Frag} {H H' H0 : Hp} {Z : AP} {σ : St} {S : List Sl}
theorem OK.put (k : OK K H0 Z σ H S) {i : Nat} {o : Option V} {s : Sl} (hi : i < S.length)
    (hN : ∀ a, NM Z σ S a → H a ≠ none → NM Z (σ.set i o) (S.set i s) a ∧ H' a = H a)
    (hM : ∀ j s', j ≠ i → S[j]? = some s' → s'.mut = true → ∀ a, σ[j]? = some (some (V.ref a)) → H' a = H a)
    (hs : SlOk K H0 (NM Z (σ.set i o) (S.set i s)) H' o s)
    (hj : ∀ j a t, j ≠ i → S[j]? = some t → t.mut = true → s.mut = true → o = some (V.ref a) → σ[j]? ≠ some (some (V.ref a)))
    (hd : ∀ a, H' a = none → H a = none) (hz : ∀ a, Z a → IsM (H' a)) (hnz : ∀ a, s.mut = true → o = some (V.ref a) → ¬Z a) : OK K H0 Z (σ.set i o) H' (S.set i s) where
  len := by simp [k.len]
  dom := fun a e => k.dom a (hd a e)
  zl := hz
  nz := fun j t a h1 h2 h3 => by
    have hi' : i < σ.length := by rw [k.len]; exact hi
    by_cases hji : i = j
    · subst hji
      rw [List.getElem?_set_self hi] at h1
      rw [List.getElem?_set_self hi'] at h3
      cases h1
      exact hnz a h2 (Option.some.inj h3)
    · rw [List.getElem?_set_ne hji] at h1 h3
      exact k.nz j t a h1 h2 h3
  inj := fun a b c t u h1 h2 m1 m2 h3 h4 => by
    have hi' : i < σ.length := by rw [k.len]; exact hi
    by_cases ha : i = a
    · by_cases hb : i = b
      · lia
      · subst ha
        rw [List.getElem?_set_self hi] at h1
        rw [List.getElem?_set_self hi'] at h3
        rw [List.getElem?_set_ne hb] at h2 h4
        cases h1
        exact (hj b c u (fun z => hb z.symm) h2 m2 m1 (Option.some.inj h3) h4).elim
    · by_cases hb : i = b
      · subst hb
        rw [List.getElem?_set_self hi] at h2
        rw [List.getElem?_set_self hi'] at h4
        rw [List.getElem?_set_ne ha] at h1 h3
        cases h2
        exact (hj a c t (fun z => ha z.symm) h1 m1 m2 (Option.some.inj h4) h3).elim
      · rw [List.getElem?_set_ne ha] at h1 h3
        rw [List.getElem?_set_ne hb] at h2 h4
        exact k.inj a b c t u h1 h2 m1 m2 h3 h4
  at_ := fun j o' s' h1 h2 => by
    have hi' : i < σ.length := by rw [k.len]; exact hi
    by_cases hji : i = j
    · subst hji
      rw [List.getElem?_set_self hi'] at h1
      rw [List.getElem?_set_self hi] at h2
      cases h1; cases h2
      exact hs
    · rw [List.getElem?_set_ne hji] at h1 h2
      have q := k.at_ j o' s' h1 h2
      cases s' with
      | no => trivial
      | val d => obtain ⟨v, e, r⟩ := q; exact ⟨v, e, r.mono hN fun _ x => x⟩
      | fre d => obtain ⟨v, e, r⟩ := q; exact ⟨v, e, r.mono hN fun _ x => x⟩
      | own ds =>
        obtain ⟨a, vs, e, e', e0, r⟩ := q
        exact ⟨a, vs, e, by rw [hM j _ (fun z => hji z.symm) h2 rfl a (by rw [h1, e])]; exact e', e0, r.mono hN fun _ x => x⟩
      | pen ad ns =>
        obtain ⟨a, e, e1, e'⟩ := q
        exact ⟨a, e, e1, by rw [hM j _ (fun z => hji z.symm) h2 rfl a (by rw [h1, e])]; exact e'⟩
      | odi ks ds =>
        obtain ⟨a, vs, e, e', e0, ek, r⟩ := q
        exact ⟨a, vs, e, by rw [hM j _ (fun z => hji z.symm) h2 rfl a (by rw [h1, e])]; exact e', e0, ⟨ek.1, ek.2.mono hN fun _ x => x⟩, r.mono hN fun _ x => x⟩
theorem mo_put {i : Nat} {o : Option V} {s : Sl} {a : Addr} (h : Mo Z (σ.set i o) (S.set i s) a) : Mo Z σ S a ∨ (s.mut = true ∧ o = some (V.ref a)) := by
  rcases h with ⟨j, t, h1, h2, h3⟩ | h
  · by_cases hji : i = j
    · subst hji
      have l1 := (List.getElem?_eq_some_iff.mp h1).1
      have l2 := (List.getElem?_eq_some_iff.mp h3).1
      rw [List.length_set] at l1 l2
      rw [List.getElem?_set_self l1] at h1
      rw [List.getElem?_set_self l2] at h3
      cases h1
      exact .inr ⟨h2, Option.some.inj h3⟩
    · rw [List.getElem?_set_ne hji] at h1 h3
      exact .inl (.inl ⟨j, t, h1, h2, h3⟩)
  · exact .inl (.inr h)
theorem OK.setVal (k : OK K H0 Z σ H S) {i : Nat} {v : V} {d : D} (hi : i < S.length) (h : Rep K (NM Z σ S) AnyF H v d) : OK K H0 Z (σ.set i (some v)) H (S.set i (.val d)) ∧ Step Z σ S H (σ.set i (some v)) (S.set i (.val d)) H := by
  have n : ∀ a, NM Z σ S a → NM Z (σ.set i (some v)) (S.set i (.val d)) a := fun a x z => by
    rcases mo_put z with z | ⟨z, _⟩
    · exact x z
    · cases z
  exact ⟨k.put hi (fun a x _ => ⟨n a x, rfl⟩) (fun _ _ _ _ _ _ _ => rfl) ⟨v, rfl, h.mono (fun a x _ => ⟨n a x, rfl⟩) fun _ x => x⟩ (fun _ _ _ _ _ _ z => nomatch z) (fun _ e => e) k.zl (fun _ z => nomatch z), fun a x _ => ⟨rfl, n a x⟩, fun _ e => e, fun _ _ _ => rfl⟩
theorem OK.setNew (k : OK K H0 Z σ H S) {i : Nat} {a : Addr} {s : Sl} (hi : i < S.length) (ha : H a = none) (hg : ∀ b, H b ≠ none → H' b = H b) (hs : SlOk K H0 (fun b => NM Z σ S b ∧ b ≠ a) H' (some (.ref a)) s) (hm : s.mut = true) :
    OK K H0 Z (σ.set i (some (.ref a))) H' (S.set i s) ∧ Step Z σ S H (σ.set i (some (.ref a))) (S.set i s) H' := by
  have n : ∀ b, NM Z σ S b ∧ b ≠ a → NM Z (σ.set i (some (.ref a))) (S.set i s) b := fun b x z => by
    rcases mo_put z with z | ⟨_, z⟩
    · exact x.1 z
    · cases z; exact x.2 rfl
  have n' : ∀ b, NM Z σ S b → H b ≠ none → NM Z (σ.set i (some (.ref a))) (S.set i s) b := fun b x e => n b ⟨x, fun z => e (by rw [z]; exact ha)⟩
  refine ⟨k.put hi (fun b x e => ⟨n' b x e, hg b e⟩) (fun j s' hj h1 h2 b h3 => ?_) ?_ (fun j b t hj h1 h2 h3 h4 h5 => ?_) (fun b e => Classical.byContradiction fun z => by rw [hg b z] at e; exact z e) (fun b z => ?_) (fun b h1 h2 z => ?_), fun b x e => ⟨hg b e, n' b x e⟩, fun b e => Classical.byContradiction fun z => by rw [hg b z] at e; exact z e, fun b z e => hg b e⟩
  · have e := k.mo (.inl ⟨j, s', h1, h2, h3⟩)
    exact hg b e.ne
  · cases s with
    | no => trivial
    | val d => cases hm
    | fre d => cases hm
    | own ds => obtain ⟨b, vs, e, e', e0, r⟩ := hs; exact ⟨b, vs, e, e', e0, r.mono (fun c x _ => ⟨n c x, rfl⟩) fun _ x => x⟩
    | pen ad ns => exact hs
    | odi ks ds => obtain ⟨b, vs, e, e', e0, ek, r⟩ := hs; exact ⟨b, vs, e, e', e0, ⟨ek.1, ek.2.mono (fun c x _ => ⟨n c x, rfl⟩) fun _ x => x⟩, r.mono (fun c x _ => ⟨n c x, rfl⟩) fun _ x => x⟩
  · cases h4
    have e := k.mo (.inl ⟨j, t, h1, h2, h5⟩)
    rw [ha] at e; exact e
  · have e := k.zl b z
    rw [hg b e.ne]; exact e
  · cases h2
    have e := k.zl _ z
    rw [ha] at e; exact e
theorem set_self {α : Type} {l : List α} {i : Nat} {o : α} (h : l[i]? = some o) : l.set i o = l := by
  obtain ⟨h1, rfl⟩ := List.getElem?_eq_some_iff.mp h
  exact List.set_getElem_self h1
theorem OK.chgD (k : OK K H0 Z σ H S) {i : Nat} {a : Addr} {s₀ s : Sl} {o : HO} (h1 : S[i]? = some s₀) (h2 : s₀.mut = true) (h3 : σ[i]? = some (some (.ref a))) (hm : s.mut = true) (hs : SlOk K H0 (NM Z σ S) (upd H a o) (some (.ref a)) s) :
    OK K H0 Z σ (upd H a o) (S.set i s) ∧ Step Z σ S H σ (S.set i s) (upd H a o) := by
  have hi : i < S.length := (List.getElem?_eq_some_iff.mp h1).1
  have ma : Mo Z σ S a := .inl ⟨i, s₀, h1, h2, h3⟩
  have ea := k.mo ma
  have hza : ¬Z a := k.nz i s₀ a h1 h2 h3
  have e3 := set_self h3
  have n : ∀ b, NM Z σ S b → NM Z σ (S.set i s) b := fun b x z => by
    rw [← e3] at z
    rcases mo_put z with z | ⟨_, z⟩
    · exact x z
    · cases z; exact x ma
  have ne : ∀ b, NM Z σ S b → b ≠ a := fun b x z => x (by rw [z]; exact ma)
  have q := k.put (H' := upd H a o) (i := i) (o := some (.ref a)) (s := s) hi (fun b x e => ⟨by rw [e3]; exact n b x, upd_ne (ne b x)⟩) (fun j s' hj g1 g2 b g3 => upd_ne fun z => hj (by subst z; exact k.inj j i b s' s₀ g1 h1 g2 h2 g3 h3)) (by
    rw [e3]
    cases s with
    | no => trivial
    | val d => cases hm
    | fre d => cases hm
    | own ds => obtain ⟨b, vs, e, e', e0, r⟩ := hs; exact ⟨b, vs, e, e', e0, r.mono (fun c x _ => ⟨n c x, rfl⟩) fun _ x => x⟩
    | pen ad ns => exact hs
    | odi ks ds => obtain ⟨b, vs, e, e', e0, ek, r⟩ := hs; exact ⟨b, vs, e, e', e0, ⟨ek.1, ek.2.mono (fun c x _ => ⟨n c x, rfl⟩) fun _ x => x⟩, r.mono (fun c x _ => ⟨n c x, rfl⟩) fun _ x => x⟩) (fun j b t hj g1 g2 g3 g4 g5 => by
      cases g4
      exact hj (k.inj j i a t s₀ g1 h1 g2 h2 g5 h3)) (fun b e => by
      by_cases hb : b = a
      · subst hb; rw [upd_same] at e; cases e
      · rw [upd_ne hb] at e; exact e) (fun b z => by
      by_cases hb : b = a
      · subst hb; exact (hza z).elim
      · have e := k.zl b z
        rw [upd_ne hb]; exact e) (fun b _ e => by cases e; exact hza)
  rw [e3] at q
  refine ⟨q, fun b x e => ⟨upd_ne (ne b x), n b x⟩, fun b e => ?_, fun b z e => upd_ne fun y => hza (by rw [← y]; exact z)⟩
  by_cases hb : b = a
  · subst hb; rw [upd_same] at e; cases e
  · rw [upd_ne hb] at e; exact e
theorem OK.chg (k : OK K H0 Z σ H S) {i : Nat} {a : Addr} {s₀ s : Sl} {o : HO} (h1 : S[i]? = some s₀) (h2 : s₀.mut = true) (h3 : σ[i]? = some (some (.ref a))) (ho : ∃ us, o = .lst us) (hm : s.mut = true) (hs : SlOk K H0 (NM Z σ S) (upd H a o) (some (.ref a)) s) :
    OK K H0 Z σ (upd H a o) (S.set i s) ∧ Step Z σ S H σ (S.set i s) (upd H a o) := k.chgD h1 h2 h3 hm hs
end
structure VEnds where
  nx : List Sl → Prop
  rt : D → List Sl → Prop
  bk : List Sl → Prop := fun _ => False
  ct : List Sl → Prop := fun _ => False
abbrev VTS := VEnds → List Sl → Prop
def NP (σ : St) (S : List Sl) : AP := fun a => ∀ (i : Nat) (ad : Option Addr) (ns : List Int), S[i]? = some (.pen ad ns) → σ[i]? ≠ some (some (V.ref a))
structure Lf (K : PySem.W.Frag) (H0 : Hp) (Z : AP) (σ : St) (S : List Sl) (H : Hp) (V : VEnds) (E : Ends) : Prop where
  nx : ∀ σ' H' S', OK K H0 Z σ' H' S' → Step Z σ S H σ' S' H' → V.nx S' → E.nx σ' H'
  bk : ∀ σ' H' S', OK K H0 Z σ' H' S' → Step Z σ S H σ' S' H' → V.bk S' → E.bk σ' H'
  ct : ∀ σ' H' S', OK K H0 Z σ' H' S' → Step Z σ S H σ' S' H' → V.ct S' → E.ct σ' H'
  rt : ∀ v d σ' H' S', OK K H0 Z σ' H' S' → Step Z σ S H σ' S' H' → Rep K (NP σ' S') (Fr H0) H' v d → V.rt d S' → E.rt v H'
theorem Lf.step {K : PySem.W.Frag} {H0 H H1 : Hp} {Z : AP} {σ σ1 : St} {S S1 : List Sl} {V : VEnds} {E : Ends} (l : Lf K H0 Z σ S H V E) (st : Step Z σ S H σ1 S1 H1) : Lf K H0 Z σ1 S1 H1 V E :=
  ⟨fun _ _ _ k s => l.nx _ _ _ k (st.trans s), fun _ _ _ k s => l.bk _ _ _ k (st.trans s), fun _ _ _ k s => l.ct _ _ _ k (st.trans s), fun _ _ _ _ _ k s => l.rt _ _ _ _ _ k (st.trans s)⟩
def SndS (K : PySem.W.Frag) (ts : TS) (t : VTS) : Prop := ∀ H0 Z σ H S V E, OK K H0 Z σ H S → t V S → Lf K H0 Z σ S H V E → ts E σ H
structure VS (K : PySem.W.Frag) (X : Cx) (st : Stmt) (ts : TS) (t : VTS) : Prop where
  ps : PS X st ts
  snd : SndS K ts t
structure VSs (K : PySem.W.Frag) (X : Cx) (st : List Stmt) (ts : TS) (t : VTS) : Prop where
  ps : PSs X st ts
  snd : SndS K ts t
inductive Wk : List Sl → List Sl → Prop where
  | nil : Wk [] []
  | keep {s : Sl} {S S' : List Sl} : Wk S S' → Wk (s :: S) (s :: S')
  | fz {ds : List D} {S S' : List Sl} : Wk S S' → Wk (.own ds :: S) (.val (.lst ds) :: S')
  | fd {ks : List (List Int)} {ds : List D} {S S' : List Sl} : Wk S S' → Wk (.odi ks ds :: S) (.val (.dic ks ds) :: S')
  | drop {s : Sl} {S S' : List Sl} : Wk S S' → Wk (s :: S) (.no :: S')
theorem Wk.refl : ∀ S, Wk S S
  | [] => .nil
  | _ :: r => .keep (Wk.refl r)
theorem Wk.len {S S' : List Sl} (h : Wk S S') : S.length = S'.length := by induction h <;> simp_all
theorem Wk.at_ {S S' : List Sl} (h : Wk S S') : ∀ {i : Nat} {s : Sl}, S'[i]? = some s → ∃ s₀, S[i]? = some s₀ ∧ (s = s₀ ∨ s = .no ∨ (∃ ds, s₀ = .own ds ∧ s = .val (.lst ds)) ∨ ∃ ks ds, s₀ = .odi ks ds ∧ s = .val (.dic ks ds)) := by
  induction h with
  | nil => intro i s h; simp at h
  | keep h ih =>
    intro i s e
    cases i with
    | zero => simp at e; subst e; exact ⟨_, rfl, .inl rfl⟩
    | succ i => simpa using ih (i := i) (by simpa using e)
  | fz h ih =>
    intro i s e
    cases i with
    | zero => simp at e; subst e; exact ⟨_, rfl, .inr (.inr (.inl ⟨_, rfl, rfl⟩))⟩
    | succ i => simpa using ih (i := i) (by simpa using e)
  | fd h ih =>
    intro i s e
    cases i with
    | zero => simp at e; subst e; exact ⟨_, rfl, .inr (.inr (.inr ⟨_, _, rfl, rfl⟩))⟩
    | succ i => simpa using ih (i := i) (by simpa using e)
  | drop h ih =>
    intro i s e
    cases i with
    | zero => simp at e; subst e; exact ⟨_, rfl, .inr (.inl rfl)⟩
    | succ i => simpa using ih (i := i) (by simpa using e)
theorem Wk.mut {S S' : List Sl} (h : Wk S S') {i : Nat} {s : Sl} (e : S'[i]? = some s) (m : s.mut = true) : S[i]? = some s := by
  obtain ⟨s₀, h1, rfl | rfl | ⟨ds, rfl, rfl⟩ | ⟨ks, ds, rfl, rfl⟩⟩ := h.at_ e
  · exact h1
  · cases m
  · cases m
  · cases m
theorem OK.wk {K : PySem.W.Frag} {H H0 : Hp} {Z : AP} {σ : St} {S S' : List Sl} (k : OK K H0 Z σ H S) (w : Wk S S') : OK K H0 Z σ H S' ∧ Step Z σ S H σ S' H := by
  have n : ∀ a, NM Z σ S a → NM Z σ S' a := fun a x z => by
    rcases z with ⟨i, s, h1, h2, h3⟩ | z
    · exact x (.inl ⟨i, s, w.mut h1 h2, h2, h3⟩)
    · exact x (.inr z)
  refine ⟨⟨by rw [k.len, w.len], fun i o s h1 h2 => ?_, fun i j a s t h1 h2 m1 m2 h3 h4 => k.inj i j a s t (w.mut h1 m1) (w.mut h2 m2) m1 m2 h3 h4, k.dom, k.zl, fun i s a h1 m h3 => k.nz i s a (w.mut h1 m) m h3⟩, fun a x _ => ⟨rfl, n a x⟩, fun _ e => e, fun _ _ _ => rfl⟩
  obtain ⟨s₀, e, rfl | rfl | ⟨ds, rfl, rfl⟩ | ⟨ks, ds, rfl, rfl⟩⟩ := w.at_ h2
  · have q := k.at_ i o s h1 e
    cases s with
    | no => trivial
    | val d => obtain ⟨v, e, r⟩ := q; exact ⟨v, e, r.mono (fun a x _ => ⟨n a x, rfl⟩) fun _ x => x⟩
    | fre d => obtain ⟨v, e, r⟩ := q; exact ⟨v, e, r.mono (fun a x _ => ⟨n a x, rfl⟩) fun _ x => x⟩
    | own ds => obtain ⟨a, vs, e, e', e0, r⟩ := q; exact ⟨a, vs, e, e', e0, r.mono (fun a x _ => ⟨n a x, rfl⟩) fun _ x => x⟩
    | pen ad ns => exact q
    | odi ks ds => obtain ⟨a, vs, e, e', e0, ek, r⟩ := q; exact ⟨a, vs, e, e', e0, ⟨ek.1, ek.2.mono (fun a x _ => ⟨n a x, rfl⟩) fun _ x => x⟩, r.mono (fun a x _ => ⟨n a x, rfl⟩) fun _ x => x⟩
  · trivial
  · obtain ⟨a, vs, e1, e2, e3, r⟩ := k.at_ i o _ h1 e
    subst e1
    refine ⟨.ref a, rfl, .lst ?_ trivial e2 (r.mono (fun a x _ => ⟨n a x, rfl⟩) fun _ _ => trivial)⟩
    intro z
    rcases z with ⟨j, s, g1, g2, g3⟩ | z
    · have := k.inj i j a _ s e (w.mut g1 g2) rfl g2 h1 g3
      subst this
      rw [h2] at g1; cases g1; cases g2
    · exact k.nz i _ a e rfl h1 z
  · obtain ⟨a, vs, e1, ⟨ob, e2⟩, e3, ek, r⟩ := k.at_ i o _ h1 e
    subst e1
    refine ⟨.ref a, rfl, .dic ?_ trivial e2 ek.1 (ek.2.mono (fun a x _ => ⟨n a x, rfl⟩) fun _ _ => trivial) (r.mono (fun a x _ => ⟨n a x, rfl⟩) fun _ _ => trivial)⟩
    intro z
    rcases z with ⟨j, s, g1, g2, g3⟩ | z
    · have := k.inj i j a _ s e (w.mut g1 g2) rfl g2 h1 g3
      subst this
      rw [h2] at g1; cases g1; cases g2
    · exact k.nz i _ a e rfl h1 z
section
variable {K : PySem.W.Frag} {X : Cx} {m : Bool} {e a b c : Expr} {ta tb tc te : TE} {va vb vc : VT} {pos : Pos} {st : Stmt} {rest : List Stmt} {t u : TS} {v w : VTS}
def vNext : VTS := fun V S => V.nx S
def vSeq (t u : VTS) : VTS := fun V S => t { V with nx := fun S' => ∃ S'', Wk S' S'' ∧ u V S'' } S
theorem vss_nil : VSs K X [] tNext vNext := ⟨pss_nil, fun H0 Z σ H S V E k h l => l.nx σ H S k .refl h⟩
theorem vss_one (h : VS K X st t v) : VSs K X [st] t v := ⟨pss_one h.ps, h.snd⟩
theorem vss_cons (h1 : VS K X st t v) (h2 : VSs K X rest u w) : VSs K X (st :: rest) (tSeq t u) (vSeq v w) := ⟨pss_cons h1.ps h2.ps, fun H0 Z σ H S V E k h l =>
  h1.snd H0 Z σ H S _ _ k h ⟨fun σ' H' S' k' st ⟨S'', wk, q⟩ => h2.snd H0 Z σ' H' S'' V E (k'.wk wk).1 q (l.step (st.trans (k'.wk wk).2)), l.bk, l.ct, l.rt⟩⟩
def vNever : VTS := fun _ _ => False
theorem vs_never : VS K X st tNever vNever := ⟨ps_never, fun _ _ _ _ _ _ _ _ h _ => h.elim⟩
theorem vss_never {sts : List Stmt} : VSs K X sts tNever vNever := ⟨pss_never, fun _ _ _ _ _ _ _ _ h _ => h.elim⟩
def vDrop (va : VT) : VTS := fun V S => va S fun _ S1 => V.nx S1
theorem vs_expr (h : VE K X false e te va) (hs : swapsWith e none pos.line X.env = pure false := by rfl) : VS K X (.Expr e pos) (tDrop te) (vDrop va) := ⟨ps_expr h.pe hs, fun H0 Z σ H S V E k t l => h.snd H0 Z σ H S _ _ k t fun v H' r S' k' st _ q => l.nx σ H' S' k' st q⟩
def retO : Option Sl → Option D
  | some (.own ds) => some (.lst ds)
  | some (.odi ks ds) => some (.dic ks ds)
  | _ => none
def retD (S : List Sl) : VR → Option D
  | .d x => some x
  | .own i => retO S[i]?
def vRet (va : VT) : VTS := fun V S => va S fun r S1 => ∃ d, retD S1 r = some d ∧ V.rt d S1
theorem OK.ret {H0 H : Hp} {Z : AP} {σ : St} {S : List Sl} {v : V} {r : VR} {d : D} (k : OK K H0 Z σ H S) (h : RepR K (FM H0 true) Z σ S H v r) (e : retD S r = some d) : Rep K (NP σ S) (Fr H0) H v d := by
  have np : ∀ a, NM Z σ S a → NP σ S a := fun a n i ad ns h1 h2 => n (.inl ⟨i, _, h1, rfl, h2⟩)
  cases r with
  | d x => cases e; exact Rep.mono (fun a n _ => ⟨np a n, rfl⟩) (fun _ x => x rfl) h
  | own i =>
    have h : σ[i]? = some (some v) := h
    have e : retO S[i]? = some d := e
    cases es : S[i]? with
    | none => rw [es] at e; cases e
    | some s =>
      rw [es] at e
      cases s with
      | fre d => cases e
      | own ds =>
        cases e
        obtain ⟨a, vs, h1, h2, h3, h4⟩ := k.at_ _ _ _ h es
        cases h1
        refine .lst (fun i2 ad ns g1 g2 => ?_) ⟨a, rfl, h3⟩ h2 (h4.mono (fun a n _ => ⟨np a n, rfl⟩) fun _ x => x)
        have := k.inj _ _ a _ _ es g1 rfl rfl h g2
        subst this
        rw [es] at g1; cases g1
      | odi ks ds =>
        cases e
        obtain ⟨a, vs, h1, ⟨ob, h2⟩, h3, hk, h4⟩ := k.at_ _ _ _ h es
        cases h1
        refine .dic (fun i2 ad ns g1 g2 => ?_) ⟨a, rfl, h3⟩ h2 hk.1 (Reps.flat (hk.2.mono (fun a n _ => ⟨np a n, rfl⟩) fun _ x => x) (flats_kT _)) (h4.mono (fun a n _ => ⟨np a n, rfl⟩) fun _ x => x)
        have := k.inj _ _ a _ _ es g1 rfl rfl h g2
        subst this
        rw [es] at g1; cases g1
      | no => cases e
      | val x => cases e
      | pen a b => cases e
theorem vs_ret (h : VE K X true e te va) : VS K X (.Return (some e) pos) (tRet te) (vRet va) := ⟨ps_ret h.pe, fun H0 Z σ H S V E k t l => h.snd H0 Z σ H S _ _ k t fun v H' r S' k' st rr ⟨d, e, q⟩ => l.rt v d σ H' S' k' st (k'.ret rr e) q⟩
def vIfS (c : VTT) (t u : VTS) : VTS := fun V S => c S fun b S1 => if b = true then t V S1 else u V S1
theorem vs_if {A B : List Stmt} {tA : TT} {wA : VTT} (hc : VTe K X c tA wA) (ha : VSs K X A t v) (hb : VSs K X B u w) : VS K X (.If c A B pos) (tIfS tA t u) (vIfS wA v w) := ⟨ps_if hc.pe ha.ps hb.ps, fun H0 Z σ H S V E k t l =>
  hc.snd H0 Z σ H S _ _ k t fun b H1 S1 k1 st1 q => by
    cases b with
    | true => rw [if_pos rfl] at q ⊢; exact ha.snd H0 Z σ H1 S1 V E k1 q (l.step st1)
    | false => rw [if_neg Bool.false_ne_true] at q ⊢; exact hb.snd H0 Z σ H1 S1 V E k1 q (l.step st1)⟩
abbrev VG := D → List Sl → (List Sl → Prop) → Prop
def SndG (K : PySem.W.Frag) (g : TG) (vg : VG) : Prop := ∀ H0 Z σ H S v d Q C, OK K H0 Z σ H S → Rep K (NM Z σ S) AnyF H v d → vg d S Q → (∀ σ' H' S', OK K H0 Z σ' H' S' → Step Z σ S H σ' S' H' → Q S' → C σ' H') → g v σ H C
def MonoG (g : TG) : Prop := ∀ x σ H Q1 Q2, (∀ σ H, Q1 σ H → Q2 σ H) → g x σ H Q1 → g x σ H Q2
def MonoGs (g : TGs) : Prop := ∀ x σ H Q1 Q2, (∀ σ H, Q1 σ H → Q2 σ H) → g x σ H Q1 → g x σ H Q2
structure VGe (K : PySem.W.Frag) (X : Cx) (e : Expr) (g : TG) (vg : VG) : Prop where
  pg : PG X e g
  snd : SndG K g vg
  mono : MonoG g
def vgN (i : Nat) : VG := fun d S Q => i < S.length ∧ Q (S.set i (.val d))
theorem vg_name {i : Nat} (h : PG X e (gName i)) : VGe K X e (gName i) (vgN i) := ⟨h, fun H0 Z σ H S v d Q C k r ⟨hi, q⟩ hc => hc _ _ _ (k.setVal hi r).1 (k.setVal hi r).2 q, fun _ _ _ _ _ h q => h _ _ q⟩
def SndGs (K : PySem.W.Frag) (g : TGs) (vg : List D → List Sl → (List Sl → Prop) → Prop) : Prop := ∀ H0 Z σ H S vs ds Q C, OK K H0 Z σ H S → Reps K (NM Z σ S) AnyF H vs ds → vg ds S Q → (∀ σ' H' S', OK K H0 Z σ' H' S' → Step Z σ S H σ' S' H' → Q S' → C σ' H') → g vs σ H C
structure VGs (K : PySem.W.Frag) (X : Cx) (es : List Expr) (g : TGs) (vg : List D → List Sl → (List Sl → Prop) → Prop) : Prop where
  pg : PGs X es g
  snd : SndGs K g vg
  mono : MonoGs g
def vgNil : List D → List Sl → (List Sl → Prop) → Prop := fun ds S Q => ds = [] ∧ Q S
def vgCons (t : VG) (u : List D → List Sl → (List Sl → Prop) → Prop) : List D → List Sl → (List Sl → Prop) → Prop := fun ds S Q => ∃ d r, ds = d :: r ∧ t d S fun S1 => u r S1 Q
theorem vgs_nil : VGs K X [] gNil vgNil := ⟨pgs_nil, fun H0 Z σ H S vs ds Q C k r zq1 hc => by obtain ⟨e, q⟩ := zq1; subst e; cases r; exact ⟨rfl, hc _ _ _ k .refl q⟩, fun _ _ _ _ _ h q => ⟨q.1, h _ _ q.2⟩⟩
theorem vgs_cons {es : List Expr} {g : TG} {gs : TGs} {vg : VG} {vgs : List D → List Sl → (List Sl → Prop) → Prop} (h1 : VGe K X e g vg) (h2 : VGs K X es gs vgs) (hs : (assignEach (e :: es) X.env).map (·.2) = assign e X.env :: (assignEach es X.env).map (·.2) := by rfl) :
    VGs K X (e :: es) (gCons g gs) (vgCons vg vgs) := ⟨pgs_cons h1.pg h2.pg hs, fun H0 Z σ H S vs ds Q C k r zq1 hc => by
  obtain ⟨d, rd, e, q⟩ := zq1
  subst e
  cases r with
  | cons rv rr => exact ⟨_, _, rfl, h1.snd H0 Z σ H S _ _ _ _ k rv q fun σ1 H1 S1 k1 st1 q1 => h2.snd H0 Z σ1 H1 S1 _ _ _ _ k1 (rr.step st1) q1 fun σ2 H2 S2 k2 st2 q2 => hc _ _ _ k2 (st1.trans st2) q2⟩, fun x σ H Q1 Q2 h ⟨v, r, e, q⟩ => ⟨v, r, e, h1.mono _ _ _ _ _ (fun σ' H' q' => h2.mono _ _ _ _ _ h q') q⟩⟩
def vgT (n : Nat) (u : List D → List Sl → (List Sl → Prop) → Prop) : VG := fun d S Q => ∃ ds, d = .tup ds ∧ ds.length = n ∧ u ds S Q
theorem vg_tup {es : List Expr} {kk : Nat} {gs : TGs} {vgs : List D → List Sl → (List Sl → Prop) → Prop} {n : Nat} (hK : X.K = K) (hc : X.calm = true) (h : VGs K X es gs vgs) (hn : (assignEach es X.env).length = n := by rfl) (hst : (assignEach es X.env).findIdx? (·.1) = none := by rfl) :
    VGe K X (.Tuple es kk pos) (gTup K n gs) (vgT n vgs) := ⟨by subst hK; exact pg_tup hc h.pg hn hst, fun H0 Z σ H S v d Q C k r zq1 hcc => by
  obtain ⟨ds, e, hl, q⟩ := zq1
  subst e
  obtain ⟨a, vs, rfl, hq, rr⟩ := r.sqT
  exact ⟨a, vs, rfl, hq, by rw [rr.length]; exact hl, h.snd H0 Z σ H S _ _ _ _ k rr q hcc⟩, fun x σ H Q1 Q2 hh ⟨a, xs, e1, e2, e3, q⟩ => ⟨a, xs, e1, e2, e3, h.mono _ _ _ _ _ hh q⟩⟩
def vAsg (va : VT) (g : VG) : VTS := fun V S => va S fun r S1 => ∃ d, r = .d d ∧ g d S1 V.nx
theorem sndAsg {g : TG} {vg : VG} (ha : SndE K m te va) (hg : SndG K g vg) : SndS K (tAsg te g) (vAsg va vg) := fun H0 Z σ H S V E k t l => ha H0 Z σ H S _ _ k t fun v H1 r S1 k1 st1 rr zq1 => by
  obtain ⟨d, e, q⟩ := zq1
  subst e
  exact hg H0 Z σ H1 S1 v d _ _ k1 (Rep.mono (fun _ n _ => ⟨n, rfl⟩) (fun _ _ => trivial) rr) q fun σ2 H2 S2 k2 st2 q2 => l.nx σ2 H2 S2 k2 (st1.trans st2) q2
theorem vs_set {i : Nat} {x : Str} {pos' : Pos} (ps : ∀ te, PE X e te → PS X (.Assign [.Name x pos'] e pos) (tAsg te (gName i))) (h : VE K X false e te va) : VS K X (.Assign [.Name x pos'] e pos) (tAsg te (gName i)) (vAsg va (vgN i)) :=
  ⟨ps te h.pe, sndAsg h.snd fun H0 Z σ H S v d Q C k r ⟨hi, q⟩ hc => hc _ _ _ (k.setVal hi r).1 (k.setVal hi r).2 q⟩
theorem vs_asg {tg : Expr} {g : TG} {vg : VG} (h : VE K X false e te va) (hg : VGe K X tg g vg) (hs : swapsWithSole [tg] e pos.line X.env = pure false := by rfl) (hw : swappedStores [tg] e X.env = pure none := by rfl)
    (h1 : (assignEach [tg] X.env).map (·.2) = [assign tg X.env] := by rfl) : VS K X (.Assign [tg] e pos) (tAsg te g) (vAsg va vg) := ⟨ps_asg h.pe hg.pg hs hw h1, sndAsg h.snd hg.snd⟩
def vSetN (i : Nat) (t : VTN) : VTS := fun V S => t S fun ds S1 => i < S1.length ∧ V.nx (S1.set i (.own ds))
theorem vs_setN {i : Nat} {x : Str} {pos' : Pos} {tn : VTN} (ps : ∀ te, PE X e te → PS X (.Assign [.Name x pos'] e pos) (tAsg te (gName i))) (h : VN K X e te tn) : VS K X (.Assign [.Name x pos'] e pos) (tAsg te (gName i)) (vSetN i tn) :=
  ⟨ps te h.pe, fun H0 Z σ H S V E k t l => h.snd H0 Z σ H S _ _ k t fun a vs ds H1 H' S' k1 st1 ha hg hl rr zq1 => by
    obtain ⟨hi, q⟩ := zq1
    obtain ⟨k2, st2⟩ := k1.setNew (s := .own ds) hi ha hg ⟨a, vs, rfl, hl, k1.dom a ha, rr⟩ rfl
    exact l.nx _ _ _ k2 (st1.trans st2) q⟩
def vSetP (i : Nat) (t : VTN) : VTS := fun V S => t S fun ds S1 => ∃ ns : List Int, ds = ns.map .int ∧ i < S1.length ∧ V.nx (S1.set i (.pen none ns))
theorem vs_setP {i : Nat} {x : Str} {pos' : Pos} {tn : VTN} (ps : ∀ te, PE X e te → PS X (.Assign [.Name x pos'] e pos) (tAsg te (gName i))) (h : VN K X e te tn) : VS K X (.Assign [.Name x pos'] e pos) (tAsg te (gName i)) (vSetP i tn) :=
  ⟨ps te h.pe, fun H0 Z σ H S V E k t l => h.snd H0 Z σ H S _ _ k t fun a vs ds H1 H' S' k1 st1 ha hg hl rr zq1 => by
    obtain ⟨ns, e, hi, q⟩ := zq1
    subst e
    obtain ⟨k2, st2⟩ := k1.setNew (s := .pen none ns) hi ha hg ⟨a, rfl, (fun _ z => nomatch z), by rw [← Reps.toInts rr]; exact hl⟩ rfl
    exact l.nx _ _ _ k2 (st1.trans st2) q⟩
end
end VL
end
section
set_option maxHeartbeats 4000000
namespace VL
open PySem L2
section
variable {K : PySem.W.Frag} {X : Cx} {m : Bool} {e a b c : Expr} {ta tb tc te ti : TE} {va vb vc vi : VT} {pos : Pos} {st : Stmt} {rest : List Stmt} {t u : TS} {v w : VTS}
theorem OK.ownAt {H0 H : Hp} {Z : AP} {σ : St} {S : List Sl} (k : OK K H0 Z σ H S) {i : Nat} {s : Sl} (e : S[i]? = some s) : ∃ o, σ[i]? = some o ∧ SlOk K H0 (NM Z σ S) H o s := by
  have hi : i < σ.length := by rw [k.len]; exact (List.getElem?_eq_some_iff.mp e).1
  exact ⟨_, List.getElem?_eq_getElem hi, k.at_ i _ s (List.getElem?_eq_getElem hi) e⟩
def vApp (i : Nat) (ve : VT) : VT := fun S Q => (∃ ds, S[i]? = some (.own ds)) ∧ ve S fun r S1 => ∃ d ds, r = .d d ∧ S1[i]? = some (.own ds) ∧ ds.length ≤ 1000000 ∧ Q (.d .non) (S1.set i (.own (ds ++ [d])))
theorem mt_app {apos : Pos} {o : Expr} (i : Nat) (hK : X.K = K) (ho : PE X o (tVar i)) (h : VE K X true e te va) (pe : ∀ te, PE X e te → PE X (.Call (.Attribute o "append" apos) [e] [] pos) (tBM X.K "list" rAppend (tVar i) (tCons te tNil))) :
    VE K X m (.Call (.Attribute o "append" apos) [e] [] pos) (tBM K "list" rAppend (tVar i) (tCons te tNil)) (vApp i va) := ⟨by subst hK; exact pe te h.pe, fun H0 Z σ H S Q C k zq1 hc => by
  obtain ⟨⟨ds0, e0⟩, t⟩ := zq1
  obtain ⟨o, h1, a, vs, rfl, h2, h3, h4⟩ := k.ownAt e0
  refine ⟨.ref a, h1, .inl ⟨rfl, vs, .inl (.inl h2)⟩, ?_⟩
  refine h.snd H0 Z σ H S _ _ k t fun x H1 r S1 k1 st1 rr ⟨d, ds, er, e1, hl, q⟩ => ?_
  subst er
  obtain ⟨o', g1, a', vs', rfl, g2, g3, g4⟩ := k1.ownAt e1
  rw [h1] at g1; cases g1
  refine ⟨a, vs', x, rfl, rfl, g2, by rw [g4.length, sizeLine_eq]; lia, ?_⟩
  have na : NM Z σ S1 a → False := fun n => n (.inl ⟨i, _, e1, rfl, h1⟩)
  have hm : ∀ b, NM Z σ S1 b → H1 b ≠ none → NM Z σ S1 b ∧ upd H1 a (.lst (vs' ++ [x])) b = H1 b := fun b n _ => ⟨n, upd_ne fun z => na (by rw [← z]; exact n)⟩
  obtain ⟨k2, st2⟩ := k1.chg (s := .own (ds ++ [d])) (o := .lst (vs' ++ [x])) e1 rfl h1 ⟨_, rfl⟩ rfl ⟨a, _, rfl, upd_same, g3, Reps.append (g4.mono hm fun _ x => x) (.cons (Rep.mono hm (fun _ x => x rfl) rr) .nil)⟩
  exact hc .non _ (.d .non) _ k2 (st1.trans st2) Rep.non q⟩
theorem ve_app {apos : Pos} {o : Expr} (i : Nat) (hK : X.K = K) (ho : PE X o (tVar i)) (h : VE K X true e te va) (hbase : attributeBase o "append" X.env (eval o X.env) = eval o X.env := by rfl)
    (hfew : ((backTo pos (starEach (e :: []) X.env)).all (fun x => !x.1) && (backToKw pos (keywordEach [] X.env)).all (fun x => x.1.isSome)
      && decide ((e :: []).length + ([] : List Keyword).length + (if ([] : List Keyword).isEmpty then 0 else 1) < 30)) = true := by rfl)
    (hline : (apos.endLine == pos.line) = true := by rfl) (hs : starEach (e :: []) X.env = (false, eval e X.env) :: starEach [] X.env := by rfl) (hplain : (backTo pos (starEach [] X.env)).any (·.1) = false := by rfl) :
    VE K X m (.Call (.Attribute o "append" apos) [e] [] pos) (tBM K "list" rAppend (tVar i) (tCons te tNil)) (vApp i va) :=
  mt_app i hK ho h fun te hp => pe_bm PySem.F.plainAttrs_list PySem.F.slot_list_append PySem.F.type_list_append mt_append ho (pa_cons hp pa_nil hs) hbase hfew hline hs hplain
def vSetIx (i : Nat) (ve vi : VT) : VTS := fun V S => ve S fun r S1 => (∃ s, S1[i]? = some s ∧ s.mut = true) ∧ vi S1 fun ri S2 => ∃ j, get S2 ri = some (.int j) ∧
  ((∃ ad ns k n, S2[i]? = some (.pen ad ns) ∧ ixN ns.length j = some k ∧ r = .d (.int n) ∧ V.nx (S2.set i (.pen ad (ns.set k n)))) ∨
   (∃ ds k d, S2[i]? = some (.own ds) ∧ ixN ds.length j = some k ∧ r = .d d ∧ V.nx (S2.set i (.own (ds.set k d)))))
theorem vs_setIx {o ie : Expr} {posS : Pos} (i : Nat) (ho : PE X o (tVar i)) (h : VE K X true e te va) (hi : VE K X false ie ti vi)
    (ha : ∀ v, assign (.Subscript o ie posS) X.env v = (do
      let ov ← holding [v] (eval o X.env)
      let iv ← holding [v, ov] (eval ie X.env)
      standAt posS
      holding [v, ov, iv] (setItem ov iv v)
      release [v, ov, iv] []) := by intro _; rfl)
    (hs : swapsWithSole [.Subscript o ie posS] e pos.line X.env = pure false := by rfl) (hw : swappedStores [.Subscript o ie posS] e X.env = pure none := by rfl)
    (h1 : (assignEach [.Subscript o ie posS] X.env).map (·.2) = [assign (.Subscript o ie posS) X.env] := by rfl) :
    VS K X (.Assign [.Subscript o ie posS] e pos) (tAsg te (gSub (tVar i) ti rSetL)) (vSetIx i va vi) := ⟨ps_asg h.pe (pg_sub ho hi.pe set_list ha) hs hw h1, fun H0 Z σ H S V E k t l => by
  refine h.snd H0 Z σ H S _ _ k t fun x H1 r S1 k1 st1 rr ⟨⟨s1, em, hm1⟩, q⟩ => ?_
  -- the slot's address stays: σ is one
  have fin : ∀ (p : Addr), σ[i]? = some (some (.ref p)) → gSub (tVar i) ti rSetL x σ H1 E.nx := fun p hp => by
    refine ⟨.ref p, hp, hi.snd H0 Z σ H1 S1 _ _ k1 q fun y H2 ri S2 k2 st2 r2 ⟨j, ej, q2⟩ => ?_⟩
    cases r2.get k2 ej
    have rr2 := rr.step st2
    rcases q2 with ⟨ad, ns, kk, n, e1, e2, er, q2⟩ | ⟨ds, kk, d, e1, e2, er, q2⟩
    · subst er
      cases (show Rep K _ _ H2 x (.int n) from rr2)
      obtain ⟨o', g1, a', rfl, g2, g3⟩ := k2.ownAt e1
      rw [hp] at g1; cases g1
      refine ⟨p, _, j, kk, rfl, rfl, g3, by rw [List.length_map]; exact e2, ?_⟩
      obtain ⟨k3, st3⟩ := k2.chg (s := .pen ad (ns.set kk n)) (o := .lst ((ns.map L2.V.int).set kk (.int n))) e1 rfl hp ⟨_, rfl⟩ rfl ⟨p, rfl, g2, by rw [upd_same, List.map_set]⟩
      exact l.nx _ _ _ k3 ((st1.trans st2).trans st3) q2
    · subst er
      obtain ⟨o', g1, a', vs, rfl, g2, g3, g4⟩ := k2.ownAt e1
      rw [hp] at g1; cases g1
      refine ⟨p, _, j, kk, rfl, rfl, g2, by rw [g4.length]; exact e2, ?_⟩
      have na : NM Z σ S2 p → False := fun n => n (.inl ⟨i, _, e1, rfl, hp⟩)
      have hm : ∀ b, NM Z σ S2 b → H2 b ≠ none → NM Z σ S2 b ∧ upd H2 p (.lst (vs.set kk x)) b = H2 b := fun b n _ => ⟨n, upd_ne fun z => na (by rw [← z]; exact n)⟩
      obtain ⟨k3, st3⟩ := k2.chg (s := .own (ds.set kk d)) (o := .lst (vs.set kk x)) e1 rfl hp ⟨_, rfl⟩ rfl ⟨p, _, rfl, upd_same, g3, Reps.set (Rep.mono hm (fun _ x => x rfl) rr2) kk (g4.mono hm fun _ x => x)⟩
      exact l.nx _ _ _ k3 ((st1.trans st2).trans st3) q2
  -- which address it is: look once
  obtain ⟨o1, g1, g2⟩ := k1.ownAt em
  cases s1 with
  | no => cases hm1
  | val d => cases hm1
  | fre d => cases hm1
  | own ds => obtain ⟨p, _, rfl, _⟩ := g2; exact fin p g1
  | pen ad ns => obtain ⟨p, rfl, _⟩ := g2; exact fin p g1
  | odi ks ds => obtain ⟨p, _, rfl, _⟩ := g2; exact fin p g1⟩
def pick : List VR → Nat → Option (Nat × List VR)
  | .own i :: r, 0 => some (i, r)
  | x :: r, j + 1 => (pick r j).map fun p => (p.1, x :: p.2)
  | _, _ => none
def vFnI (j : Nat) (p : List Int → List D → (D → List Int → Prop) → Prop) (vr : VTA) : VT := fun S Q => vr S fun rs S1 => ∃ i rs' ad ns ds, pick rs j = some (i, rs') ∧ S1[i]? = some (.pen ad ns) ∧ allD rs' = some ds ∧ p ns ds fun d ns' => Q (.d d) (S1.set i (.pen ad ns'))
theorem RepRs.pick {F : FP} {Z : AP} {σ : St} {S : List Sl} {H : Hp} : ∀ {j : Nat} {vs : List V} {rs : List VR} {i : Nat} {rs' : List VR}, RepRs K F Z σ S H vs rs → VL.pick rs j = some (i, rs') → ∃ v ws us, vs = ws ++ v :: us ∧ ws.length = j ∧ σ[i]? = some (some v) ∧ RepRs K F Z σ S H (ws ++ us) rs' ∧ ws.length ≤ (ws ++ us).length
  | 0, _, _, i, rs', .cons (r := r) h t, e => by
    cases r with
    | d x => cases e
    | own k => cases e; exact ⟨_, [], _, rfl, rfl, h, t, by simp⟩
  | j + 1, _, _, i, rs', .cons (r := r) (rs := rs) h t, e => by
    have e' : (VL.pick rs j).map (fun p => (p.1, r :: p.2)) = some (i, rs') := by cases r <;> exact e
    obtain ⟨⟨i', q⟩, h1, h2⟩ := Option.map_eq_some_iff.mp e'
    cases h2
    obtain ⟨v, ws, us, rfl, hl, hs, rr, _⟩ := RepRs.pick t h1
    exact ⟨v, _ :: ws, us, rfl, by simp [hl], hs, .cons h rr, by simp⟩
  | _, _, _, _, _, .nil, e => by cases e
theorem Reps.splitAt {N : AP} {F : FP} {H : Hp} : ∀ {ws us : List V} {ds : List D}, Reps K N F H (ws ++ us) ds → ∃ d1 d2, ds = d1 ++ d2 ∧ Reps K N F H ws d1 ∧ Reps K N F H us d2
  | [], us, ds, h => ⟨[], ds, rfl, .nil, h⟩
  | w :: ws, us, _, .cons h t => by
    obtain ⟨d1, d2, rfl, h1, h2⟩ := Reps.splitAt (ws := ws) t
    exact ⟨_ :: d1, d2, rfl, .cons h h1, h2⟩
section
variable {es : List Expr} {tr : TA} {vr : VTA} {x : Str} {p0 : Pos} {j k : Nat} {ps : List Str}
theorem ve_fnI {jj : Nat} {p : List Int → List D → (D → List Int → Prop) → Prop} (E : Has X.prog X.w X.K X.mg X.base k x ps (spI K jj p)) (hr : Room j X.A) (ha : VA K X false (e :: es) tr vr)
    (hk : k ≤ j := by decide) (hg : Gl X x := by rfl) (hdb : (x == ("__debug__" : Str)) = false := by decide) (he : starEach (e :: es) X.env = (false, eval e X.env) :: starEach es X.env := by rfl)
    (hpl : (backTo pos (starEach es X.env)).any (·.1) = false := by rfl) : VE K X m (.Call (.Name x p0) (e :: es) [] pos) (tCall (spI K jj p) [] E0 tr) (vFnI jj p vr) := ⟨pe_fn E hr ha.pe hk hg hdb he hpl, fun H0 Z σ H S Q C k t hc =>
  ha.snd H0 Z σ H S _ _ k t fun vs H1 rs S1 k1 st1 rrs zq1 => by
    obtain ⟨i, rs', ad, ns, ds, e1, e2, e3, q⟩ := zq1
    obtain ⟨v, ws, us, rfl, hl, hs, rr, _⟩ := rrs.pick e1
    obtain ⟨o, g1, a, rfl, g2, g3⟩ := k1.ownAt e2
    rw [hs] at g1; cases g1
    have ma : Mo Z σ S1 a := .inl ⟨i, _, e2, rfl, hs⟩
    obtain ⟨d1, d2, rfl, r1, r2⟩ := Reps.splitAt (rr.allD e3)
    have hm : ∀ b, NM Z σ S1 b → H1 b ≠ none → b ≠ a ∧ H1 b = H1 b := fun b n _ => ⟨fun z => n (by rw [z]; exact ma), rfl⟩
    refine ⟨a, ws, us, ns, d1, d2, _, by rw [List.append_nil], hl, g3, r1.mono hm fun _ _ => trivial, r2.mono hm fun _ _ => trivial, q, fun d ns' v H' q g ga rv => ?_⟩
    -- the pen changed, and the heap grown
    have hG : ∀ b, upd H1 a (.lst (ns'.map V.int)) b ≠ none → H' b = upd H1 a (.lst (ns'.map V.int)) b := fun b hb => by
      by_cases hba : b = a
      · subst hba; rw [upd_same]; exact ga
      · rw [upd_ne hba] at hb ⊢; exact g b hba hb
    obtain ⟨k2, st2⟩ := k1.chg (s := .pen ad ns') (o := .lst (ns'.map V.int)) e2 rfl hs ⟨_, rfl⟩ rfl ⟨a, rfl, g2, upd_same⟩
    have k3 := k2.grow hG
    refine hc v H' (.d d) _ k3 ((st1.trans st2).trans (.grow hG)) (show Rep K _ _ H' v d from ?_) q
    refine (Rep.avoid (N' := NM Z σ (S1.set i (.pen ad ns'))) (fun b z => k3.mo (Classical.not_not.mp z)) (fun b ⟨c, ec, f⟩ => ?_) rv).mono (fun _ n _ => ⟨n, rfl⟩) (fun o ⟨c, ec, f⟩ _ => ⟨c, ec, k1.dom c f⟩)
    cases ec
    refine k2.nm ?_
    rw [upd_ne]
    · exact f
    · intro z; subst z; rw [g3] at f; cases f⟩
end
end
end VL
end
section
set_option maxHeartbeats 4000000
namespace VL
open PySem L2
def Gd (K : PySem.W.Frag) (Z : AP) (J : It) (ds : List D) (σ : St) (S : List Sl) (H : Hp) : Prop := ∀ σ2 S2 H2, (∀ p, H2 p = none → NM Z σ2 S2 p) → Step Z σ S H σ2 S2 H2 → ∀ i, (i < ds.length → J.go i H2) ∧ (∀ x H3, J.yld i H2 x H3 → i < ds.length → (∀ a, H2 a ≠ none → H3 a = H2 a) ∧ ∃ d, ds[i]? = some d ∧ Rep K (NM Z σ2 S2) AnyF H3 x d) ∧ (i = ds.length → J.stop i H2)
def SndI (K : PySem.W.Frag) (wi : TI) (vi : VTN) : Prop := ∀ H0 Z σ H S Q C, OK K H0 Z σ H S → vi S Q → (∀ J ds H' S', OK K H0 Z σ H' S' → Step Z σ S H σ S' H' → Gd K Z J ds σ S' H' → Q ds S' → C J H') → wi σ H C
structure VI (K : PySem.W.Frag) (X : Cx) (tg e : Expr) (wi : TI) (vi : VTN) : Prop where
  pi : PI X tg e wi
  snd : SndI K wi vi
section
variable {K : PySem.W.Frag} {X : Cx} {m : Bool} {e a b c tg : Expr} {ta tb tc te ti : TE} {va vb vc : VT} {pos : Pos} {st : Stmt} {rest : List Stmt} {t u : TS} {v w : VTS}
def vItL (va : VT) : VTN := fun S Q => va S fun r S1 => ∃ ds, r = .d (.lst ds) ∧ Q ds S1
theorem vi_list (hK : X.K = K) (h : VE K X false e te va) : VI K X tg e (iList K te) (vItL va) := ⟨by subst hK; exact pi_list h.pe, fun H0 Z σ H S Q C k t hc => h.snd H0 Z σ H S _ _ k t fun v H1 r S1 k1 st1 rr zq1 => by
  obtain ⟨ds, e, q⟩ := zq1
  subst e
  have rr : Rep K _ _ H1 v (.lst ds) := rr
  obtain ⟨a, vs, rfl, hq, _⟩ := rr.sqL
  refine ⟨a, rfl, ⟨vs, hq⟩, hc _ ds H1 S1 k1 st1 (fun σ2 S2 H2 _ st2 i => ?_) q⟩
  obtain ⟨a', vs', e, hq2, r2⟩ := (rr.step st2).sqL
  cases e
  refine ⟨fun hi => ?_, fun x H3 hy hi => ?_, fun hi => ⟨vs', hq2, by rw [r2.length]; lia⟩⟩
  · obtain ⟨v, h1, _⟩ := r2.getD (List.getElem?_eq_getElem hi)
    exact ⟨vs', v, hq2, h1⟩
  · obtain ⟨e, h2⟩ := hy
    obtain ⟨d, h3, h4⟩ := r2.get (h2 vs' hq2)
    exact ⟨fun _ _ => by rw [e], d, h3, h4.mono (fun _ n _ => ⟨n, by rw [e]⟩) fun _ _ => trivial⟩⟩
def rg (lo : Int) (n : Nat) : List D := (List.range n).map fun (i : Nat) => D.int (lo + (i : Int))
theorem rg_len (lo : Int) (n : Nat) : (rg lo n).length = n := by simp [rg]
theorem rg_at {lo : Int} {n i : Nat} (h : i < n) : (rg lo n)[i]? = some (.int (lo + (i : Int))) := by simp [rg, h]
theorem gd_rng {lo : Int} {n : Nat} {Z : AP} {σ : St} {S : List Sl} {H : Hp} : Gd K Z (Itr lo n) (rg lo n) σ S H := fun σ2 S2 H2 _ st2 i => by
  rw [rg_len]
  refine ⟨fun h => h, fun x H3 ⟨e, hx⟩ hi => ⟨fun _ _ => by rw [e], _, rg_at hi, by rw [hx]; exact .int _⟩, fun h => by rw [h]; exact Nat.le_refl _⟩
section
variable {tr : TA} {vr : VTA} {p : Pos}
def vRg1 (vr : VTA) : VTN := fun S Q => vr S fun rs S1 => ∃ j : Int, rs = [.d (.int j)] ∧ -(2 ^ 62) ≤ j ∧ j < 2 ^ 62 ∧ Q (rg 0 j.toNat) S1
def vRg2 (vr : VTA) : VTN := fun S Q => vr S fun rs S1 => ∃ i j : Int, rs = [.d (.int i), .d (.int j)] ∧ (-(2 ^ 62) ≤ i ∧ i < 2 ^ 62 ∧ -(2 ^ 62) ≤ j ∧ j < 2 ^ 62) ∧ Q (rg i (j - i).toNat) S1
theorem vi_range1 (hg : Gl X "range") (hm : X.mg "range" = none) (ha : VA K X false [a] tr vr) (hs : starEach [a] X.env = [(false, eval a X.env)] := by rfl) : VI K X tg (.Call (.Name "range" p) [a] [] pos) (iRng1 tr) (vRg1 vr) := ⟨pi_range1 hg hm ha.pe hs, fun H0 Z σ H S Q C k t hc =>
  ha.snd H0 Z σ H S _ _ k t fun vs H1 rs S1 k1 st1 rrs zq1 => by
    obtain ⟨j, e, h1, h2, q⟩ := zq1
    subst e
    cases rrs with
    | cons r t =>
      cases t
      cases (show Rep K _ _ H1 _ (.int j) from r)
      exact ⟨j, rfl, h1, h2, hc _ _ H1 S1 k1 st1 gd_rng q⟩⟩
theorem vi_range2 (hg : Gl X "range") (hm : X.mg "range" = none) (ha : VA K X false [a, b] tr vr) (hs : starEach [a, b] X.env = [(false, eval a X.env), (false, eval b X.env)] := by rfl) (hs2 : starEach [b] X.env = [(false, eval b X.env)] := by rfl) : VI K X tg (.Call (.Name "range" p) [a, b] [] pos) (iRng2 tr) (vRg2 vr) := ⟨pi_range2 hg hm ha.pe hs hs2, fun H0 Z σ H S Q C k t hc =>
  ha.snd H0 Z σ H S _ _ k t fun vs H1 rs S1 k1 st1 rrs zq1 => by
    obtain ⟨i, j, e, h1, q⟩ := zq1
    subst e
    cases rrs with
    | cons r t =>
      cases t with
      | cons r' t =>
        cases t
        cases (show Rep K _ _ H1 _ (.int i) from r)
        cases (show Rep K _ _ H1 _ (.int j) from r')
        exact ⟨i, j, rfl, h1, hc _ _ H1 S1 k1 st1 gd_rng q⟩⟩
end
def runFor (vg : VG) (vb : VTS) (V : VEnds) : List D → List Sl → Prop
  | [] => V.nx
  | d :: r => fun S => vg d S fun S3 => vb ⟨runFor vg vb V r, V.rt, V.nx, runFor vg vb V r⟩ S3
def vFor (vi : VTN) (vg : VG) (vb : VTS) : VTS := fun V S => vi S fun ds S1 => runFor vg vb V ds S1 ∨ ∃ Iv : Nat → List Sl → Prop, Iv 0 S1 ∧ (∀ i d S2, ds[i]? = some d → Iv i S2 → vg d S2 fun S3 => vb { V with nx := Iv (i + 1), ct := Iv (i + 1), bk := V.nx } S3) ∧ ∀ S2, Iv ds.length S2 → V.nx S2
theorem vs_for {body : List Stmt} {wi : TI} {vi : VTN} {g : TG} {vg : VG} (hp : PassesOwn (model X.prog X.w) X.A X.env X.xe) (hc : X.calm = true) (hi : VI K X tg e wi vi) (hg : VGe K X tg g vg) (hb : VSs K X body t v) (hs : ∀ x, foldedSetIterable e X.env x = pure x := by intro _; rfl) :
    VS K X (.For tg e body [] pos) (tFor wi g t) (vFor vi vg v) := ⟨ps_for hp hc hi.pi hg.pg hb.ps hs, fun H0 Z σ H S V E k t l => hi.snd H0 Z σ H S _ _ k t fun J ds H1 S1 k1 st1 gd hh => by
  rcases hh with hr | ⟨Iv, i0, hs, hd⟩
  · refine ⟨fun i m σ H => m = ds.length - i ∧ i ≤ ds.length ∧ ∃ S2, OK K H0 Z σ H S2 ∧ Step Z _ S1 H1 σ S2 H ∧ runFor vg v V (ds.drop i) S2, ⟨ds.length, by simp, Nat.zero_le _, S1, k1, .refl, by simpa using hr⟩, ?_⟩
    rintro i m σ2 H2 ⟨rfl, hi, S2, k2, st2, p⟩
    obtain ⟨g1, g2, g3⟩ := gd σ2 S2 H2 (fun _ => k2.nm) st2 i
    by_cases hlt : i < ds.length
    · rw [List.drop_eq_getElem_cons hlt] at p
      refine .inr ⟨g1 hlt, fun σ' H' => ∃ S', OK K H0 Z σ' H' S' ∧ Step Z σ S1 H1 σ' S' H' ∧ runFor vg v V (ds.drop (i + 1)) S', fun σ' H' p' => ⟨ds.length - (i + 1), by lia, rfl, hlt, p'⟩, fun x H3 y => ?_⟩
      obtain ⟨hgr, d, hd', rd⟩ := g2 x H3 y hlt
      replace k2 := k2.grow hgr
      replace st2 := st2.trans (.grow hgr)
      rw [List.getElem?_eq_getElem hlt] at hd'
      cases hd'
      refine hg.snd H0 Z σ2 H3 S2 x _ _ _ k2 rd p fun σ4 H4 S4 k4 st4 q4 => ?_
      refine hb.snd H0 Z σ4 H4 S4 _ _ k4 q4 ⟨fun σ' H' S' k' s' q' => ⟨S', k', (st2.trans st4).trans s', q'⟩, fun σ' H' S' k' s' q' => l.nx σ' H' S' k' (((st1.trans st2).trans st4).trans s') q', fun σ' H' S' k' s' q' => ⟨S', k', (st2.trans st4).trans s', q'⟩, fun v d σ' H' S' k' s' r' q' => l.rt v d σ' H' S' k' (((st1.trans st2).trans st4).trans s') r' q'⟩
    · have e : i = ds.length := by lia
      rw [e, List.drop_length] at p
      exact .inl ⟨g3 e, l.nx _ _ _ k2 (st1.trans st2) p⟩
  refine ⟨fun i m σ H => m = ds.length - i ∧ i ≤ ds.length ∧ ∃ S2, OK K H0 Z σ H S2 ∧ Step Z _ S1 H1 σ S2 H ∧ Iv i S2, ⟨ds.length, by simp, Nat.zero_le _, S1, k1, .refl, i0⟩, ?_⟩
  rintro i m σ2 H2 ⟨rfl, hi, S2, k2, st2, p⟩
  obtain ⟨g1, g2, g3⟩ := gd σ2 S2 H2 (fun _ => k2.nm) st2 i
  by_cases hlt : i < ds.length
  · refine .inr ⟨g1 hlt, fun σ' H' => ∃ S', OK K H0 Z σ' H' S' ∧ Step Z σ S1 H1 σ' S' H' ∧ Iv (i + 1) S', fun σ' H' p' => ⟨ds.length - (i + 1), by lia, rfl, hlt, p'⟩, fun x H3 y => ?_⟩
    obtain ⟨hgr, d, hd', rd⟩ := g2 x H3 y hlt
    replace k2 := k2.grow hgr
    replace st2 := st2.trans (.grow hgr)
    refine hg.snd H0 Z σ2 H3 S2 x d _ _ k2 rd (hs i d S2 hd' p) fun σ4 H4 S4 k4 st4 q4 => ?_
    refine hb.snd H0 Z σ4 H4 S4 _ _ k4 q4 ⟨fun σ' H' S' k' s' q' => ⟨S', k', (st2.trans st4).trans s', q'⟩, fun σ' H' S' k' s' q' => l.nx σ' H' S' k' (((st1.trans st2).trans st4).trans s') q', fun σ' H' S' k' s' q' => ⟨S', k', (st2.trans st4).trans s', q'⟩, fun v d σ' H' S' k' s' r' q' => l.rt v d σ' H' S' k' (((st1.trans st2).trans st4).trans s') r' q'⟩
  · have e : i = ds.length := by lia
    exact .inl ⟨g3 e, l.nx _ _ _ k2 (st1.trans st2) (hd S2 (by rw [← e]; exact p))⟩⟩
end
def capS (n : Nat) (ix : List Nat) (S : List Sl) : List Sl := List.replicate n .no ++ ix.map fun i => (S[i]?).getD .no
def back1 (s t : Sl) : Sl := if s.mut then (if t.mut then t else .no) else s
def backFrom (n : Nat) (ix : List Nat) (T : List Sl) : Nat → List Sl → List Sl
  | _, [] => []
  | k, s :: r => (match ix.idxOf? k with | some j => back1 s ((T[n + j]?).getD .no) | none => s) :: backFrom n ix T (k + 1) r
def backS (n : Nat) (ix : List Nat) (S T : List Sl) : List Sl := backFrom n ix T 0 S
def Zin (Z : AP) (ix : List Nat) (σ : St) (S : List Sl) : AP := fun a => Z a ∨ ∃ (i : Nat) (s : Sl), i ∉ ix ∧ S[i]? = some s ∧ s.mut = true ∧ σ[i]? = some (some (V.ref a))
section
variable {K : PySem.W.Frag} {H H' H0 : Hp} {Z : AP} {σ σ' : St} {S T : List Sl} {n : Nat} {ix : List Nat}
theorem back_len (k : Nat) : (backFrom n ix T k S).length = S.length := by
  induction S generalizing k with
  | nil => rfl
  | cons s r ih => simp [backFrom, ih]
theorem back_at (k : Nat) {i : Nat} {s : Sl} (h : S[i]? = some s) : (backFrom n ix T k S)[i]? = some (match ix.idxOf? (k + i) with | some j => back1 s ((T[n + j]?).getD .no) | none => s) := by
  induction S generalizing k i with
  | nil => simp at h
  | cons s' r ih =>
    cases i with
    | zero => simp at h; subst h; rfl
    | succ i =>
      simp at h
      simp only [backFrom, List.getElem?_cons_succ]
      rw [ih (k + 1) h, show k + 1 + i = k + (i + 1) by lia]
theorem cap_at {j : Nat} {s : Sl} (h : (capS n ix S)[j]? = some s) (m : s.mut = true) : ∃ k i, j = n + k ∧ ix[k]? = some i ∧ S[i]? = some s := by
  unfold capS at h
  by_cases hj : j < n
  · rw [List.getElem?_append_left (by simpa using hj)] at h
    simp [hj] at h
    subst h; cases m
  · rw [List.getElem?_append_right (by simp; lia)] at h
    simp only [List.length_replicate, List.getElem?_map] at h
    cases hk : ix[j - n]? with
    | none => rw [hk] at h; cases h
    | some i =>
      rw [hk] at h
      simp at h
      refine ⟨j - n, i, by lia, hk, ?_⟩
      cases hs : S[i]? with
      | none => rw [hs] at h; simp at h; subst h; cases m
      | some s' => rw [hs] at h; simp at h; subst h; rfl
theorem cap_val {j : Nat} {s : Sl} (h : (capS n ix S)[j]? = some s) : s = .no ∨ ∃ k i, j = n + k ∧ ix[k]? = some i ∧ S[i]? = some s := by
  unfold capS at h
  by_cases hj : j < n
  · rw [List.getElem?_append_left (by simpa using hj)] at h
    simp [hj] at h
    exact .inl h.symm
  · rw [List.getElem?_append_right (by simp; lia)] at h
    simp only [List.length_replicate, List.getElem?_map] at h
    cases hk : ix[j - n]? with
    | none => rw [hk] at h; cases h
    | some i =>
      rw [hk] at h
      simp at h
      cases hs : S[i]? with
      | none => rw [hs] at h; simp at h; exact .inl h.symm
      | some s' => rw [hs] at h; simp at h; subst h; exact .inr ⟨j - n, i, by lia, hk, hs⟩
theorem capt_at {k i : Nat} (h : ix[k]? = some i) : (capt n ix σ)[n + k]? = some ((σ[i]?).getD none) := by
  unfold capt
  rw [List.getElem?_append_right (by simp)]
  simp [h]
theorem capS_at {k i : Nat} (h : ix[k]? = some i) : (capS n ix S)[n + k]? = some ((S[i]?).getD .no) := by
  unfold capS
  rw [List.getElem?_append_right (by simp)]
  simp [h]
theorem capt_get {k i : Nat} {v : V} (h : ix[k]? = some i) (e : (capt n ix σ)[n + k]? = some (some v)) : σ[i]? = some (some v) := by
  rw [capt_at h] at e
  cases hs : σ[i]? with
  | none => rw [hs] at e; cases e
  | some o => rw [hs] at e; simp at e; rw [e]
theorem mo_cap {a : Addr} : Mo (Zin Z ix σ S) (capt n ix σ) (capS n ix S) a ↔ Mo Z σ S a := by
  constructor
  · rintro (⟨j, s, h1, h2, h3⟩ | h | ⟨i, s, _, h1, h2, h3⟩)
    · obtain ⟨k, i, rfl, hk, hs⟩ := cap_at h1 h2
      exact .inl ⟨i, s, hs, h2, capt_get hk h3⟩
    · exact .inr h
    · exact .inl ⟨i, s, h1, h2, h3⟩
  · rintro (⟨i, s, h1, h2, h3⟩ | h)
    · by_cases hi : i ∈ ix
      · obtain ⟨k, hk⟩ := List.getElem?_of_mem hi
        refine .inl ⟨n + k, s, ?_, h2, ?_⟩
        · rw [capS_at hk, h1]; rfl
        · rw [capt_at hk, h3]; rfl
      · exact .inr (.inr ⟨i, s, hi, h1, h2, h3⟩)
    · exact .inr (.inl h)
theorem nodup_idx {l : List Nat} (h : l.Nodup) : ∀ {i j x : Nat}, l[i]? = some x → l[j]? = some x → i = j := fun {i j x} h1 h2 => by
  obtain ⟨a, e1⟩ := List.getElem?_eq_some_iff.mp h1
  obtain ⟨b, e2⟩ := List.getElem?_eq_some_iff.mp h2
  have hp := List.pairwise_iff_getElem.mp h
  rcases Nat.lt_trichotomy i j with c | c | c
  · exact (hp i j a b c (by rw [e1, e2])).elim
  · exact c
  · exact (hp j i b a c (by rw [e1, e2])).elim
theorem OK.capt (k : OK K H0 Z σ H S) (hn : ix.Nodup) : OK K H0 (Zin Z ix σ S) (L2.capt n ix σ) H (capS n ix S) where
  len := by simp [L2.capt, capS]
  dom := k.dom
  zl := fun a z => by
    rcases z with z | ⟨i, s, _, h1, h2, h3⟩
    · exact k.zl a z
    · exact k.mo (.inl ⟨i, s, h1, h2, h3⟩)
  nz := fun j s a h1 h2 h3 z => by
    obtain ⟨q, i, rfl, hk, hs⟩ := cap_at h1 h2
    have e := capt_get hk h3
    rcases z with z | ⟨i', s', hi', g1, g2, g3⟩
    · exact k.nz i s a hs h2 e z
    · have := k.inj i i' a s s' hs g1 h2 g2 e g3
      subst this
      exact hi' (List.mem_of_getElem? hk)
  inj := fun j j' a s s' h1 h2 m1 m2 h3 h4 => by
    obtain ⟨q, i, rfl, hk, hs⟩ := cap_at h1 m1
    obtain ⟨q', i', rfl, hk', hs'⟩ := cap_at h2 m2
    have := k.inj i i' a s s' hs hs' m1 m2 (capt_get hk h3) (capt_get hk' h4)
    subst this
    rw [nodup_idx hn hk hk']
  at_ := fun j o s h1 h2 => by
    have hN : ∀ a, NM Z σ S a → NM (Zin Z ix σ S) (L2.capt n ix σ) (capS n ix S) a := fun a x z => x (mo_cap.mp z)
    rcases cap_val h2 with rfl | ⟨q, i, rfl, hk, hs⟩
    · trivial
    · rw [capt_at hk] at h1
      obtain ⟨o', e1, sl⟩ := k.ownAt hs
      rw [e1] at h1
      simp at h1
      subst h1
      cases s with
      | no => trivial
      | val d => obtain ⟨v, e, r⟩ := sl; exact ⟨v, e, r.mono (fun a x _ => ⟨hN a x, rfl⟩) fun _ x => x⟩
      | fre d => obtain ⟨v, e, r⟩ := sl; exact ⟨v, e, r.mono (fun a x _ => ⟨hN a x, rfl⟩) fun _ x => x⟩
      | own ds => obtain ⟨a, vs, e, e', e0, r⟩ := sl; exact ⟨a, vs, e, e', e0, r.mono (fun a x _ => ⟨hN a x, rfl⟩) fun _ x => x⟩
      | pen ad ns => exact sl
      | odi ks ds => obtain ⟨a, vs, e, e', e0, ek, r⟩ := sl; exact ⟨a, vs, e, e', e0, ⟨ek.1, ek.2.mono (fun a x _ => ⟨hN a x, rfl⟩) fun _ x => x⟩, r.mono (fun a x _ => ⟨hN a x, rfl⟩) fun _ x => x⟩
theorem idx_some {i j : Nat} (h : ix.idxOf? i = some j) : ix[j]? = some i := by
  unfold List.idxOf? at h
  obtain ⟨h1, h2, _⟩ := List.findIdx?_eq_some_iff_getElem.mp h
  rw [List.getElem?_eq_getElem h1]
  simpa using h2
theorem idx_none {i : Nat} (h : ix.idxOf? i = none) : i ∉ ix := by
  unfold List.idxOf? at h
  intro hm
  have := List.findIdx?_eq_none_iff.mp h i hm
  simp at this
theorem backS_at {i : Nat} {s : Sl} (h : S[i]? = some s) : (backS n ix S T)[i]? = some (match ix.idxOf? i with | some j => back1 s ((T[n + j]?).getD .no) | none => s) := by
  have := back_at (n := n) (ix := ix) (T := T) 0 h
  rwa [Nat.zero_add] at this
theorem backS_mut {i : Nat} {s' : Sl} (h : (backS n ix S T)[i]? = some s') (m : s'.mut = true) : ∃ s, S[i]? = some s ∧ s.mut = true ∧ ((∃ j, ix[j]? = some i ∧ T[n + j]? = some s') ∨ (i ∉ ix ∧ s = s')) := by
  have hl : i < S.length := by
    have := (List.getElem?_eq_some_iff.mp h).1
    rwa [show (backS n ix S T).length = S.length from back_len 0] at this
  have e := backS_at (n := n) (ix := ix) (T := T) (List.getElem?_eq_getElem hl)
  rw [h] at e
  have e := Option.some.inj e
  refine ⟨_, List.getElem?_eq_getElem hl, ?_⟩
  cases hx : ix.idxOf? i with
  | none =>
    rw [hx] at e
    have e : s' = S[i] := e
    exact ⟨by rw [← e]; exact m, .inr ⟨idx_none hx, e.symm⟩⟩
  | some j =>
    rw [hx] at e
    simp only [back1] at e
    by_cases hm : (S[i]).mut = true
    · rw [if_pos hm] at e
      refine ⟨hm, .inl ⟨j, idx_some hx, ?_⟩⟩
      cases ht : T[n + j]? with
      | none => rw [ht] at e; simp [Sl.mut] at e; subst e; cases m
      | some t =>
        rw [ht] at e
        simp only [Option.getD_some] at e
        by_cases htm : t.mut = true
        · rw [if_pos htm] at e; rw [e]
        · rw [if_neg htm] at e; subst e; cases m
    · rw [if_neg hm] at e; subst e; exact (hm m).elim
theorem backS_val {i : Nat} {s' : Sl} (h : (backS n ix S T)[i]? = some s') (m : s'.mut = false) : s' = .no ∨ S[i]? = some s' := by
  have hl : i < S.length := by
    have := (List.getElem?_eq_some_iff.mp h).1
    rwa [show (backS n ix S T).length = S.length from back_len 0] at this
  have e := backS_at (n := n) (ix := ix) (T := T) (List.getElem?_eq_getElem hl)
  rw [h] at e
  have e := Option.some.inj e
  cases hx : ix.idxOf? i with
  | none => rw [hx] at e; exact .inr (by rw [List.getElem?_eq_getElem hl, e])
  | some j =>
    rw [hx] at e
    simp only [back1] at e
    by_cases hm : (S[i]).mut = true
    · rw [if_pos hm] at e
      by_cases htm : ((T[n + j]?).getD .no).mut = true
      · rw [if_pos htm] at e; rw [e, htm] at m; cases m
      · rw [if_neg htm] at e; exact .inl e
    · rw [if_neg hm] at e; exact .inr (by rw [List.getElem?_eq_getElem hl, e])
theorem OK.back (k : OK K H0 Z σ H S) (k' : OK K H0 (Zin Z ix σ S) σ' H' T) (st : Step (Zin Z ix σ S) (L2.capt n ix σ) (capS n ix S) H σ' T H') (hσ : ∀ (i : Nat) (v : V), (L2.capt n ix σ)[i]? = some (some v) → σ'[i]? = some (some v)) :
    OK K H0 Z σ H' (backS n ix S T) ∧ Step Z σ S H σ (backS n ix S T) H' ∧ ∀ a, NM (Zin Z ix σ S) σ' T a → NM Z σ (backS n ix S T) a := by
  have mo' : ∀ a, Mo Z σ (backS n ix S T) a → Mo (Zin Z ix σ S) σ' T a := fun a z => by
    rcases z with ⟨i, s', h1, h2, h3⟩ | z
    · obtain ⟨s, e, em, ⟨j, hj, ht⟩ | ⟨hi, rfl⟩⟩ := backS_mut h1 h2
      · exact .inl ⟨n + j, s', ht, h2, hσ _ _ (by rw [capt_at hj, h3]; rfl)⟩
      · exact .inr (.inr ⟨i, s, hi, e, em, h3⟩)
    · exact .inr (.inl z)
  have nm' : ∀ a, NM (Zin Z ix σ S) σ' T a → NM Z σ (backS n ix S T) a := fun a x z => x (mo' a z)
  have nm0 : ∀ a, NM Z σ S a → NM (Zin Z ix σ S) (L2.capt n ix σ) (capS n ix S) a := fun a x z => x (mo_cap.mp z)
  have old : ∀ a, NM Z σ S a → H a ≠ none → NM Z σ (backS n ix S T) a ∧ H' a = H a := fun a x e => ⟨nm' a (st.1 a (nm0 a x) e).2, (st.1 a (nm0 a x) e).1⟩
  refine ⟨⟨by rw [show (backS n ix S T).length = S.length from back_len 0]; exact k.len, fun i o s' h1 h2 => ?_, fun i j a s t h1 h2 m1 m2 h3 h4 => ?_, fun a e => k'.dom a e, fun a z => k'.zl a (.inl z), fun i s a h1 m h3 z => ?_⟩, ⟨fun a x e => ⟨(old a x e).2, (old a x e).1⟩, st.2.1, fun a z e => st.2.2 a (.inl z) e⟩, nm'⟩
  · cases hm : s'.mut with
    | true =>
      obtain ⟨s, e, em, ⟨j, hj, ht⟩ | ⟨hi, rfl⟩⟩ := backS_mut h2 hm
      · have eo : ∃ v, o = some v := by
          obtain ⟨o', e1, q⟩ := k.ownAt e
          rw [h1] at e1; cases e1
          cases s with
          | no => cases em
          | val d => cases em
          | fre d => cases em
          | own ds => obtain ⟨a, _, e, _⟩ := q; exact ⟨_, e⟩
          | pen ad ns => obtain ⟨a, e, _⟩ := q; exact ⟨_, e⟩
          | odi ks ds => obtain ⟨a, _, e, _⟩ := q; exact ⟨_, e⟩
        obtain ⟨v, rfl⟩ := eo
        have q := k'.at_ (n + j) (some v) s' (hσ _ _ (by rw [capt_at hj, h1]; rfl)) ht
        cases s' with
        | no => cases hm
        | val d => cases hm
        | fre d => cases hm
        | own ds => obtain ⟨a, vs, e, e', e0, r⟩ := q; exact ⟨a, vs, e, e', e0, r.mono (fun a x _ => ⟨nm' a x, rfl⟩) fun _ x => x⟩
        | pen ad ns => exact q
        | odi ks ds => obtain ⟨a, vs, e, e', e0, ek, r⟩ := q; exact ⟨a, vs, e, e', e0, ⟨ek.1, ek.2.mono (fun a x _ => ⟨nm' a x, rfl⟩) fun _ x => x⟩, r.mono (fun a x _ => ⟨nm' a x, rfl⟩) fun _ x => x⟩
      · obtain ⟨o', e1, q⟩ := k.ownAt e
        rw [h1] at e1; cases e1
        have hz : ∀ a us, o = some (V.ref a) → H a = some us → H' a = H a := fun a us eo ea => st.2.2 a (.inr ⟨i, s, hi, e, em, by rw [h1, eo]⟩) (by simp [ea])
        cases s with
        | no => cases hm
        | val d => cases hm
        | fre d => cases hm
        | own ds => obtain ⟨a, vs, e, e', e0, r⟩ := q; exact ⟨a, vs, e, (hz a _ e e').trans e', e0, r.mono old fun _ x => x⟩
        | pen ad ns => obtain ⟨a, e, e1, e'⟩ := q; exact ⟨a, e, e1, (hz a _ e e').trans e'⟩
        | odi ks ds => obtain ⟨a, vs, e, ⟨ob, e'⟩, e0, ek, r⟩ := q; exact ⟨a, vs, e, ⟨ob, (hz a _ e e').trans e'⟩, e0, ⟨ek.1, ek.2.mono old fun _ x => x⟩, r.mono old fun _ x => x⟩
    | false =>
      rcases backS_val h2 hm with rfl | e
      · trivial
      · have q := k.at_ i o s' h1 e
        cases s' with
        | no => trivial
        | val d => obtain ⟨v, e, r⟩ := q; exact ⟨v, e, r.mono old fun _ x => x⟩
        | fre d => obtain ⟨v, e, r⟩ := q; exact ⟨v, e, r.mono old fun _ x => x⟩
        | own ds => cases hm
        | pen ad ns => cases hm
        | odi ks ds => cases hm
  · obtain ⟨s0, e0, em0, c1⟩ := backS_mut h1 m1
    obtain ⟨t0, f0, fm0, c2⟩ := backS_mut h2 m2
    exact k.inj i j a s0 t0 e0 f0 em0 fm0 h3 h4
  · obtain ⟨s0, e0, em0, c1⟩ := backS_mut h1 m
    exact k.nz i s0 a e0 em0 h3 z
end
section
variable {K : PySem.W.Frag} {X : Cx} {e a b c tg elt iter : Expr} {te : TE} {va : VT} {pos : Pos}
structure VTs (K : PySem.W.Frag) (X : Cx) (ifs : List Expr) (te : TT) (t : VTT) : Prop where
  pe : PTs X ifs te
  snd : SndT K te t
def vTrue : VTT := fun S Q => Q true S
theorem vts_nil : VTs K X [] tTrue vTrue := ⟨pts_nil, fun _ _ _ _ _ _ _ k h q => q _ _ _ k .refl h⟩
theorem vts_one {tA : TT} {wA : VTT} (h : VTe K X c tA wA) : VTs K X [c] tA wA := ⟨pts_one h.pe, h.snd⟩
def vComp (vi : VTN) (n : Nat) (ix : List Nat) (vg : VG) (vt : VTT) (ve : VT) : VTN := fun S Q => vi S fun ds S1 => ds.length ≤ 1000000 ∧ ∃ Iv : Nat → List D → List Sl → Prop, Iv 0 [] S1 ∧
  (∀ i d ys S2, ds[i]? = some d → Iv i ys S2 → vg d (capS n ix S2) fun S3 => vt S3 fun b S4 => if b = true then ve S4 fun r S5 => ∃ x, r = .d x ∧ Iv (i + 1) (ys ++ [x]) (backS n ix S2 S5) else Iv (i + 1) ys (backS n ix S2 S4)) ∧
  ∀ ys S2, Iv ds.length ys S2 → Q ys S2
theorem vn_comp {ifs : List Expr} {scope : Scope} {tg cs : List Str} {ix : List Nat} {target : Expr} {wi : TI} {vi : VTN} {g : TG} {vg : VG} {tc : TT} {vt : VTT} {te : TE} {ve : VT} (Sc : CompScope X scope tg cs ix) (hcalm : X.calm = true) (kg : KeepsG tg.length ix g) (hnd : ix.Nodup)
    (hi : VI K X target iter wi vi) (hg : ∀ C fp s H, VGe K (cxComp X scope (tg ++ cs) C fp s H) target g vg) (hc : ∀ C fp s H, VTs K (cxComp X scope (tg ++ cs) C fp s H) ifs tc vt) (he : ∀ C fp s H, VE K (cxComp X scope (tg ++ cs) C fp s H) true elt te ve)
    (hs : ∀ x, foldedSetIterable iter X.env x = pure x := by intro _; rfl) : VN K X (.ListComp elt [⟨target, iter, ifs, 0⟩] scope pos) (tComp wi tg.length ix g tc te) (vComp vi tg.length ix vg vt ve) := by
  have sg : SndG K g vg := (hg 0 [] X.s₀ (fun _ => none)).snd
  have sc : SndT K tc vt := (hc 0 [] X.s₀ (fun _ => none)).snd
  have se : SndE K true te ve := (he 0 [] X.s₀ (fun _ => none)).snd
  refine ⟨pe_comp Sc hcalm kg hi.pi (fun C fp s H => (hg C fp s H).pg) (fun C fp s H => (hc C fp s H).pe) (fun C fp s H => (he C fp s H).pe) hs, fun H0 Z σ H S Q C k t hq => ?_⟩
  refine hi.snd H0 Z σ H S _ _ k t fun J ds H1 S1 k1 st1 gd ⟨hl, Iv, i0, hs, hd⟩ => ?_
  refine ⟨fun i m ys H => m = ds.length - i ∧ i ≤ ds.length ∧ ys.length ≤ i ∧ ∃ S2 zs, OK K H0 Z σ H S2 ∧ Step Z σ S1 H1 σ S2 H ∧ Reps K (NM Z σ S2) (Fr H0) H ys zs ∧ Iv i zs S2, ⟨ds.length, by simp, Nat.zero_le _, Nat.le_refl _, S1, [], k1, .refl, .nil, i0⟩, ?_⟩
  rintro i m ys H2 ⟨rfl, hi, hy, S2, zs, k2, st2, rz, p⟩
  obtain ⟨g1, g2, g3⟩ := gd σ S2 H2 (fun _ => k2.nm) st2 i
  have hsz : (1000000 : Nat) < sizeLine := by rw [sizeLine_eq]; lia
  by_cases hlt : i < ds.length
  · refine .inr ⟨g1 hlt, by lia, fun ys' H' => ys'.length ≤ i + 1 ∧ ∃ S' zs', OK K H0 Z σ H' S' ∧ Step Z σ S1 H1 σ S' H' ∧ Reps K (NM Z σ S') (Fr H0) H' ys' zs' ∧ Iv (i + 1) zs' S', fun ys' H' ⟨p1, p2⟩ => ⟨ds.length - (i + 1), by lia, rfl, hlt, p1, p2⟩, fun x H3 y => ?_⟩
    obtain ⟨hgr, d, hd', rd⟩ := g2 x H3 y hlt
    replace k2 := k2.grow hgr
    replace st2 := st2.trans (.grow hgr)
    replace rz := rz.step (.grow hgr)
    have kc := k2.capt (n := tg.length) hnd
    have rd' : Rep K (NM (Zin Z ix σ S2) (L2.capt tg.length ix σ) (capS tg.length ix S2)) AnyF H3 x d := rd.mono (fun a n _ => ⟨fun z => n (mo_cap.mp z), rfl⟩) fun _ x => x
    -- the target leaves what the block took over
    have h1 := sg H0 _ _ H3 _ x d _ (fun σ4 H4 => ∃ S4, OK K H0 (Zin Z ix σ S2) σ4 H4 S4 ∧ Step (Zin Z ix σ S2) (L2.capt tg.length ix σ) (capS tg.length ix S2) H3 σ4 S4 H4 ∧ vt S4 fun b S5 => if b = true then ve S5 fun r S6 => ∃ x, r = .d x ∧ Iv (i + 1) (zs ++ [x]) (backS tg.length ix S2 S6) else Iv (i + 1) zs (backS tg.length ix S2 S5)) kc rd' (hs i d zs S2 hd' p) (fun σ4 H4 S4 k4 st4 q4 => ⟨S4, k4, st4, q4⟩)
    have h2 := kg x σ H3 _ h1
    refine (hg 0 [] X.s₀ (fun _ => none)).mono _ _ _ _ _ ?_ h2
    rintro σ4 H4 ⟨⟨hl4, hσ4⟩, S4, k4, st4, q4⟩
    refine sc H0 _ σ4 H4 S4 _ _ k4 q4 fun bb H5 S5 k5 st5 q5 => ?_
    cases bb with
    | false =>
      rw [if_neg Bool.false_ne_true] at q5 ⊢
      obtain ⟨kb, sb, nb⟩ := k2.back k5 (st4.trans st5) hσ4
      exact ⟨by lia, _, zs, kb, st2.trans sb, rz.step sb, q5⟩
    | true =>
      rw [if_pos rfl] at q5 ⊢
      refine se H0 _ σ4 H5 S5 _ _ k5 q5 fun vv H6 r S6 k6 st6 rr ⟨xx, er, q6⟩ => ?_
      subst er
      obtain ⟨kb, sb, nb⟩ := k2.back k6 ((st4.trans st5).trans st6) hσ4
      refine ⟨by simp; lia, _, zs ++ [xx], kb, st2.trans sb, Reps.append (rz.step sb) (.cons (Rep.mono (fun a n _ => ⟨nb a n, rfl⟩) (fun _ x => x rfl) rr) .nil), q6⟩
  · have e : i = ds.length := by lia
    refine .inl ⟨g3 e, by lia, fun l hp => ?_⟩
    exact hq l ys zs H2 _ S2 k2 (st1.trans st2) hp (upd_grow hp) upd_same (reps_new hp (rz.mono (fun _ n _ => ⟨n, rfl⟩) fun _ x _ => x)) (hd zs S2 (by rw [← e]; exact p))
theorem vs_compV {elt iter : Expr} {pos spos py : Pos} {yy : Str} {ii : Nat} {ifs : List Expr} {scope : Scope} {tg cs : List Str} {ix : List Nat} {target : Expr} {wi : TI} {vi : VTN} {g : TG} {vg : VG} {tc : TT} {vt : VTT} {te : TE} {ve : VT} (hN0 : X.N.Nodup) (hi0 : X.N[ii]? = some yy) (hx0 : Loc X.env.scope yy) (hf0 : X.fn yy = true ∨ X.env.scope.names.lookup yy = some .local)
    (Sc : CompScope X scope tg cs ix) (hcalm : X.calm = true) (kg : KeepsG tg.length ix g) (hnd : ix.Nodup)
    (hi : VI K X target iter wi vi) (hg : ∀ C fp s H, VGe K (cxComp X scope (tg ++ cs) C fp s H) target g vg) (hc : ∀ C fp s H, VTs K (cxComp X scope (tg ++ cs) C fp s H) ifs tc vt) (he : ∀ C fp s H, VE K (cxComp X scope (tg ++ cs) C fp s H) true elt te ve)
    (hsw : swapsWith (.ListComp elt [⟨target, iter, ifs, 0⟩] scope pos) (some (.Name yy py)) spos.line X.env = pure true := by rfl) (hs : ∀ x, foldedSetIterable iter X.env x = pure x := by intro _; rfl) : VS K X (.Assign [.Name yy py] (.ListComp elt [⟨target, iter, ifs, 0⟩] scope pos) spos) (tAsg (tComp wi tg.length ix g tc te) (gName ii)) (vAsg (vNew (vComp vi tg.length ix vg vt ve)) (vgN ii)) := by
  have h := vn_comp (pos := pos) Sc hcalm kg hnd hi hg hc he hs
  refine ⟨ps_compU hN0 hi0 hx0 Sc hcalm kg hi.pi (fun C fp s H => (hg C fp s H).pg) (fun C fp s H => (hc C fp s H).pe) (fun C fp s H => (he C fp s H).pe) hf0 hsw hs, sndAsg (ve_new (m := false) h).snd fun H0 Z σ H S v d Q C k r ⟨hi, q⟩ hc => hc _ _ _ (k.setVal hi r).1 (k.setVal hi r).2 q⟩
end
end VL
end
section
set_option maxHeartbeats 4000000
namespace VL
open PySem L2
section
variable {P : Program} {w : World} {K : PySem.W.Frag} {mg : Str → Option Value} {base : Heap}
def slots (n : Nat) (ds : List D) : List Sl := ds.map .val ++ List.replicate (n - ds.length) .no
theorem start_at {N : List Str} {vs : List V} {i : Nat} {v : V} (h : vs[i]? = some v) : (start N vs)[i]? = some (some v) := by
  unfold L2.start
  have hi := (List.getElem?_eq_some_iff.mp h).1
  rw [List.getElem?_append_left (by simpa using hi)]
  simp [h]
theorem slots_at {n : Nat} {ds : List D} {i : Nat} {s : Sl} (h : (slots n ds)[i]? = some s) : s = .no ∨ ∃ d, s = .val d ∧ ds[i]? = some d := by
  unfold slots at h
  by_cases hi : i < ds.length
  · rw [List.getElem?_append_left (by simpa using hi)] at h
    simp [hi] at h
    subst h
    exact .inr ⟨_, rfl, by simp [hi]⟩
  · rw [List.getElem?_append_right (by simpa using hi)] at h
    have := List.mem_of_getElem? h
    exact .inl (List.eq_of_mem_replicate this)
theorem slots_nomut {n : Nat} {ds : List D} {i : Nat} {s : Sl} (h : (slots n ds)[i]? = some s) : s.mut = false := by
  rcases slots_at h with rfl | ⟨d, rfl, _⟩ <;> rfl
theorem ok_start {N : List Str} {vs : List V} {ds : List D} {H : Hp} (r : Reps K Any AnyF H vs ds) : OK K H (fun _ => False) (start N vs) H (slots N.length ds) where
  len := by simp [L2.start, slots, r.length]
  dom := fun _ e => e
  zl := fun _ z => z.elim
  nz := fun i s a h m _ => by rw [slots_nomut h] at m; cases m
  inj := fun i j a s t h1 h2 m1 => by rw [slots_nomut h1] at m1; cases m1
  at_ := fun i o s h1 h2 => by
    rcases slots_at h2 with rfl | ⟨d, rfl, e⟩
    · trivial
    · obtain ⟨v, e1, e2⟩ := r.getD e
      rw [start_at e1] at h1
      cases h1
      refine ⟨v, rfl, e2.mono (fun a _ _ => ⟨?_, rfl⟩) fun _ x => x⟩
      rintro (⟨j, s, g1, g2, _⟩ | z)
      · rw [slots_nomut g1] at g2; cases g2
      · exact z
theorem has_P {x : Str} {st : Stmt} {N ps : List Str} {k : Nat} {p : List D → (D → Prop) → Prop} (S : Src K mg x st) (sc : FnScope N ps (defScope st))
    (hb : ∀ (kV doc pm : Value) (an : Option Addr) (cdv ct : Value) (us : List Value), us.length = ps.length → bindArgs (PySem.W.fnOf x x (defArgs st) (defBody st) (defScope st) .none kV doc pm an cdv ct) ⟨us, []⟩ = pure (ps.zip us))
    (len : ∀ ds R, p ds R → ds.length = ps.length)
    (hbody : ∀ (f : Addr) (cdv : Value) (A : Around) (outer : List Env) (s : Shared) (H : Hp) (E : XK), Room k (A.deeper (PyProof.Rows.envOfC x (defScope st) s.heap.objs.size f cdv)) →
      ∃ ts t, VSs K (cxOf CX0 P w K mg base N x (defScope st) f cdv A outer s H E).nox (defBody st) ts t ∧ ∀ ds R, p ds R → t { nx := fun _ => R .non, rt := fun d _ => R d } (slots N.length ds)) : Has P w K mg base (k + 1) x ps (spP K p) := by
  refine S.has sc hb (fun vs H Q E zq1 => by obtain ⟨ds, R, r, h, _⟩ := zq1; rw [r.length]; exact len ds R h) fun f cdv A outer s H vs Q E hr ⟨ds, R, r, h, fin⟩ => ?_
  obtain ⟨ts, t, vs', q⟩ := hbody f cdv A outer s H E hr
  have k0 := ok_start (N := N) r
  have st0 : ∀ {σ' S' H'}, Step (fun _ => False) (start N vs) (slots N.length ds) H σ' S' H' → ∀ a, H a ≠ none → H' a = H a := fun st a e => (st.1 a (by
    rintro (⟨j, s, g1, g2, _⟩ | z)
    · rw [slots_nomut g1] at g2; cases g2
    · exact z) e).1
  refine ⟨ts, vs'.ps, vs'.snd H _ _ H _ _ _ k0 (q ds R h) ⟨fun σ' H' S' k' st q => fin .non .non H' q (st0 st) .non, fun σ' H' S' k' st q => q.elim, fun σ' H' S' k' st q => q.elim, fun v d σ' H' S' k' st rr q => fin d v H' q (st0 st) (rr.mono (fun _ _ _ => ⟨trivial, rfl⟩) fun _ x => x)⟩⟩
def slotsI (n : Nat) (a : Addr) (ns : List Int) (ds es : List D) : List Sl := ds.map .val ++ .pen (some a) ns :: (es.map .val ++ List.replicate (n - (ds.length + 1 + es.length)) .no)
theorem slotsI_at {n : Nat} {a : Addr} {ns : List Int} {ds es : List D} {i : Nat} {s : Sl} (h : (slotsI n a ns ds es)[i]? = some s) : s = .no ∨ (∃ d, s = .val d ∧ (ds ++ .non :: es)[i]? = some d ∧ i ≠ ds.length) ∨ (i = ds.length ∧ s = .pen (some a) ns) := by
  unfold slotsI at h
  by_cases hi : i < ds.length
  · rw [List.getElem?_append_left (by simpa using hi)] at h
    simp [hi] at h
    subst h
    exact .inr (.inl ⟨_, rfl, by rw [List.getElem?_append_left hi]; simp [hi], by lia⟩)
  · by_cases hi2 : i = ds.length
    · subst hi2
      rw [List.getElem?_append_right (by simp)] at h
      simp at h
      exact .inr (.inr ⟨rfl, h.symm⟩)
    · rw [List.getElem?_append_right (by simp; lia)] at h
      rw [List.length_map] at h
      obtain ⟨j, hj⟩ : ∃ j, i - ds.length = j + 1 := ⟨i - ds.length - 1, by lia⟩
      rw [hj, List.getElem?_cons_succ] at h
      by_cases hj2 : j < es.length
      · rw [List.getElem?_append_left (by simpa using hj2)] at h
        simp [hj2] at h
        subst h
        refine .inr (.inl ⟨_, rfl, ?_, hi2⟩)
        rw [List.getElem?_append_right (by lia), hj, List.getElem?_cons_succ]
        simp [hj2]
      · rw [List.getElem?_append_right (by simpa using hj2)] at h
        exact .inl (List.eq_of_mem_replicate (List.mem_of_getElem? h))
theorem has_I {x : Str} {st : Stmt} {N ps : List Str} {k : Nat} (j : Nat) {p : List Int → List D → (D → List Int → Prop) → Prop} (S : Src K mg x st) (sc : FnScope N ps (defScope st))
    (hb : ∀ (kV doc pm : Value) (an : Option Addr) (cdv ct : Value) (us : List Value), us.length = ps.length → bindArgs (PySem.W.fnOf x x (defArgs st) (defBody st) (defScope st) .none kV doc pm an cdv ct) ⟨us, []⟩ = pure (ps.zip us))
    (len : ∀ ns ds R, p ns ds R → ds.length + 1 = ps.length)
    (hbody : ∀ (f : Addr) (cdv : Value) (A : Around) (outer : List Env) (s : Shared) (H : Hp) (E : XK), Room k (A.deeper (PyProof.Rows.envOfC x (defScope st) s.heap.objs.size f cdv)) →
      ∃ ts t, VSs K (cxOf CX0 P w K mg base N x (defScope st) f cdv A outer s H E).nox (defBody st) ts t ∧ ∀ a ns ds es R, ds.length = j → p ns (ds ++ es) R → t { nx := fun S' => ∃ ns', S'[j]? = some (.pen (some a) ns') ∧ R .non ns', rt := fun d S' => ∃ ns', S'[j]? = some (.pen (some a) ns') ∧ R d ns' } (slotsI N.length a ns ds es)) :
    Has P w K mg base (k + 1) x ps (spI K j p) := by
  refine S.has sc hb (fun vs H Q E zq1 => by
    obtain ⟨a, ws, us, ns, ds, es, R, e, hl, hp, r1, r2, h, _⟩ := zq1
    have := len _ _ _ h
    rw [e, List.length_append, List.length_cons, r1.length, r2.length]
    rw [List.length_append] at this
    lia) fun f cdv A outer s H vs Q E hr ⟨a, ws, us, ns, ds, es, R, e, hl, hp, r1, r2, h, fin⟩ => ?_
  subst e
  obtain ⟨ts, t, vs', q⟩ := hbody f cdv A outer s H E hr
  have hdl : ds.length = j := by rw [← r1.length]; exact hl
  subst hdl
  have hmut : ∀ {i : Nat} {s : Sl}, (slotsI N.length a ns ds es)[i]? = some s → s.mut = true → i = ds.length ∧ s = .pen (some a) ns := fun {i s} h m => by
    rcases slotsI_at h with rfl | ⟨d, rfl, _⟩ | h
    · cases m
    · cases m
    · exact h
  have hpen : (start N (ws ++ .ref a :: us))[ds.length]? = some (some (V.ref a)) := start_at (by rw [← hl]; simp)
  have hmo : ∀ b, Mo (fun _ => False) (start N (ws ++ .ref a :: us)) (slotsI N.length a ns ds es) b → b = a := fun b z => by
    rcases z with ⟨i, s, g1, g2, g3⟩ | z
    · obtain ⟨rfl, _⟩ := hmut g1 g2
      rw [hpen] at g3; cases g3; rfl
    · exact z.elim
  have hll : N.length - (ws.length + (us.length + 1)) = N.length - (ds.length + 1 + es.length) := by rw [r1.length, r2.length]; lia
  have k0 : OK K H (fun _ => False) (start N (ws ++ .ref a :: us)) H (slotsI N.length a ns ds es) := {
    len := by simp [L2.start, slotsI, r1.length, r2.length]; lia
    dom := fun _ e => e
    zl := fun _ z => z.elim
    nz := fun _ _ _ _ _ _ z => z
    inj := fun i j a s t h1 h2 m1 m2 _ _ => by rw [(hmut h1 m1).1, (hmut h2 m2).1]
    at_ := fun i o s h1 h2 => by
      rcases slotsI_at h2 with rfl | ⟨d, rfl, e, hi⟩ | ⟨rfl, rfl⟩
      · trivial
      · have rr : ∃ v, (ws ++ .ref a :: us)[i]? = some v ∧ Rep K (· ≠ a) AnyF H v d := by
          by_cases hi2 : i < ds.length
          · rw [List.getElem?_append_left hi2] at e
            obtain ⟨v, e1, e2⟩ := r1.getD e
            exact ⟨v, by rw [List.getElem?_append_left (by rw [r1.length]; exact hi2)]; exact e1, e2⟩
          · rw [List.getElem?_append_right (by lia)] at e
            obtain ⟨j, hj⟩ : ∃ j, i - ds.length = j + 1 := ⟨i - ds.length - 1, by lia⟩
            rw [hj, List.getElem?_cons_succ] at e
            obtain ⟨v, e1, e2⟩ := r2.getD e
            exact ⟨v, by rw [List.getElem?_append_right (by rw [r1.length]; lia), r1.length, hj, List.getElem?_cons_succ]; exact e1, e2⟩
        obtain ⟨v, e1, e2⟩ := rr
        rw [start_at e1] at h1
        cases h1
        exact ⟨v, rfl, e2.mono (fun b n _ => ⟨fun z => n (hmo b z), rfl⟩) fun _ x => x⟩
      · rw [hpen] at h1
        cases h1
        exact ⟨a, rfl, fun b z => by cases z; rfl, hp⟩ }
  have st0 : ∀ {σ' S' H'}, Step (fun _ => False) (start N (ws ++ .ref a :: us)) (slotsI N.length a ns ds es) H σ' S' H' → ∀ b, b ≠ a → H b ≠ none → H' b = H b := fun st b n e => (st.1 b (fun z => n (hmo b z)) e).1
  have pn : ∀ {σ' S' H' ns'}, OK K H (fun _ => False) σ' H' S' → S'[ds.length]? = some (.pen (some a) ns') → σ'[ds.length]? = some (some (V.ref a)) ∧ H' a = some (.lst (ns'.map .int)) := fun k' e => by
    obtain ⟨o, e1, b, rfl, e2, e3⟩ := k'.ownAt e
    obtain rfl := e2 a rfl
    exact ⟨e1, e3⟩
  refine ⟨ts, vs'.ps, vs'.snd H _ _ H _ _ _ k0 (q a ns ds es R rfl h) ⟨fun σ' H' S' k' st ⟨ns', e, q⟩ => fin .non ns' .non H' q (st0 st) (pn k' e).2 .non, fun σ' H' S' k' st q => q.elim, fun σ' H' S' k' st q => q.elim, fun v d σ' H' S' k' st rr ⟨ns', e, q⟩ => fin d ns' v H' q (st0 st) (pn k' e).2 (rr.mono (fun b n _ => ⟨fun z => ?_, rfl⟩) fun _ x => x)⟩⟩
  subst z
  exact n _ _ _ e (pn k' e).1
end
end VL
end
section
set_option maxHeartbeats 4000000
namespace VL
open PySem L2
section
variable {S : List Sl} {Q : VR → List Sl → Prop} {V : VEnds}
end
end VL
end
section
set_option maxHeartbeats 4000000
namespace VL
open PySem L2
mutual
def pd : D → PyData
  | .int i => .int i
  | .bl b => .bool b
  | .non => .none
  | .str x => .str x
  | .ty _ => .none
  | .dic _ _ => .none
  | .exc _ => .none
  | .tup ds => .tuple (pds ds)
  | .lst ds => .list (pds ds)
def pds : List D → List PyData
  | [] => []
  | d :: r => pd d :: pds r
end
mutual
def noTy : D → Bool
  | .ty _ => false
  | .dic _ _ => false
  | .exc _ => false
  | .tup ds => noTys ds
  | .lst ds => noTys ds
  | _ => true
def noTys : List D → Bool
  | [] => true
  | d :: r => noTy d && noTys r
end
section
variable {K : PySem.W.Frag} {X : Cx} {pins : List (Addr × Obj)} {σ : St} {H : Hp} {s : Shared} {N : AP} {F : FP}
mutual
theorem rep_reads (I : Inv X pins σ H s) (hK : X.K = K) {v : V} {d : D} {u : Value} : Rep K N F H v d → noTy d = true → RelV v u → ∃ as, Reads s.heap u (pd d) as
  | .int i, _, r => by obtain ⟨t, rfl⟩ := r; exact ⟨_, .int i t⟩
  | .bl b, _, r => by cases r; exact ⟨_, .bool b⟩
  | .non, _, r => by cases r; exact ⟨_, .none⟩
  | .str x, _, r => by obtain ⟨t, rfl⟩ := r; exact ⟨_, .str x t⟩
  | .ty x, e, _ => by cases e
  | .dic n f h _ _ rs, e, _ => by simp [noTy] at e
  | .exc n h _, e, _ => by simp [noTy] at e
  | .tup n h rs, e, r => by
    cases r
    obtain ⟨its, rv, ⟨o, ho, hc, n, hd⟩, _⟩ := I.tuple (xs := _) (.inl h)
    obtain ⟨as, ra⟩ := reps_reads I hK rs (by simpa [noTy] using e) rv
    exact ⟨as, .tuple ho hc hd (by simpa using ra)⟩
  | .tupK h rs, e, r => by
    cases r
    obtain ⟨its, rv, ⟨o, ho, hc, n, hd⟩, _⟩ := I.tuple (xs := _) (by rw [hK]; exact sqT_none h)
    obtain ⟨as, ra⟩ := reps_reads I hK rs (by simpa [noTy] using e) rv
    exact ⟨as, .tuple ho hc hd (by simpa using ra)⟩
  | .lst n f h rs, e, r => by
    cases r
    obtain ⟨its, rv, pl, _⟩ := I.list (xs := _) (.inl (.inl h))
    obtain ⟨o, ho, hc, n, hd⟩ := pl.isList
    obtain ⟨as, ra⟩ := reps_reads I hK rs (by simpa [noTy] using e) rv
    exact ⟨_, .list ho hc hd (by simpa using ra)⟩
  | .lstF n f h rs, e, r => by
    cases r
    obtain ⟨its, rv, pl, _⟩ := I.list (xs := _) (.inl (.inr ⟨_, h⟩))
    obtain ⟨o, ho, hc, n, hd⟩ := pl.isList
    obtain ⟨as, ra⟩ := reps_reads I hK rs (by simpa [noTy] using e) rv
    exact ⟨_, .list ho hc hd (by simpa using ra)⟩
  | .lstK f h rs, e, r => by
    cases r
    obtain ⟨its, rv, pl, _⟩ := I.list (xs := _) (by rw [hK]; exact sqL_none h)
    obtain ⟨o, ho, hc, n, hd⟩ := pl.isList
    obtain ⟨as, ra⟩ := reps_reads I hK rs (by simpa [noTy] using e) rv
    exact ⟨_, .list ho hc hd (by simpa using ra)⟩
theorem reps_reads (I : Inv X pins σ H s) (hK : X.K = K) {vs : List V} {ds : List D} {us : List Value} : Reps K N F H vs ds → noTys ds = true → Vals vs us → ∃ as, ReadsAll s.heap us (pds ds) as
  | .nil, _, r => by cases r; exact ⟨_, .nil⟩
  | .cons h t, e, r => by
    simp only [noTys, Bool.and_eq_true] at e
    cases r with
    | cons r1 r2 =>
      obtain ⟨as, ra⟩ := rep_reads I hK h e.1 r1
      obtain ⟨bs, rb⟩ := reps_reads I hK t e.2 r2
      exact ⟨_, .cons ra rb⟩
end
end
structure Okd (d : D) : Prop where
  ty : noTy d = true
  lay : (pd d).canLay0 = true
  dep : (pd d).depth ≤ 40
def rEqD (K : PySem.W.Frag) (neg : Bool) : R2 := fun x y H Q => ∃ d1 d2, Rep K Any AnyF H x d1 ∧ Rep K Any AnyF H y d2 ∧ Okd d1 ∧ Okd d2 ∧ Q (.bl (if neg then !PyData.eqv (pd d1) (pd d2) else PyData.eqv (pd d1) (pd d2))) H
def wEqD (neg : Bool) : D → D → (D → Prop) → Prop := fun d1 d2 q => Okd d1 ∧ Okd d2 ∧ q (.bl (if neg then !PyData.eqv (pd d1) (pd d2) else PyData.eqv (pd d1) (pd d2)))
def rInD (K : PySem.W.Frag) (neg : Bool) : R2 := fun x y H Q => ∃ d ds, Rep K Any AnyF H x d ∧ (Rep K Any AnyF H y (.lst ds) ∨ Rep K Any AnyF H y (.tup ds)) ∧ Okd d ∧ Okd (.lst ds) ∧ Q (.bl (if neg then !(pds ds).any (fun y => PyData.eqv y (pd d)) else (pds ds).any (fun y => PyData.eqv y (pd d)))) H
def wInD (neg : Bool) : D → D → (D → Prop) → Prop := fun d d2 q => ∃ ds, (d2 = .lst ds ∨ d2 = .tup ds) ∧ Okd d ∧ Okd (.lst ds) ∧ q (.bl (if neg then !(pds ds).any (fun y => PyData.eqv y (pd d)) else (pds ds).any (fun y => PyData.eqv y (pd d))))
section
variable {K : PySem.W.Frag} {X : Cx}
theorem op_eqD (hK : X.K = K) (hu : X.A.units + 64 < cLine) : OpR X (compareOp .Eq) (rEqD K false) := by
  intro pins s σ H x y v u Q I rx ry ⟨d1, d2, r1, r2, o1, o2, q⟩
  obtain ⟨as, ra⟩ := rep_reads I hK r1 o1.ty rx
  obtain ⟨bs, rb⟩ := rep_reads I hK r2 o2.ty ry
  exact SeqAt.compareEq_reads ra rb o1.lay o2.lay (by have := o1.dep; lia) ⟨.bl _, H, I, rfl, q⟩
theorem op_neD (hK : X.K = K) (hu : X.A.units + 64 < cLine) : OpR X (compareOp .NotEq) (rEqD K true) := by
  intro pins s σ H x y v u Q I rx ry ⟨d1, d2, r1, r2, o1, o2, q⟩
  obtain ⟨as, ra⟩ := rep_reads I hK r1 o1.ty rx
  obtain ⟨bs, rb⟩ := rep_reads I hK r2 o2.ty ry
  exact SeqAt.compareNe_reads ra rb o1.lay o2.lay (by have := o1.dep; lia) ⟨.bl _, H, I, rfl, q⟩
theorem okd_items {ds : List D} (o : Okd (.lst ds)) : PyData.canLayAll0 (pds ds) = true ∧ PyData.depthAll (pds ds) ≤ 40 ∧ noTy (.tup ds) = true := by
  refine ⟨by simpa [pd, PyData.canLay0] using o.lay, ?_, by simpa [noTy] using o.ty⟩
  have := o.dep
  simp only [pd, PyData.depth] at this
  lia
theorem op_notInD (hK : X.K = K) (hu : X.A.units + 64 < cLine) : OpR X (compareOp .NotIn) (rInD K true) := by
  intro pins s σ H x y v u Q I rx ry ⟨d, ds, r1, r2, o1, o2, q⟩
  obtain ⟨as, ra⟩ := rep_reads I hK r1 o1.ty rx
  obtain ⟨h1, h2, h3⟩ := okd_items o2
  rcases r2 with r2 | r2
  · obtain ⟨bs, rb⟩ := rep_reads I hK r2 o2.ty ry
    exact SeqAt.notIn_list_reads (by simpa [pd] using rb) ra h1 o1.lay (by lia) ⟨.bl _, H, I, rfl, q⟩
  · obtain ⟨bs, rb⟩ := rep_reads I hK r2 h3 ry
    exact SeqAt.notIn_tuple_reads (by simpa [pd] using rb) ra h1 o1.lay (by lia) ⟨.bl _, H, I, rfl, q⟩
theorem l_eqD {neg : Bool} : Lift2 K (rEqD K neg) (wEqD neg) := fun x y H d1 d2 q C r1 r2 ⟨o1, o2, h⟩ hc => ⟨d1, d2, r1, r2, o1, o2, hc _ _ h fun _ _ => .bl _⟩
theorem l_inD {neg : Bool} : Lift2 K (rInD K neg) (wInD neg) := fun x y H d1 d2 q C r1 r2 ⟨ds, e, o1, o2, h⟩ hc => ⟨d1, ds, r1, e.imp (fun e => by rw [← e]; exact r2) (fun e => by rw [← e]; exact r2), o1, o2, hc _ _ h fun _ _ => .bl _⟩
end
theorem pds_map {α : Type} (f : α → D) : ∀ l : List α, pds (l.map f) = l.map fun x => pd (f x)
  | [] => rfl
  | _ :: r => by simp [pds, pds_map f r]
theorem noTys_map {α : Type} {f : α → D} (h : ∀ x, noTy (f x) = true) : ∀ l : List α, noTys (l.map f) = true
  | [] => rfl
  | _ :: r => by simp [noTys, h, noTys_map h r]
theorem lays_map {α : Type} {f : α → PyData} (h : ∀ x, (f x).canLay0 = true) : ∀ l : List α, PyData.canLayAll0 (l.map f) = true
  | [] => rfl
  | _ :: r => by simp [PyData.canLayAll0, h, lays_map h r]
theorem deps_map {α : Type} {f : α → PyData} {n : Nat} (h : ∀ x, (f x).depth ≤ n) : ∀ l : List α, PyData.depthAll (l.map f) ≤ n
  | [] => by simp [PyData.depthAll]
  | x :: r => by simp only [List.map_cons, PyData.depthAll]; exact Nat.max_le.mpr ⟨h x, deps_map h r⟩
structure Enc {α : Type} (n : Nat) (f : α → D) : Prop where
  ty : ∀ x, noTy (f x) = true
  lay : ∀ x, (pd (f x)).canLay0 = true
  dep : ∀ x, (pd (f x)).depth ≤ n
  eq : ∀ x y, PyData.eqv (pd (f x)) (pd (f y)) = true ↔ x = y
theorem eqvAll_map {α : Type} {f : α → PyData} (h : ∀ x y, PyData.eqv (f x) (f y) = true ↔ x = y) : ∀ l m : List α, PyData.eqvAll (l.map f) (m.map f) = true ↔ l = m
  | [], [] => by simp [PyData.eqvAll]
  | [], _ :: _ => by simp [PyData.eqvAll]
  | _ :: _, [] => by simp [PyData.eqvAll]
  | x :: r, y :: t => by simp [PyData.eqvAll, h, eqvAll_map h r t]
theorem enc_int : Enc 0 D.int := ⟨fun _ => rfl, fun _ => rfl, fun _ => Nat.le_refl _, fun x y => by simp [pd, PyData.eqv]⟩
theorem Enc.tup {α : Type} {n : Nat} {f : α → D} (e : Enc n f) : Enc (n + 1) (fun l : List α => D.tup (l.map f)) where
  ty := fun l => by simp only [noTy]; exact noTys_map e.ty l
  lay := fun l => by simp only [pd, PyData.canLay0, pds_map]; exact lays_map e.lay l
  dep := fun l => by simp only [pd, PyData.depth, pds_map]; exact Nat.succ_le_succ (deps_map e.dep l)
  eq := fun l m => by simp only [pd, PyData.eqv, pds_map]; exact eqvAll_map e.eq l m
theorem Enc.lst {α : Type} {n : Nat} {f : α → D} (e : Enc n f) : Enc (n + 1) (fun l : List α => D.lst (l.map f)) where
  ty := fun l => by simp only [noTy]; exact noTys_map e.ty l
  lay := fun l => by simp only [pd, PyData.canLay0, pds_map]; exact lays_map e.lay l
  dep := fun l => by simp only [pd, PyData.depth, pds_map]; exact Nat.succ_le_succ (deps_map e.dep l)
  eq := fun l m => by simp only [pd, PyData.eqv, pds_map]; exact eqvAll_map e.eq l m
theorem enc_eT : Enc 1 eT := enc_int.tup
theorem enc_eL : Enc 2 eL := enc_eT.lst
theorem Enc.okd {α : Type} {n : Nat} {f : α → D} (e : Enc n f) (hn : n ≤ 40) (x : α) : Okd (f x) := ⟨e.ty x, e.lay x, Nat.le_trans (e.dep x) hn⟩
theorem Enc.eqv {α : Type} [DecidableEq α] {n : Nat} {f : α → D} (e : Enc n f) (x y : α) : PyData.eqv (pd (f x)) (pd (f y)) = decide (x = y) := by
  rw [Bool.eq_iff_iff, e.eq, decide_eq_true_iff]
theorem Enc.any {α : Type} [DecidableEq α] {n : Nat} {f : α → D} (e : Enc n f) (x : α) (l : List α) : (pds (l.map f)).any (fun y => PyData.eqv y (pd (f x))) = decide (x ∈ l) := by
  rw [pds_map, List.any_map]
  induction l with
  | nil => simp
  | cons a r ih =>
    rw [List.any_cons, ih]
    simp only [Function.comp, e.eqv]
    rw [Bool.eq_iff_iff]
    simp only [Bool.or_eq_true, decide_eq_true_eq, List.mem_cons]
    exact ⟨fun z => z.elim (fun z => .inl z.symm) .inr, fun z => z.elim (fun z => .inl z.symm) .inr⟩
theorem i_eqE {α : Type} [DecidableEq α] {n : Nat} {f : α → D} (e : Enc n f) {x y : α} {q : D → Prop} (h : q (.bl (decide (x = y)))) (hn : n ≤ 40 := by decide) : wEqD false (f x) (f y) q := ⟨e.okd hn x, e.okd hn y, by simpa [e.eqv] using h⟩
theorem i_neE {α : Type} [DecidableEq α] {n : Nat} {f : α → D} (e : Enc n f) {x y : α} {q : D → Prop} (h : q (.bl (!decide (x = y)))) (hn : n ≤ 40 := by decide) : wEqD true (f x) (f y) q := ⟨e.okd hn x, e.okd hn y, by simpa [e.eqv] using h⟩
theorem i_notInE {α : Type} [DecidableEq α] {n : Nat} {f : α → D} (e : Enc n f) {x : α} {l : List α} {q : D → Prop} (h : q (.bl (!decide (x ∈ l)))) (hn : n + 1 ≤ 40 := by decide) : wInD true (f x) (.lst (l.map f)) q := ⟨_, .inl rfl, e.okd (by lia) x, e.lst.okd hn l, by simpa only [e.any, if_true] using h⟩
end VL
namespace VL
open PySem L2
section
variable {K : PySem.W.Frag} {X : Cx}
theorem c_len (hK : X.K = K) : CallR X (.builtin "len") (fun xs H Q => ∃ p ys, xs = [.ref p] ∧ (SqL K H p ys ∨ SqT K H p ys) ∧ Q (.int ys.length) H) := by subst hK; exact call_len_seq
theorem c_isi (hK : X.K = K) : CallR X (.builtin "isinstance") (rIsi K) := by subst hK; exact call_isi
theorem bt_sorted : bootBuiltins "sorted" = some (.builtin "sorted") := by decide +kernel
theorem bt_set : bootBuiltins "set" = some (.type "set") := by decide +kernel
end
end VL
end
section
set_option maxHeartbeats 4000000
namespace VL
open PySem L2
section
variable {S S1 : List Sl} {Q : VR → List Sl → Prop} {QT : Bool → List Sl → Prop} {QN : List D → List Sl → Prop} {QA : List VR → List Sl → Prop} {W : VEnds} {va vb : VT} {vr : VTA} {vt vu : VTT} {vn : VTN} {s t : VTS} {g : VG}
def kSeq (u : VTS) (W : VEnds) : List Sl → Prop := fun S' => ∃ S'', Wk S' S'' ∧ u W S''
theorem i_seq {u : VTS} (h : t ⟨kSeq u W, W.rt, W.bk, W.ct⟩ S) : vSeq t u W S := h
theorem i_kSeq {u : VTS} (h : u W S) : kSeq u W S := ⟨S, Wk.refl S, h⟩
def kAsg (g : VG) (W : VEnds) : VR → List Sl → Prop := fun r S1 => ∃ d, r = .d d ∧ g d S1 W.nx
theorem i_asg (h : va S (kAsg g W)) : vAsg va g W S := h
theorem i_kAsg {d : D} (h : g d S W.nx) : kAsg g W (.d d) S := ⟨d, rfl, h⟩
theorem i_gN {i : Nat} {d : D} {q : List Sl → Prop} (e : Nat.ble (i + 1) S.length = true) (h : q (S.set i (.val d))) : vgN i d S q := ⟨Nat.le_of_ble_eq_true e, h⟩
theorem i_gT {n : Nat} {ds : List D} {u : List D → List Sl → (List Sl → Prop) → Prop} {q : List Sl → Prop} (e : ds.length = n) (h : u ds S q) : vgT n u (.tup ds) S q := ⟨ds, rfl, e, h⟩
theorem i_gNil {q : List Sl → Prop} (h : q S) : vgNil [] S q := ⟨rfl, h⟩
theorem i_gCons {d : D} {r : List D} {u : List D → List Sl → (List Sl → Prop) → Prop} {q : List Sl → Prop} (h : g d S fun S1 => u r S1 q) : vgCons g u (d :: r) S q := ⟨d, r, rfl, h⟩
def kSetN (i : Nat) (W : VEnds) : List D → List Sl → Prop := fun ds S1 => i < S1.length ∧ W.nx (S1.set i (.own ds))
theorem i_setN {i : Nat} (h : vn S (kSetN i W)) : vSetN i vn W S := h
theorem i_kSetN {i : Nat} {ds : List D} (e : Nat.ble (i + 1) S.length = true) (h : W.nx (S.set i (.own ds))) : kSetN i W ds S := ⟨Nat.le_of_ble_eq_true e, h⟩
def kSetP (i : Nat) (W : VEnds) : List D → List Sl → Prop := fun ds S1 => ∃ ns : List Int, ds = ns.map .int ∧ i < S1.length ∧ W.nx (S1.set i (.pen none ns))
theorem i_setP {i : Nat} (h : vn S (kSetP i W)) : vSetP i vn W S := h
theorem i_kSetP {i : Nat} {ns : List Int} (e : Nat.ble (i + 1) S.length = true) (h : W.nx (S.set i (.pen none ns))) : kSetP i W (ns.map .int) S := ⟨ns, rfl, Nat.le_of_ble_eq_true e, h⟩
def kRet (W : VEnds) : VR → List Sl → Prop := fun r S1 => ∃ d, retD S1 r = some d ∧ W.rt d S1
theorem i_ret (h : va S (kRet W)) : vRet va W S := h
theorem i_kRet {r : VR} {d : D} (e : retD S r = some d) (h : W.rt d S) : kRet W r S := ⟨d, e, h⟩
def kIf (t u : VTS) (W : VEnds) : Bool → List Sl → Prop := fun b S1 => if b = true then t W S1 else u W S1
theorem i_ifS {u : VTS} (h : vt S (kIf t u W)) : vIfS vt t u W S := h
theorem i_kIf {u : VTS} {b : Bool} (h1 : b = true → t W S) (h2 : b = false → u W S) : kIf t u W b S := by
  cases b with
  | true => show (if true = true then _ else _); rw [if_pos rfl]; exact h1 rfl
  | false => show (if false = true then _ else _); rw [if_neg Bool.false_ne_true]; exact h2 rfl
theorem i_kIfT {u : VTS} (h : t W S) : kIf t u W true S := by show (if true = true then _ else _); rw [if_pos rfl]; exact h
theorem i_kIfF {u : VTS} (h : u W S) : kIf t u W false S := by show (if false = true then _ else _); rw [if_neg Bool.false_ne_true]; exact h
theorem i_kIfd {u : VTS} {p : Prop} [Decidable p] (h1 : p → t W S) (h2 : ¬p → u W S) : kIf t u W (decide p) S := i_kIf (fun e => h1 (of_decide_eq_true e)) (fun e => h2 (of_decide_eq_false e))
def kDrop (W : VEnds) : VR → List Sl → Prop := fun _ S1 => W.nx S1
theorem i_drop (h : va S (kDrop W)) : vDrop va W S := h
theorem i_kDrop {r : VR} (h : W.nx S) : kDrop W r S := h
theorem i_next (h : W.nx S) : vNext W S := h
theorem j_c {d : D} (h : Q (.d d) S) : vC d S Q := h
theorem j_var {i : Nat} {r : VR} (e : rdO i S[i]? = some r) (h : Q r S) : vVar i S Q := ⟨r, e, h⟩
def kFlat (Q : VR → List Sl → Prop) : VR → List Sl → Prop := fun r S' => (match r with | .d d => flat d = true | .own _ => True) ∧ Q r S'
theorem j_flat (h : va S (kFlat Q)) : vFlat va S Q := h
theorem j_kFlat {d : D} (e : flat d = true) (h : Q (.d d) S) : kFlat Q (.d d) S := ⟨e, h⟩
theorem j_kFlatO {i : Nat} (h : Q (.own i) S) : kFlat Q (.own i) S := ⟨trivial, h⟩
def k2a (w : D → D → (D → Prop) → Prop) (vb : VT) (Q : VR → List Sl → Prop) : VR → List Sl → Prop := fun ra S1 => vb S1 fun rb S2 => ∃ d1 d2, get S2 ra = some d1 ∧ get S2 rb = some d2 ∧ w d1 d2 fun d => Q (.d d) S2
def k2b (w : D → D → (D → Prop) → Prop) (Q : VR → List Sl → Prop) (ra : VR) : VR → List Sl → Prop := fun rb S2 => ∃ d1 d2, get S2 ra = some d1 ∧ get S2 rb = some d2 ∧ w d1 d2 fun d => Q (.d d) S2
theorem j_2 {w : D → D → (D → Prop) → Prop} (h : va S (k2a w vb Q)) : v2 w va vb S Q := h
theorem j_2a {w : D → D → (D → Prop) → Prop} {ra : VR} (h : vb S (k2b w Q ra)) : k2a w vb Q ra S := h
theorem j_2b {w : D → D → (D → Prop) → Prop} {ra rb : VR} {d1 d2 : D} (e1 : get S ra = some d1) (e2 : get S rb = some d2) (h : w d1 d2 fun d => Q (.d d) S) : k2b w Q ra rb S := ⟨d1, d2, e1, e2, h⟩
theorem j_wI0 {f : Int → Int → L2.V} {i j : Int} {q : D → Prop} (h : q (ofV (f i j))) : wI0 f (.int i) (.int j) q := ⟨i, j, rfl, rfl, h⟩
theorem j_wI {C : Int → Int → Prop} {f : Int → Int → L2.V} {i j : Int} {q : D → Prop} (c : C i j) (h : q (ofV (f i j))) : wI C f (.int i) (.int j) q := ⟨i, j, rfl, rfl, c, h⟩
def kIx1 (vb : VT) (Q : VR → List Sl → Prop) : VR → List Sl → Prop := fun ra S1 => vb S1 fun rb S2 => ∃ ds i d, (get S2 ra = some (.lst ds) ∨ get S2 ra = some (.tup ds)) ∧ get S2 rb = some (.int i) ∧ atI ds i = some d ∧ Q (.d d) S2
def kIx2 (Q : VR → List Sl → Prop) (ra : VR) : VR → List Sl → Prop := fun rb S2 => ∃ ds i d, (get S2 ra = some (.lst ds) ∨ get S2 ra = some (.tup ds)) ∧ get S2 rb = some (.int i) ∧ atI ds i = some d ∧ Q (.d d) S2
theorem j_ix (h : va S (kIx1 vb Q)) : vIx va vb S Q := h
theorem j_ix1 {ra : VR} (h : vb S (kIx2 Q ra)) : kIx1 vb Q ra S := h
theorem j_ixL {ra rb : VR} {ds : List D} {i : Int} {d : D} (e1 : get S ra = some (.lst ds)) (e2 : get S rb = some (.int i)) (e3 : atI ds i = some d) (h : Q (.d d) S) : kIx2 Q ra rb S := ⟨ds, i, d, .inl e1, e2, e3, h⟩
theorem j_ixT {ra rb : VR} {ds : List D} {i : Int} {d : D} (e1 : get S ra = some (.tup ds)) (e2 : get S rb = some (.int i)) (e3 : atI ds i = some d) (h : Q (.d d) S) : kIx2 Q ra rb S := ⟨ds, i, d, .inr e1, e2, e3, h⟩
def kUn (f : Int → L2.V) (Q : VR → List Sl → Prop) : VR → List Sl → Prop := fun r S1 => ∃ i, get S1 r = some (.int i) ∧ Q (.d (ofV (f i))) S1
theorem j_un {f : Int → L2.V} (h : va S (kUn f Q)) : vUn f va S Q := h
theorem j_kUn {f : Int → L2.V} {r : VR} {i : Int} (e : get S r = some (.int i)) (h : Q (.d (ofV (f i))) S) : kUn f Q r S := ⟨i, e, h⟩
def kTest (QT : Bool → List Sl → Prop) : VR → List Sl → Prop := fun r S' => ∃ k, r = .d (.bl k) ∧ QT k S'
theorem j_test (h : va S (kTest QT)) : vTest va S QT := h
theorem j_kTest {k : Bool} (h : QT k S) : kTest QT (.d (.bl k)) S := ⟨k, rfl, h⟩
def kAnd (u : VTT) (QT : Bool → List Sl → Prop) : Bool → List Sl → Prop := fun c S1 => if c = true then u S1 QT else QT false S1
def kOr (u : VTT) (QT : Bool → List Sl → Prop) : Bool → List Sl → Prop := fun c S1 => if c = true then QT true S1 else u S1 QT
def kNot (QT : Bool → List Sl → Prop) : Bool → List Sl → Prop := fun c S1 => QT (!c) S1
theorem j_and (h : vt S (kAnd vu QT)) : vAnd vt vu S QT := h
theorem j_or (h : vt S (kOr vu QT)) : vOr vt vu S QT := h
theorem j_not (h : vt S (kNot QT)) : vNot vt S QT := h
theorem j_kNot {b : Bool} (h : QT (!b) S) : kNot QT b S := h
theorem j_kAnd {b : Bool} (h1 : b = true → vu S QT) (h2 : b = false → QT false S) : kAnd vu QT b S := by
  cases b with
  | true => show (if true = true then _ else _); rw [if_pos rfl]; exact h1 rfl
  | false => show (if false = true then _ else _); rw [if_neg Bool.false_ne_true]; exact h2 rfl
theorem j_kOr {b : Bool} (h1 : b = true → QT true S) (h2 : b = false → vu S QT) : kOr vu QT b S := by
  cases b with
  | true => show (if true = true then _ else _); rw [if_pos rfl]; exact h1 rfl
  | false => show (if false = true then _ else _); rw [if_neg Bool.false_ne_true]; exact h2 rfl
theorem j_kOrF (h : vu S QT) : kOr vu QT false S := j_kOr (fun e => nomatch e) fun _ => h
theorem j_kOrT (h : QT true S) : kOr vu QT true S := j_kOr (fun _ => h) fun e => nomatch e
theorem j_kAndT (h : vu S QT) : kAnd vu QT true S := j_kAnd (fun _ => h) fun e => nomatch e
theorem j_kAndF (h : QT false S) : kAnd vu QT false S := j_kAnd (fun e => nomatch e) fun _ => h
def kAndV (vb : VT) (Q : VR → List Sl → Prop) : VR → List Sl → Prop := fun r S1 => ∃ c, r = .d (.bl c) ∧ if c = true then vb S1 Q else Q (.d (.bl false)) S1
def kOrV (vb : VT) (Q : VR → List Sl → Prop) : VR → List Sl → Prop := fun r S1 => ∃ c, r = .d (.bl c) ∧ if c = true then Q (.d (.bl true)) S1 else vb S1 Q
def kNotV (Q : VR → List Sl → Prop) : VR → List Sl → Prop := fun r S1 => ∃ c, r = .d (.bl c) ∧ Q (.d (.bl (!c))) S1
theorem j_andV (h : va S (kAndV vb Q)) : vAndV va vb S Q := h
theorem j_orV (h : va S (kOrV vb Q)) : vOrV va vb S Q := h
theorem j_notV (h : va S (kNotV Q)) : vNotV va S Q := h
theorem j_kNotV {c : Bool} (h : Q (.d (.bl (!c))) S) : kNotV Q (.d (.bl c)) S := ⟨c, rfl, h⟩
theorem j_kAndV {c : Bool} (h1 : c = true → vb S Q) (h2 : c = false → Q (.d (.bl false)) S) : kAndV vb Q (.d (.bl c)) S := ⟨c, rfl, by
  cases c with
  | true => rw [if_pos rfl]; exact h1 rfl
  | false => rw [if_neg Bool.false_ne_true]; exact h2 rfl⟩
theorem j_kOrV {c : Bool} (h1 : c = true → Q (.d (.bl true)) S) (h2 : c = false → vb S Q) : kOrV vb Q (.d (.bl c)) S := ⟨c, rfl, by
  cases c with
  | true => rw [if_pos rfl]; exact h1 rfl
  | false => rw [if_neg Bool.false_ne_true]; exact h2 rfl⟩
theorem j_nil (h : QA [] S) : vNil S QA := h
def kCons1 (vr : VTA) (QA : List VR → List Sl → Prop) : VR → List Sl → Prop := fun r S1 => vr S1 fun rs S2 => QA (r :: rs) S2
theorem j_cons (h : va S (kCons1 vr QA)) : vCons va vr S QA := h
theorem j_kCons {r : VR} (h : vr S fun rs S2 => QA (r :: rs) S2) : kCons1 vr QA r S := h
def kTup (Q : VR → List Sl → Prop) : List VR → List Sl → Prop := fun rs S1 => ∃ ds, allD rs = some ds ∧ ds.length ≤ 1000 ∧ Q (.d (.tup ds)) S1
theorem j_tup (h : vr S (kTup Q)) : vTup vr S Q := h
theorem j_kTup {rs : List VR} {ds : List D} (e : allD rs = some ds) (e2 : Nat.ble ds.length 1000 = true) (h : Q (.d (.tup ds)) S) : kTup Q rs S := ⟨ds, e, Nat.le_of_ble_eq_true e2, h⟩
def kLst (QN : List D → List Sl → Prop) : List VR → List Sl → Prop := fun rs S1 => ∃ ds, allD rs = some ds ∧ ds.length ≤ 1000 ∧ QN ds S1
theorem j_lst (h : vr S (kLst QN)) : vLst vr S QN := h
theorem j_kLst {rs : List VR} {ds : List D} (e : allD rs = some ds) (e2 : Nat.ble ds.length 1000 = true) (h : QN ds S) : kLst QN rs S := ⟨ds, e, Nat.le_of_ble_eq_true e2, h⟩
def kNew (Q : VR → List Sl → Prop) : List D → List Sl → Prop := fun ds S1 => Q (.d (.lst ds)) S1
theorem j_new (h : vn S (kNew Q)) : vNew vn S Q := h
theorem j_kNew {ds : List D} (h : Q (.d (.lst ds)) S) : kNew Q ds S := h
def kCB (w : List D → (D → Prop) → Prop) (Q : VR → List Sl → Prop) : List VR → List Sl → Prop := fun rs S1 => ∃ ds, gets S1 rs = some ds ∧ w ds fun d => Q (.d d) S1
theorem j_cb {w : List D → (D → Prop) → Prop} (h : vr S (kCB w Q)) : vCB w vr S Q := h
theorem j_kCB {w : List D → (D → Prop) → Prop} {rs : List VR} {ds : List D} (e : gets S rs = some ds) (h : w ds fun d => Q (.d d) S) : kCB w Q rs S := ⟨ds, e, h⟩
theorem j_lenL {es : List D} {q : D → Prop} (h : q (.int es.length)) : wLen [.lst es] q := ⟨es, .inl rfl, h⟩
theorem j_lenT {es : List D} {q : D → Prop} (h : q (.int es.length)) : wLen [.tup es] q := ⟨es, .inr rfl, h⟩
theorem j_fn {p : List D → (D → Prop) → Prop} (h : vr S (kCB p Q)) : vFn p vr S Q := h
def kFnN (p : List D → (D → Prop) → Prop) (QN : List D → List Sl → Prop) : List VR → List Sl → Prop := fun rs S1 => ∃ ds, gets S1 rs = some ds ∧ p ds fun d => ∃ es, d = .lst es ∧ flats es = true ∧ QN es S1
theorem j_fnN {p : List D → (D → Prop) → Prop} (h : vr S (kFnN p QN)) : vFnN p vr S QN := h
theorem j_kFnN {p : List D → (D → Prop) → Prop} {rs : List VR} {ds : List D} (e : gets S rs = some ds) (h : p ds fun d => ∃ es, d = .lst es ∧ flats es = true ∧ QN es S) : kFnN p QN rs S := ⟨ds, e, h⟩
def kFnI (j : Nat) (p : List Int → List D → (D → List Int → Prop) → Prop) (Q : VR → List Sl → Prop) : List VR → List Sl → Prop := fun rs S1 => ∃ i rs' ad ns ds, pick rs j = some (i, rs') ∧ S1[i]? = some (.pen ad ns) ∧ allD rs' = some ds ∧ p ns ds fun d ns' => Q (.d d) (S1.set i (.pen ad ns'))
theorem j_fnI {j : Nat} {p : List Int → List D → (D → List Int → Prop) → Prop} (h : vr S (kFnI j p Q)) : vFnI j p vr S Q := h
theorem j_kFnI {j : Nat} {p : List Int → List D → (D → List Int → Prop) → Prop} {rs rs' : List VR} {i : Nat} {ad : Option Addr} {ns : List Int} {ds : List D} (e1 : pick rs j = some (i, rs')) (e2 : S[i]? = some (.pen ad ns)) (e3 : allD rs' = some ds) (h : p ns ds fun d ns' => Q (.d d) (S.set i (.pen ad ns'))) : kFnI j p Q rs S := ⟨i, rs', ad, ns, ds, e1, e2, e3, h⟩
def kListOf (QN : List D → List Sl → Prop) : List VR → List Sl → Prop := fun rs S1 => ∃ r ds, rs = [r] ∧ (get S1 r = some (.lst ds) ∨ get S1 r = some (.tup ds)) ∧ flats ds = true ∧ QN ds S1
theorem j_listOf (h : vr S (kListOf QN)) : vListOf vr S QN := h
theorem j_kListL {r : VR} {ds : List D} (e : get S r = some (.lst ds)) (f : flats ds = true) (h : QN ds S) : kListOf QN [r] S := ⟨r, ds, rfl, .inl e, f, h⟩
def kApp (i : Nat) (Q : VR → List Sl → Prop) : VR → List Sl → Prop := fun r S1 => ∃ d ds, r = .d d ∧ S1[i]? = some (.own ds) ∧ ds.length ≤ 1000000 ∧ Q (.d .non) (S1.set i (.own (ds ++ [d])))
theorem j_app {i : Nat} {ds : List D} (e : S[i]? = some (.own ds)) (h : va S (kApp i Q)) : vApp i va S Q := ⟨⟨ds, e⟩, h⟩
theorem j_kApp {i : Nat} {d : D} {ds : List D} (e : S[i]? = some (.own ds)) (e2 : ds.length ≤ 1000000) (h : Q (.d .non) (S.set i (.own (ds ++ [d])))) : kApp i Q (.d d) S := ⟨d, ds, rfl, e, e2, h⟩
def kSetIx1 (i : Nat) (vi : VT) (W : VEnds) : VR → List Sl → Prop := fun r S1 => (∃ s, S1[i]? = some s ∧ s.mut = true) ∧ vi S1 fun ri S2 => ∃ j, get S2 ri = some (.int j) ∧
  ((∃ ad ns k n, S2[i]? = some (.pen ad ns) ∧ ixN ns.length j = some k ∧ r = .d (.int n) ∧ W.nx (S2.set i (.pen ad (ns.set k n)))) ∨
   (∃ ds k d, S2[i]? = some (.own ds) ∧ ixN ds.length j = some k ∧ r = .d d ∧ W.nx (S2.set i (.own (ds.set k d)))))
def kSetIx2 (i : Nat) (W : VEnds) (r : VR) : VR → List Sl → Prop := fun ri S2 => ∃ j, get S2 ri = some (.int j) ∧
  ((∃ ad ns k n, S2[i]? = some (.pen ad ns) ∧ ixN ns.length j = some k ∧ r = .d (.int n) ∧ W.nx (S2.set i (.pen ad (ns.set k n)))) ∨
   (∃ ds k d, S2[i]? = some (.own ds) ∧ ixN ds.length j = some k ∧ r = .d d ∧ W.nx (S2.set i (.own (ds.set k d)))))
theorem i_setIx {i : Nat} (h : va S (kSetIx1 i vb W)) : vSetIx i va vb W S := h
theorem i_kSetIx {i : Nat} {r : VR} {s : Sl} (e : S[i]? = some s) (m : s.mut = true) (h : vb S (kSetIx2 i W r)) : kSetIx1 i vb W r S := ⟨⟨s, e, m⟩, h⟩
theorem i_kSetIxP {i : Nat} {ri : VR} {j n : Int} {ad : Option Addr} {ns : List Int} {k : Nat} (e1 : get S ri = some (.int j)) (e2 : S[i]? = some (.pen ad ns)) (e3 : ixN ns.length j = some k) (h : W.nx (S.set i (.pen ad (ns.set k n)))) : kSetIx2 i W (.d (.int n)) ri S := ⟨j, e1, .inl ⟨ad, ns, k, n, e2, e3, rfl, h⟩⟩
def kFor (g : VG) (b : VTS) (W : VEnds) : List D → List Sl → Prop := fun ds S1 => runFor g b W ds S1 ∨ ∃ Iv : Nat → List Sl → Prop, Iv 0 S1 ∧ (∀ i d S2, ds[i]? = some d → Iv i S2 → g d S2 fun S3 => b { W with nx := Iv (i + 1), ct := Iv (i + 1), bk := W.nx } S3) ∧ ∀ S2, Iv ds.length S2 → W.nx S2
theorem i_for {b : VTS} (h : vn S (kFor g b W)) : vFor vn g b W S := h
theorem i_kForR {b : VTS} {lo : Int} {n : Nat} (Iv : Nat → List Sl → Prop) (h0 : Iv 0 S) (h1 : ∀ i S2, i < n → Iv i S2 → g (.int (lo + (i : Int))) S2 fun S3 => b ⟨Iv (i + 1), W.rt, W.nx, Iv (i + 1)⟩ S3) (h2 : ∀ S2, Iv n S2 → W.nx S2) : kFor g b W (rg lo n) S :=
  .inr ⟨Iv, h0, fun i d S2 e p => by
    have hi : i < n := by have := (List.getElem?_eq_some_iff.mp e).1; rwa [rg_len] at this
    rw [rg_at hi] at e
    cases e
    exact h1 i S2 hi p, fun S2 p => h2 S2 (by rwa [rg_len] at p)⟩
def kItL (QN : List D → List Sl → Prop) : VR → List Sl → Prop := fun r S1 => ∃ ds, r = .d (.lst ds) ∧ QN ds S1
theorem j_itL (h : va S (kItL QN)) : vItL va S QN := h
theorem j_kItL {ds : List D} (h : QN ds S) : kItL QN (.d (.lst ds)) S := ⟨ds, rfl, h⟩
def kRg1 (QN : List D → List Sl → Prop) : List VR → List Sl → Prop := fun rs S1 => ∃ j : Int, rs = [.d (.int j)] ∧ -(2 ^ 62) ≤ j ∧ j < 2 ^ 62 ∧ QN (rg 0 j.toNat) S1
def kRg2 (QN : List D → List Sl → Prop) : List VR → List Sl → Prop := fun rs S1 => ∃ i j : Int, rs = [.d (.int i), .d (.int j)] ∧ (-(2 ^ 62) ≤ i ∧ i < 2 ^ 62 ∧ -(2 ^ 62) ≤ j ∧ j < 2 ^ 62) ∧ QN (rg i (j - i).toNat) S1
theorem j_rg1 (h : vr S (kRg1 QN)) : vRg1 vr S QN := h
theorem j_rg2 (h : vr S (kRg2 QN)) : vRg2 vr S QN := h
theorem j_kRg1 {j : Int} (h1 : 0 ≤ j ∧ j < 1000000) (h : QN (rg 0 j.toNat) S) : kRg1 QN [.d (.int j)] S := ⟨j, rfl, by lia, by lia, h⟩
theorem j_kRg2 {i j : Int} (h1 : -1000000 ≤ i ∧ i < 1000000 ∧ -1000000 ≤ j ∧ j < 1000000) (h : QN (rg i (j - i).toNat) S) : kRg2 QN [.d (.int i), .d (.int j)] S := ⟨i, j, rfl, ⟨by lia, by lia, by lia, by lia⟩, h⟩
def kComp (n : Nat) (ix : List Nat) (g : VG) (vt : VTT) (ve : VT) (QN : List D → List Sl → Prop) : List D → List Sl → Prop := fun ds S1 => ds.length ≤ 1000000 ∧ ∃ Iv : Nat → List D → List Sl → Prop, Iv 0 [] S1 ∧
  (∀ i d ys S2, ds[i]? = some d → Iv i ys S2 → g d (capS n ix S2) fun S3 => vt S3 fun b S4 => if b = true then ve S4 fun r S5 => ∃ x, r = .d x ∧ Iv (i + 1) (ys ++ [x]) (backS n ix S2 S5) else Iv (i + 1) ys (backS n ix S2 S4)) ∧
  ∀ ys S2, Iv ds.length ys S2 → QN ys S2
theorem j_comp {n : Nat} {ix : List Nat} {ve : VT} (h : vn S (kComp n ix g vt ve QN)) : vComp vn n ix g vt ve S QN := h
def kCompT (ve : VT) (A : D → List Sl → Prop) (B : List Sl → Prop) : Bool → List Sl → Prop := fun b S4 => if b = true then ve S4 fun r S5 => ∃ x, r = .d x ∧ A x S5 else B S4
def kCompE (A : D → List Sl → Prop) : VR → List Sl → Prop := fun r S5 => ∃ x, r = .d x ∧ A x S5
theorem j_kComp {n : Nat} {ix : List Nat} {ve : VT} {ds : List D} (Iv : Nat → List D → List Sl → Prop) (hl : ds.length ≤ 1000000) (h0 : Iv 0 [] S)
    (h1 : ∀ i d ys S2, ds[i]? = some d → Iv i ys S2 → g d (capS n ix S2) fun S3 => vt S3 (kCompT ve (fun x S5 => Iv (i + 1) (ys ++ [x]) (backS n ix S2 S5)) (fun S4 => Iv (i + 1) ys (backS n ix S2 S4)))) (h2 : ∀ ys S2, Iv ds.length ys S2 → QN ys S2) : kComp n ix g vt ve QN ds S := ⟨hl, Iv, h0, h1, h2⟩
theorem j_true (h : QT true S) : vTrue S QT := h
theorem j_kCompT {ve : VT} {A : D → List Sl → Prop} {B : List Sl → Prop} {b : Bool} (h1 : b = true → ve S (kCompE A)) (h2 : b = false → B S) : kCompT ve A B b S := by
  cases b with
  | true => show (if true = true then _ else _); rw [if_pos rfl]; exact h1 rfl
  | false => show (if false = true then _ else _); rw [if_neg Bool.false_ne_true]; exact h2 rfl
theorem j_kCompTT {ve : VT} {A : D → List Sl → Prop} {B : List Sl → Prop} (h : ve S (kCompE A)) : kCompT ve A B true S := j_kCompT (fun _ => h) fun e => nomatch e
theorem j_kCompE {A : D → List Sl → Prop} {x : D} (h : A x S) : kCompE A (.d x) S := ⟨x, rfl, h⟩
theorem j_eqI {i j : Int} {q : D → Prop} (h : q (.bl (decide (i = j)))) : wEq (.int i) (.int j) q := ⟨.int i, .int j, rfl, rfl, rfl, by simpa using h⟩
theorem j_isi {d : D} {c : String} {b : Bool} {q : D → Prop} (hn : ∀ n, d ≠ .ty n) (e : isiB (tyD d) c = some b) (h : q (.bl b)) (hE : isE d = false := by with_unfolding_all rfl) : wIsi [d, .ty c] q := ⟨d, c, b, rfl, hn, hE, e, h⟩
end
end VL
end
section
set_option maxHeartbeats 4000000
namespace VL
open PySem L2
section
variable {K : PySem.W.Frag} {X : Cx} {m : Bool} {e a b c o : Expr} {ta tb tc te : TE} {va vb vc : VT} {pos : Pos}
def vChain (w w' : D → D → (D → Prop) → Prop) (va vb vc : VT) : VT := fun S Q => va S fun ra S1 => vb S1 fun rb S2 => ∃ d1 d2, get S2 ra = some d1 ∧ get S2 rb = some d2 ∧ w d1 d2 fun d => ∃ k, d = .bl k ∧
  if k = true then vc S2 fun rc S3 => ∃ d2' d3, get S3 rb = some d2' ∧ get S3 rc = some d3 ∧ w' d2' d3 fun d => Q (.d d) S3 else Q (.d (.bl false)) S2
theorem sndChain {r r' : R2} {w w' : D → D → (D → Prop) → Prop} (L : Lift2 K r w) (L' : Lift2 K r' w') (ha : SndE K false ta va) (hb : SndE K false tb vb) (hc : SndE K false tc vc) : SndE K m (tChain r r' ta tb tc) (vChain w w' va vb vc) := by
  intro H0 Z σ H S Q C k t hq
  refine ha H0 Z σ H S _ _ k t fun x H1 ra S1 k1 st1 r1 t1 => ?_
  refine hb H0 Z σ H1 S1 _ _ k1 t1 fun y H2 rb S2 k2 st2 r2 ⟨d1, d2, e1, e2, t2⟩ => ?_
  refine L x y H2 d1 d2 _ _ ((r1.step st2).get k2 e1) (r2.get k2 e2) t2 fun z dz ⟨b, eb, q⟩ rz => ?_
  subst eb
  cases rz Any AnyF
  refine ⟨b, rfl, ?_⟩
  cases b with
  | false => rw [if_neg Bool.false_ne_true] at q ⊢; exact hq _ H2 (.d (.bl false)) S2 k2 (st1.trans st2) (Rep.bl false) q
  | true =>
    rw [if_pos rfl] at q ⊢
    refine hc H0 Z σ H2 S2 _ _ k2 q fun u H3 rc S3 k3 st3 r3 ⟨d2', d3, g1, g2, t3⟩ => ?_
    exact L' y u H3 d2' d3 _ _ ((r2.step st3).get k3 g1) (r3.get k3 g2) t3 fun z dz q rz => hq z H3 (.d dz) S3 k3 ((st1.trans st2).trans st3) (rz _ _) q
theorem ve_chain {op op' : CmpOp} {r r' : R2} {w w' : D → D → (D → Prop) → Prop} (ho : OpR X (compareOp op) r) (L : Lift2 K r w) (ho' : OpR X (compareOp op') r') (L' : Lift2 K r' w') (ha : VE K X false a ta va) (hb : VE K X false b tb vb) (hc : VE K X false c tc vc)
    (hm : lastMarks [op, op'] [b, c] = false := by with_unfolding_all rfl) : VE K X m (.Compare a [op, op'] [b, c] pos) (tChain r r' ta tb tc) (vChain w w' va vb vc) := ⟨pe_chain ho ho' ha.pe hb.pe hc.pe hm, sndChain L L' ha.snd hb.snd hc.snd⟩
end
section
variable {S : List Sl} {Q : VR → List Sl → Prop} {QT : Bool → List Sl → Prop} {W : VEnds} {va vb : VT} {vt vu : VTT} {t u : VTS} {b : Bool}
theorem j_eqD {neg : Bool} {d1 d2 : D} {q : D → Prop} (a1 : noTy d1 = true) (a2 : (pd d1).canLay0 = true) (a3 : Nat.ble (pd d1).depth 40 = true) (b1 : noTy d2 = true) (b2 : (pd d2).canLay0 = true) (b3 : Nat.ble (pd d2).depth 40 = true)
    (h : q (.bl (if neg then !PyData.eqv (pd d1) (pd d2) else PyData.eqv (pd d1) (pd d2)))) : wEqD neg d1 d2 q := ⟨⟨a1, a2, Nat.le_of_ble_eq_true a3⟩, ⟨b1, b2, Nat.le_of_ble_eq_true b3⟩, h⟩
theorem c_andT (e : b = true) (h : vu S QT) : kAnd vu QT b S := by subst e; exact j_kAndT h
theorem c_andF (e : b = false) (h : QT false S) : kAnd vu QT b S := by subst e; exact j_kAndF h
theorem c_orF (e : b = false) (h : vu S QT) : kOr vu QT b S := by subst e; exact j_kOrF h
theorem c_ifT (e : b = true) (h : t W S) : kIf t u W b S := by subst e; exact i_kIfT h
theorem c_ifF (e : b = false) (h : u W S) : kIf t u W b S := by subst e; exact i_kIfF h
theorem c_avT {c : Bool} (e : c = true) (h : vb S Q) : kAndV vb Q (.d (.bl c)) S := by subst e; exact j_kAndV (fun _ => h) fun e => nomatch e
theorem c_avF {c : Bool} (e : c = false) (h : Q (.d (.bl false)) S) : kAndV vb Q (.d (.bl c)) S := by subst e; exact j_kAndV (fun e => nomatch e) fun _ => h
theorem c_ovF {c : Bool} (e : c = false) (h : vb S Q) : kOrV vb Q (.d (.bl c)) S := by subst e; exact j_kOrV (fun e => nomatch e) fun _ => h
end
section
variable {α : Type} {S : List Sl} {QN : List D → List Sl → Prop} {g : VG} {vt : VTT} {ve : VT} {n : Nat} {ix : List Nat}
theorem take_succ_map {β : Type} {xs : List α} {en : α → β} {i : Nat} {d : β} (h : (xs.map en)[i]? = some d) : ∃ x, xs[i]? = some x ∧ d = en x ∧ x ∈ xs ∧ xs.take (i + 1) = xs.take i ++ [x] := by
  rw [List.getElem?_map] at h
  obtain ⟨x, h1, h2⟩ := Option.map_eq_some_iff.mp h
  refine ⟨x, h1, h2.symm, List.mem_of_getElem? h1, ?_⟩
  rw [List.take_add_one, h1]
  rfl
theorem comp_filter {xs : List α} {en f : α → D} {p : α → Bool} (hl : xs.length ≤ 1000000)
    (h : ∀ x ∈ xs, ∀ (A : D → List Sl → Prop) (B : List Sl → Prop), (∀ S5, backS n ix S S5 = S → p x = true → A (f x) S5) → (∀ S5, backS n ix S S5 = S → p x = false → B S5) → g (en x) (capS n ix S) fun S3 => vt S3 (kCompT ve A B))
    (h2 : QN ((xs.filter p).map f) S) : kComp n ix g vt ve QN (xs.map en) S := by
  refine j_kComp (fun i ys S' => S' = S ∧ ys = ((xs.take i).filter p).map f) (by simpa using hl) ⟨rfl, by simp⟩ ?_ ?_
  · rintro i d ys S2 e ⟨rfl, rfl⟩
    obtain ⟨x, h1, rfl, hm, ht⟩ := take_succ_map e
    refine h x hm _ _ (fun S5 e5 hp => ⟨e5, ?_⟩) (fun S5 e5 hp => ⟨e5, ?_⟩)
    · rw [ht, List.filter_append, List.map_append]
      simp [hp]
    · rw [ht, List.filter_append, List.map_append]
      simp [hp]
  · rintro ys S2 ⟨rfl, rfl⟩
    rw [List.length_map, List.take_length]
    exact h2
theorem comp_map {xs : List α} {en f : α → D} (hl : xs.length ≤ 1000000)
    (h : ∀ x ∈ xs, ∀ (A : D → List Sl → Prop) (B : List Sl → Prop), (∀ S5, backS n ix S S5 = S → A (f x) S5) → g (en x) (capS n ix S) fun S3 => vt S3 (kCompT ve A B))
    (h2 : QN (xs.map f) S) : kComp n ix g vt ve QN (xs.map en) S := by
  refine comp_filter (p := fun _ => true) hl (fun x hx A B hA _ => h x hx A B fun S5 e => hA S5 e rfl) ?_
  rwa [List.filter_eq_self.mpr (by intros; rfl)]
end
section
variable {α : Type} [DecidableEq α] {n : Nat} {f : α → D} {x y : α} {l : List α} {q : D → Prop}
theorem i_niT (e : Enc n f) (hx : x ∉ l) (h : q (.bl true)) (hn : n + 1 ≤ 40 := by decide) : wInD true (f x) (.lst (l.map f)) q := i_notInE e (by rw [decide_eq_false hx]; exact h) hn
theorem i_niF (e : Enc n f) (hx : x ∈ l) (h : q (.bl false)) (hn : n + 1 ≤ 40 := by decide) : wInD true (f x) (.lst (l.map f)) q := i_notInE e (by rw [decide_eq_true hx]; exact h) hn
theorem i_eqT (e : Enc n f) (hx : x = y) (h : q (.bl true)) (hn : n ≤ 40 := by decide) : wEqD false (f x) (f y) q := i_eqE e (by rw [decide_eq_true hx]; exact h) hn
theorem i_neF (e : Enc n f) (hx : x = y) (h : q (.bl false)) (hn : n ≤ 40 := by decide) : wEqD true (f x) (f y) q := i_neE e (by rw [decide_eq_true hx]; exact h) hn
end
end VL
end
section
set_option maxHeartbeats 4000000
namespace L2
open PySem PySem.Spec PyProof.Rows
open PySem.SeqAt PySem.MeetsSeq PySem.MeetsSeq2 PySem.MeetsSeq3
open PySem.AutoSeq1 (wpAny_loadPart')
section
variable {prog : Program} {w : World} {A : Around} {E : Value → Shared → Prop}
end
end L2
end
section
set_option maxHeartbeats 4000000
namespace VL
open PySem L2 PySem.SeqAt PySem.Spec PyProof.Rows
section
variable {X : Cx} {pins : List (Addr × Obj)} {σ : L2.St} {H : Hp} {s : Shared} {K : PySem.W.Frag}
end
section
variable {K : PySem.W.Frag} {X : Cx} {m : Bool} {e a b : Expr} {ta tb te : TE} {va vb : VT} {tr : TA} {vr : VTA} {pos p : Pos}
def vCat (i : Nat) (t : VTN) : VTN := fun S Q => (∃ ds, S[i]? = some (.own ds)) ∧ t S fun es S1 => ∃ ds, S1[i]? = some (.own ds) ∧ ds.length + es.length ≤ 1000000 ∧ Q (ds ++ es) S1
theorem vn_cat {t : VTN} (i : Nat) (ho : PE X a (tVar i)) (h : VN K X b tb t) : VN K X (.BinOp a .Add b pos) (tOp rCat (tVar i) tb) (vCat i t) := ⟨pe_op op_cat ho h.pe, fun H0 Z σ H S Q C k zq1 hc => by
  obtain ⟨⟨ds0, e0⟩, t⟩ := zq1
  obtain ⟨o, g1, c, us, rfl, g2, g3, g4⟩ := k.ownAt e0
  refine ⟨.ref c, g1, h.snd H0 Z σ H S _ _ k t fun a' vs es H1 H' S1 k1 st1 ha hg hl rr ⟨ds, e1, hlen, q⟩ => ?_⟩
  obtain ⟨o', g1', c', us', rfl, g2', g3', g4'⟩ := k1.ownAt e1
  rw [g1] at g1'; cases g1'
  have k2 := k1.grow hg
  have g2'' : H' c = some (.lst us') := by rw [hg c (by simp [g2'])]; exact g2'
  refine ⟨c, a', us', vs, rfl, rfl, g2'', hl, by rw [g4'.length, rr.length, sizeLine_eq]; lia, fun p hp => ?_⟩
  refine hc p _ _ H' _ S1 k2 (st1.trans (.grow hg)) hp (upd_grow hp) upd_same (Reps.append ?_ ?_) q
  · exact reps_new hp ((g4'.mono (fun b n e => ⟨n, hg b e⟩) fun _ x => x).mono (fun _ n _ => ⟨n, rfl⟩) fun _ x _ => x)
  · exact reps_new hp (rr.mono (fun _ n _ => ⟨n.1, rfl⟩) fun _ x _ => x)⟩
end
end VL
end
section
set_option maxHeartbeats 4000000
namespace VL
open PySem L2
section
variable {K : PySem.W.Frag} {X : Cx} {m : Bool} {e a b : Expr} {ta tb te : TE} {va vb : VT} {tr : TA} {vr : VTA} {pos p : Pos}
end
section
variable {S : List Sl} {Q : VR → List Sl → Prop} {QT : Bool → List Sl → Prop} {QN : List D → List Sl → Prop} {W : VEnds} {va vb : VT} {vr : VTA} {vn : VTN} {vl vh : VO}
@[irreducible] def kCat (i : Nat) (QN : List D → List Sl → Prop) : List D → List Sl → Prop := fun es S1 => ∃ ds, S1[i]? = some (.own ds) ∧ ds.length + es.length ≤ 1000000 ∧ QN (ds ++ es) S1
theorem j_cat {i : Nat} {ds : List D} (e : S[i]? = some (.own ds)) (h : vn S (kCat i QN)) : vCat i vn S QN := by unfold kCat at h; exact ⟨⟨ds, e⟩, h⟩
theorem j_kCat {i : Nat} {es ds : List D} (e : S[i]? = some (.own ds)) (hl : ds.length + es.length ≤ 1000000) (h : QN (ds ++ es) S) : kCat i QN es S := by unfold kCat; exact ⟨ds, e, hl, h⟩
variable {QO : Option Int → List Sl → Prop}
end
end VL
end
section
set_option maxHeartbeats 4000000
namespace VL
open PySem L2
section
variable {X : Cx} {K : PySem.W.Frag}
end
section
variable {K : PySem.W.Frag} {X : Cx} {m : Bool} {e a b : Expr} {es : List Expr} {ta tb te : TE} {va vb : VT} {tr : TA} {vr : VTA} {pos p : Pos} {stm : Stmt} {ts : TS} {t : VTS}
end
section
variable {P : Program} {w : World} {K : PySem.W.Frag} {mg : Str → Option Value} {base : Heap}
end
section
variable {K : PySem.W.Frag} {X : Cx} {m : Bool} {e e0 : Expr} {te : TE} {pos p0 : Pos} {x : Str} {j k : Nat} {ps : List Str} {t : VTN} {p : List Int → List D → (D → List Int → Prop) → Prop}
end
end VL
end
section
set_option maxHeartbeats 4000000
namespace L2
open PySem PySem.Spec PyProof.Rows
end L2
namespace VL
open PySem L2
section
variable {K : PySem.W.Frag} {X : Cx} {m : Bool} {e : Expr} {te ta : TE} {va vb : VT} {tr : TA} {vr : VTA} {pos p : Pos}
end
end VL
end
section
set_option maxHeartbeats 4000000
namespace VL
open PySem L2
section
variable {K : PySem.W.Frag} {X : Cx} {m : Bool} {e o : Expr} {te : TE} {vb : VT} {pos : Pos}
end
section
variable {S : List Sl} {Q : VR → List Sl → Prop} {vb : VT}
end
end VL
end
section
set_option maxHeartbeats 4000000
namespace L2
open PySem PySem.Spec PyProof.Rows
theorem items_ints {P : Program} {w : World} : ∀ {ms : List Int} {us : List Value}, Vals (ms.map V.int) us → ItemsAre (intKind P w) ms us
  | [], _, r => by rw [List.map_nil] at r; cases r; exact .nil
  | m :: ms, _, r => by
    rw [List.map_cons] at r
    cases r with
    | cons h t => obtain ⟨tk, rfl⟩ := h; exact .cons (intKind_is _ _ _ _) (items_ints t)
section
variable {X : Cx} {pins : List (Addr × Obj)} {σ : St} {H : Hp} {s : Shared}
theorem key_sq {b : Addr} {ms : List Int} (I : Inv X pins σ H s) (h : SqT X.K H b (ms.map V.int)) : (tupleKind (intKind X.prog X.w)).is s.heap ms b := by
  obtain ⟨its, r, ⟨o, h1, h2, n, h3⟩, _⟩ := I.tuple h
  exact ⟨o, its.toArray, n, h1, h2, h3, by simpa using items_ints r⟩
end
section
variable {X : Cx}
end
end L2
namespace L2
open PySem PySem.Spec PyProof.Rows
section
variable {X : Cx} {o i value : Expr} {pos pos' : Pos} {td ty tv : TE}
end
end L2
namespace VL
open PySem L2
section
variable {K : PySem.W.Frag} {N : AP} {F : FP} {H : Hp}
end
section
variable {K : PySem.W.Frag} {X : Cx} {m : Bool} {e o ie : Expr} {te ti : TE} {va vi : VT} {pos posS : Pos}
end
end VL
end
section
set_option maxHeartbeats 4000000
namespace L2
open PySem PySem.Spec PyProof.Rows
section
variable {prog : Program} {w : World} {A : Around} {E : Value → Shared → Prop} {s : Shared}
theorem code_out {c : Code} {Q : Value → Shared → Prop} {R : Result → Shared → Prop} (h : codeAny (model prog w) A c (wants Q E) s) (ok : ∀ v s', Q v s' → R (.ok (.ret v)) s') (no : ∀ e s', E e s' → R (.error e) s') : codeAny (model prog w) A c R s :=
  codeAny_mono h fun r s' z => match r, z with
    | .error e, z => no e s' z
    | .ok (.ret v), z => ok v s' z
theorem type_called {T newId initId : String} {args : List Value} {Q Q1 : Value → Shared → Prop} (ft : TypeCalled T newId initId) (ct : checkTypeCall T ⟨args, []⟩ = pure ())
    (new : codeAny (model prog w) A.in1 (.call (.builtin newId) ⟨.type T :: args, []⟩) (wants Q1 E) s)
    (init : ∀ v s1, Q1 v s1 → s1.TypeIs v T ∧ codeAny (model prog w) A.in1 (.call (.builtin initId) ⟨v :: args, []⟩) (wants (fun r s2 => r = .none ∧ Q v s2) E) s1) : wpAny (model prog w) A (call (.type T) args) Q E s := by
  have f1 := ft.notType
  have f2 := ft.canCreate
  have f3 := ft.made
  have f4 := ft.sub
  have f5 := ft.init.lookup
  have f6 := fun v => ft.init.bind v
  have ⟨_, _, f7⟩ := ft.mro
  apply wpAny_call
  apply codeAny_of_tree
  wp_walk
  constructor
  · exact Code.quiet_builtin _ (by decide +kernel)
  apply codeAny_builtin F.entry_type_call
  rw [Around.under_plain (weight_type_call_type ..) rfl]
  repeat' (first | assumption | wp_step)
  refine code_out new (fun v s1 hv => ?_) fun e s' he => he
  obtain ⟨g1, g2⟩ := init v s1 hv
  have f8 := f6 v
  repeat' (first | assumption | wp_step)
  refine code_out g2 (fun u s2 hu => ?_) fun e s' he => he
  obtain ⟨rfl, q⟩ := hu
  repeat' (first | assumption | wp_step)
end
end L2
end
section
set_option maxHeartbeats 4000000
namespace L2
open PySem PySem.Spec PyProof.Rows
section
variable {prog : Program} {w : World} {A : Around} {E : Value → Shared → Prop} {s : Shared}
end
section
variable {X : Cx} {p pr pos posr : Pos} {e : Expr} {tr : TA}
end
end L2
end
section
set_option maxHeartbeats 4000000
namespace VL
open PySem L2
section
variable {K : PySem.W.Frag} {X : Cx} {m : Bool} {e : Expr} {te : TE} {va vb : VT} {tr : TA} {vr : VTA} {pos p pr posr : Pos}
end
section
variable {S : List Sl} {Q : VR → List Sl → Prop} {QN : List D → List Sl → Prop} {QD : List (List Int × D) → List Sl → Prop} {W : VEnds} {va vb : VT} {vr : VTA} {vd : VTD}
end
section
variable {K : PySem.W.Frag} {X : Cx} {m : Bool} {e : Expr} {te : TE} {pos : Pos}
variable {S : List Sl} {Q : VR → List Sl → Prop} {vn : VTN}
end
section
variable {K : PySem.W.Frag} {X : Cx} {e : Expr} {te : TE} {va : VT} {pos pos' : Pos} {x : Str}
theorem vs_set1 {i : Nat} (hN : X.N.Nodup) (hi : X.N[i]? = some x) (hx : Loc X.env.scope x) (h : VE K X false e te va) (hs : swapsWith e (some (.Name x pos')) pos.line X.env = pure false := by rfl)
    (hf : X.fn x = true ∨ X.env.scope.names.lookup x = some .local := by first | exact .inl rfl | exact .inr rfl | assumption) : VS K X (.Assign [.Name x pos'] e pos) (tAsg te (gName i)) (vAsg va (vgN i)) := vs_set (fun _ h => ps_set hN hi hx h hs hf) h
end
end VL
end
section
set_option maxHeartbeats 4000000
namespace L2
open PySem PySem.Spec PyProof.Rows
section
variable {X : Cx} {tg : Expr}
end
end L2
namespace VL
open PySem L2
section
variable {K : PySem.W.Frag} {X : Cx} {a b c tg : Expr} {tr : TA} {vr : VTA} {p pos : Pos}
variable {S : List Sl} {QN : List D → List Sl → Prop}
end
end VL
end
section
set_option maxHeartbeats 4000000
namespace L2
open PySem PySem.Spec PyProof.Rows
end L2
namespace VL
open PySem L2
section
variable {K : PySem.W.Frag} {X : Cx} {m : Bool} {e a b o : Expr} {te ta tb : TE} {va vb : VT} {pos apos : Pos}
def vIxO (i : Nat) (vb : VT) : VT := fun S Q => (∃ ds, S[i]? = some (.own ds)) ∧ vb S fun rb S1 => ∃ ds j d, S1[i]? = some (.own ds) ∧ get S1 rb = some (.int j) ∧ atI ds j = some d ∧ Q (.d d) S1
theorem ve_ixO (i : Nat) (hK : X.K = K) (ho : PE X o (tVar i)) (hb : VE K X false b tb vb) (hs : PlainIx b) : VE K X m (.Subscript o b pos) (tOp (rIx K) (tVar i) tb) (vIxO i vb) := ⟨by subst hK; exact pe_ix ix_seq ho hb.pe hs, fun H0 Z σ H S Q C k zq1 hc => by
  obtain ⟨⟨ds0, e0⟩, t⟩ := zq1
  obtain ⟨o0, g0, p, vs0, rfl, _⟩ := k.ownAt e0
  refine ⟨.ref p, g0, hb.snd H0 Z σ H S _ _ k t fun y H2 rb S2 k2 st2 r2 ⟨ds, j, d, e1, e2, e3, q⟩ => ?_⟩
  cases r2.get k2 e2
  obtain ⟨o1, g1, p', vs, e4, h1, h2, rr⟩ := k2.ownAt e1
  rw [g0] at g1; cases g1; cases e4
  obtain ⟨v, h3, h4⟩ := atI_reps rr e3
  exact .inl ⟨p, vs, j, v, rfl, rfl, .inl (.inl h1), h3, hc v H2 (.d d) S2 k2 st2 (show Rep K _ _ H2 v d from h4.mono (fun _ n _ => ⟨n, rfl⟩) fun _ x _ => x) q⟩⟩
def vIxN (t : VTN) (vb : VT) : VT := fun S Q => t S fun ds S1 => vb S1 fun rb S2 => ∃ j d, get S2 rb = some (.int j) ∧ atI ds j = some d ∧ Q (.d d) S2
theorem ve_ixN {t : VTN} (hK : X.K = K) (ha : VN K X a ta t) (hb : VE K X false b tb vb) (hs : PlainIx b) : VE K X m (.Subscript a b pos) (tOp (rIx K) ta tb) (vIxN t vb) := ⟨by subst hK; exact pe_ix ix_seq ha.pe hb.pe hs, fun H0 Z σ H S Q C k t hc =>
  ha.snd H0 Z σ H S _ _ k t fun p vs ds H1 H' S1 k1 st1 hp hg hl rr t1 => by
    have k1' := k1.grow hg
    have rl : Rep K (NM Z σ S1) (FM H0 true) H' (.ref p) (.lst ds) := .lst (k1.nm hp) (fun _ => ⟨p, rfl, k1.dom p hp⟩) hl (rr.mono (fun b n _ => ⟨n.1, rfl⟩) fun _ x _ => x)
    refine hb.snd H0 Z σ H' S1 _ _ k1' t1 fun y H2 rb S2 k2 st2 r2 ⟨j, d, e2, e3, q⟩ => ?_
    cases r2.get k2 e2
    have rl2 := rl.step st2
    cases rl2 with
    | lst n f h r =>
      obtain ⟨v, h3, h4⟩ := atI_reps r e3
      exact .inl ⟨p, _, j, v, rfl, rfl, .inl (.inl h), h3, hc v H2 (.d d) S2 k2 ((st1.trans (.grow hg)).trans st2) (show Rep K _ _ H2 v d from h4.mono (fun _ n _ => ⟨n, rfl⟩) fun _ x _ => x rfl) q⟩
    | lstF n f h r => obtain ⟨c, ec, _⟩ := f rfl; cases ec
    | lstK f h r => obtain ⟨c, ec, _⟩ := f rfl; cases ec⟩
end
section
variable {S : List Sl} {Q : VR → List Sl → Prop} {va vb : VT} {vn : VTN}
@[irreducible] def kIxO (i : Nat) (Q : VR → List Sl → Prop) : VR → List Sl → Prop := fun rb S1 => ∃ ds j d, S1[i]? = some (.own ds) ∧ get S1 rb = some (.int j) ∧ atI ds j = some d ∧ Q (.d d) S1
theorem j_ixO {i : Nat} {ds : List D} (e : S[i]? = some (.own ds)) (h : vb S (kIxO i Q)) : vIxO i vb S Q := by unfold kIxO at h; exact ⟨⟨ds, e⟩, h⟩
theorem j_kIxO {i : Nat} {r : VR} {ds : List D} {j : Int} {d : D} (e1 : S[i]? = some (.own ds)) (e2 : get S r = some (.int j)) (e3 : atI ds j = some d) (h : Q (.d d) S) : kIxO i Q r S := by unfold kIxO; exact ⟨ds, j, d, e1, e2, e3, h⟩
@[irreducible] def kIxN1 (vb : VT) (Q : VR → List Sl → Prop) : List D → List Sl → Prop := fun ds S1 => vb S1 fun rb S2 => ∃ j d, get S2 rb = some (.int j) ∧ atI ds j = some d ∧ Q (.d d) S2
@[irreducible] def kIxN2 (ds : List D) (Q : VR → List Sl → Prop) : VR → List Sl → Prop := fun rb S2 => ∃ j d, get S2 rb = some (.int j) ∧ atI ds j = some d ∧ Q (.d d) S2
theorem j_ixN (h : vn S (kIxN1 vb Q)) : vIxN vn vb S Q := by unfold kIxN1 at h; exact h
theorem j_kIxN1 {ds : List D} (h : vb S (kIxN2 ds Q)) : kIxN1 vb Q ds S := by unfold kIxN1; unfold kIxN2 at h; exact h
theorem j_kIxN2 {ds : List D} {r : VR} {j : Int} {d : D} (e2 : get S r = some (.int j)) (e3 : atI ds j = some d) (h : Q (.d d) S) : kIxN2 ds Q r S := by unfold kIxN2; exact ⟨j, d, e2, e3, h⟩
theorem j_neS {x y : Str} {q : D → Prop} (h : q (.bl (!decide (x = y)))) : wNe (.str x) (.str y) q := ⟨.str x, .str y, rfl, rfl, rfl, by simpa using h⟩
end
theorem at_0 {d : D} {r : List D} : atI (d :: r) 0 = some d := atI_nat (j := 0) rfl
end VL
namespace L2
open PySem
end L2
end
section
set_option maxHeartbeats 4000000
namespace VL
open PySem L2
section
variable {K : PySem.W.Frag} {X : Cx} {e : Expr} {te : TE} {pos pos' : Pos} {x : Str}
end
end VL
end
section
set_option maxHeartbeats 4000000
namespace L2
open PySem PySem.Spec PyProof.Rows
section
variable {X : Cx}
variable {e st : Expr} {te ts : TE} {p2 pos : Pos}
end
end L2
namespace VL
open PySem L2
section
variable {K : PySem.W.Frag} {X : Cx} {m : Bool} {e st : Expr} {te ta : TE} {va vb : VT} {tr : TA} {vr : VTA} {pos p p1 p2 pos2 : Pos}
end
section
variable {S : List Sl} {Q : VR → List Sl → Prop} {QN : List D → List Sl → Prop} {va vb : VT} {vr : VTA}
end
end VL
end
section
set_option maxHeartbeats 4000000
namespace L2
open PySem PySem.Spec PyProof.Rows PySem.W
structure Flies (P : Program) (w : World) (outer : List Env) (H : Hp) (s : Shared) (x : Addr) (cls a0 : Value) (B : Heap) (H' : Hp) (s' : Shared) : Prop where
  os : s'.os = s.os
  bare : AllBare s'.gens
  fly : Heap.FlyingW B outer x cls a0 s'.heap
  frm : ∀ b ∈ frs outer, ∀ o, s.heap.get? b = some o → ∃ sl, s'.heap.get? b = some { o with slots := sl }
  hok : HOk P w H' B
  cov : ∀ b o, s.heap.get? b = some o → H b = none → b ∉ frs outer → B.get? b = some o
  same : ∀ b, H b ≠ none → H' b = H b
  free : ∀ b o, s.heap.get? b = some o → H b = none → H' b = none
  new : s.heap.get? x = none
def CX1 (P : Program) (w : World) : CXT := fun outer H s E e s' => ∃ x cls a0 B H', e = .ref x ∧ Flies P w outer H s x cls a0 B H' s' ∧ E cls none H'
section
variable {P : Program} {w : World} {outer : List Env} {H H' : Hp} {s s' : Shared} {x : Addr} {cls a0 : Value} {B : Heap}
theorem Flies.hok' (f : Flies P w outer H s x cls a0 B H' s') : HOk P w H' s'.heap := f.hok.kept f.fly.1
theorem Flies.un (f : Flies P w outer H s x cls a0 B H' s') : Un (frs outer) [] H H' s.heap s'.heap where
  keep := fun b o e n nb _ => f.fly.1 b o (f.cov b o e n nb)
  slot := fun b o e _ hb _ => f.frm b hb o e
  free := fun b o e n _ => f.free b o e n
  there := fun b o e _ => by
    cases n : H b with
    | none =>
      by_cases hb : b ∈ frs outer
      · obtain ⟨sl, q⟩ := f.frm b hb o e
        exact ⟨_, q⟩
      · exact ⟨o, f.fly.1 b o (f.cov b o e n hb)⟩
    | some u => exact ObjOk.there (f.hok' b u (by rw [f.same b (by rw [n]; simp)]; exact n))
  tups := fun b xs e => by rw [f.same b (by rw [e]; simp)]; exact e
  frzs := fun b o u e => by rw [f.same b (by rw [e]; simp)]; exact e
  tbls := fun b ps e => ⟨#[], by rw [f.same b (by rw [e]; simp), e]; simp⟩
theorem Flies.noX (f : Flies P w outer H s x cls a0 B H' s') : H' x = none := by
  cases n : H' x with
  | none => rfl
  | some u =>
    obtain ⟨o, e⟩ := ObjOk.there (f.hok x u n)
    rw [f.fly.2.1] at e
    cases e
theorem hok_hide {h : Heap} {as : List Addr} (k : HOk P w H h) (hf : ∀ a ∈ as, H a = none) : HOk P w H (hideAll h as) := fun b u e => by
  have nb : ∀ c v, H c = some v → c ∉ as := fun c v q z => by rw [hf c z] at q; cases q
  refine (k b u e).stay (fun c v hc q => hideAll_get _ q ?_) (fun c q => q) fun c xs q => q
  rcases hc with rfl | hc
  · exact nb c u e
  · exact nb c _ hc
end
structure ThrowsTo (X : Cx) (Hin : Hp) (E : XK) : Prop where
  first : ∀ pins σ H s h1 x cls args, Inv X pins σ H s → Heap.MadeExcOf s.heap h1 x cls args → (∀ b, Hin b ≠ none → H b = Hin b) → E cls none H → ∀ tk, X.xe (.ref x) { s with heap := h1, toks := tk }
  next : ∀ pins σ H s e s', Inv X pins σ H s → CX1 X.prog X.w X.stack H s (fun c _ H' => (∀ b, Hin b ≠ none → H' b = Hin b) ∧ E c none H') e s' → X.xe e s'
section
variable {P : Program} {w : World} {K : PySem.W.Frag} {mg : Str → Option Value} {base : Heap} {N : List Str} {qual : Str} {scope : Scope} {f : Addr} {cd : Value} {A : Around} {outer : List Env} {s : Shared} {H : Hp} {E : XK}
theorem throws_of : ThrowsTo (cxOf (CX1 P w) P w K mg base N qual scope f cd A outer s H E) H E where
  first := fun pins σ Hc sr h1 x cls args I hx fr he tk => by
    have nf : ∀ b ∈ frs outer, ∀ o, s.heap.get? b = some o → ∀ vs, o.data ≠ .fields vs := fun b hb o e => by
      obtain ⟨_, o', e', n⟩ := I.ok.funs.mem hb
      have e' : s.heap.get? b = some o' := e'
      rw [e] at e'; cases e'
      exact n
    refine wpAny_leaves_madeW (base := hideAll sr.heap (frs (envOfC qual scope s.heap.objs.size f cd :: outer))) I.ok.frames rfl (fun b o q => of_hideAll _ q) (funFrames_hide I.stack fun env he a ha => List.mem_filterMap.mpr ⟨env, he, ha⟩) hx fun h' t fl _ _ up => ?_
    refine ⟨x, cls, .ref t, _, Hc, rfl, ⟨I.os, I.bare, fl, fun b hb o e => ?_, hok_hide I.hok I.stkFree, fun b o e n nb => ?_, fr, fun b o e n => ?_, ?_⟩, he⟩
    · obtain ⟨sl, q⟩ := I.base.slot b o e (I.ok.frf b hb) hb (by intro z; cases z)
      obtain ⟨sl', q'⟩ := up b _ (hx.keeps _ _ q) (nf b hb o e)
      exact ⟨sl', q'⟩
    · refine hideAll_get _ (I.base.keep b o e n nb (by intro z; cases z)) fun z => ?_
      rcases List.mem_cons.mp (I.stkSub b z) with e' | z
      · have lt := Heap.lt_size e
        have ab : s.heap.objs.size ≤ b := e' ▸ I.ok.above
        exact absurd lt (Nat.not_lt.mpr ab)
      · exact nb z
    · exact I.base.free b o e n (by intro z; cases z)
    · cases q : s.heap.get? x with
      | none => rfl
      | some o =>
        obtain ⟨o', e'⟩ := I.base.there x o q (by intro z; cases z)
        rw [hx.new] at e'
        cases e'
  next := fun pins σ Hc sr e s' I h => by
    obtain ⟨x, cls, a0, B, H', rfl, F, fr, he⟩ := h
    have nf : ∀ b ∈ frs outer, ∀ o, s.heap.get? b = some o → ∀ vs, o.data ≠ .fields vs := fun b hb o e => by
      obtain ⟨_, o', e', n⟩ := I.ok.funs.mem hb
      have e' : s.heap.get? b = some o' := e'
      rw [e] at e'; cases e'
      exact n
    refine wpAny_leaves_onW I.ok.frames rfl F.fly fun h' fl up => ?_
    have sub : ∀ b ∈ frs outer, b ∈ frs (envOfC qual scope s.heap.objs.size f cd :: outer) := fun b hb => by
      obtain ⟨env, h1, h2⟩ := List.mem_filterMap.mp hb
      exact List.mem_filterMap.mpr ⟨env, List.mem_cons_of_mem _ h1, h2⟩
    refine ⟨x, cls, a0, B, H', rfl, ⟨F.os.trans I.os, F.bare, fl, fun b hb o e => ?_, F.hok, fun b o e n nb => ?_, fr, fun b o e n => ?_, ?_⟩, he⟩
    · obtain ⟨sl, q⟩ := I.base.slot b o e (I.ok.frf b hb) hb (by intro z; cases z)
      obtain ⟨sl1, q1⟩ := F.frm b (sub b hb) _ q
      obtain ⟨sl2, q2⟩ := up b _ q1 (nf b hb o e)
      exact ⟨sl2, q2⟩
    · refine F.cov b o (I.base.keep b o e n nb (by intro z; cases z)) (I.base.free b o e n (by intro z; cases z)) fun z => ?_
      rcases List.mem_cons.mp (I.stkSub b z) with e' | z
      · have lt := Heap.lt_size e
        have ab : s.heap.objs.size ≤ b := e' ▸ I.ok.above
        exact absurd lt (Nat.not_lt.mpr ab)
      · exact nb z
    · obtain ⟨o', e'⟩ := I.base.there b o e (by intro z; cases z)
      exact F.free b o' e' (I.base.free b o e n (by intro z; cases z))
    · cases q : s.heap.get? x with
      | none => rfl
      | some o =>
        obtain ⟨o', e'⟩ := I.base.there x o q (by intro z; cases z)
        rw [F.new] at e'
        cases e'
end
theorem own_at {K : Frag} {h : Heap} {mg : Str → Option Value} {x : Str} {C : Addr} {bmB : List Value} {newId : String} (X : K.In h) (hm : mg x = some (.ref C)) (q : excIn K C bmB newId = true) : OwnCls x C bmB newId mg h := by
  unfold excIn at q
  cases hl : K.lookup C with
  | none => rw [hl] at q; cases q
  | some o =>
    rw [hl] at q
    split at q
    case h_2 => cases q
    case h_1 dd cd sl e =>
    cases e
    split at q
    case h_2 => cases q
    case h_1 C' bm k0 k1 k2 k3 n k5 hm' hs =>
    have hh := X _ _ hl
    simp only [Bool.and_eq_true, beq_iff_eq, Bool.not_eq_true'] at q
    obtain ⟨⟨⟨⟨⟨q1, q2⟩, q3⟩, q4⟩, q5⟩, q6⟩ := q
    cases cd
    cases q1; cases q2
    simp only at hm' q3 q5 q6
    cases hm'; cases q3
    rw [show sl = #[k0, k1, k2, k3, some (.builtin _), k5] from Array.toList_inj.mp hs] at hh
    exact ⟨hm, _, _, _, _, _, _, _, _, _, _, _, _, _, _, _, _, _, hh, .of_isNs (isNs_of_in X q5), nsMap_none_of_in X q5 q6, tail_of_in X q4⟩
section
variable {X : Cx} {Hin : Hp} {E : XK} {C : Addr} {bmB : List Value} {B newId initId : String} {x : Str} {z : Str} {j : Nat} {np p cpos pos : Pos}
def tRaise (Hin : Hp) (E : XK) (C : Addr) : TS := fun _ _ H => (∀ b, Hin b ≠ none → H b = Hin b) ∧ E (.ref C) none H
theorem ps_raise (T : ThrowsTo X Hin E) (FB : ExcBaseFacts B newId initId bmB) (ec : excIn X.K C bmB newId = true) (hm : X.mg x = some (.ref C)) (hc : X.calm = true) (hg : Gl X x := by rfl) (hd : (x == ("__debug__" : Str)) = false := by decide)
    (he : starEach [.Constant (.str z) j p] X.env = [(false, eval (.Constant (.str z) j p) X.env)] := by rfl) :
    PS X (.Raise (some (.Call (.Name x np) [.Constant (.str z) j p] [] cpos)) none pos) (tRaise Hin E C) := by
  intro pins s σ H D I ⟨fr, ec'⟩
  have O : OwnCls x C bmB newId X.mg s.heap := own_at I.kIn hm ec
  obtain ⟨tl, N, nm, q, bs, hdct, sn, sub, ab, col, dd, k0, k1, k2, k3, k5, mN, hC, hN, hni, TL⟩ := O.obj
  refine wpAny_Raise_call_subT (mN := mN) (nm := nm) (q := q) (C := C) (N := N) (bs := bs) (bm := tl) (hdct := hdct) (sn := sn) (sub := sub) (ab := ab) (col := col) (dd := dd) (k0 := k0) (k1 := k1) (k2 := k2) (k3 := k3) (k5 := k5) FB (TL.hasType FB.hasBase) (I.ok.hd hc) (by rw [he]; rfl) hni (ld_glob I hg hm ⟨rfl, ?_⟩ hd)
  rw [he]
  refine Calls.evalArgs_plain ?_
  refine Calls.spliced_cons (Calls.Constant_str (k := j) (pos := p) (Calls.spliced_nil ⟨rfl, ?_, hC, hN, TL, fun h' e mk => ?_⟩))
  · show 1 ≤ sizeLine
    rw [sizeLine_eq]; lia
  · exact T.first pins σ H s h' e (.ref C) _ I mk fr ec' _
end
section
open Builtin Builtin.ObjectAttr Builtin.Getset_descriptor
def clsTold (K : Frag) (C : Addr) : Bool := (findIn K (.ref C) "__getattribute__" == some (some (.builtin "BaseException.__getattribute__"))) && (findIn K (.ref C) "__getattr__" == some none) && (findIn K (.ref C) "__class__" == some (some (.builtin "object.__class__"))) &&
  (specialIn K (.builtin "object.__class__") "__get__" == some (some (.builtin "getset_descriptor.__get__"))) && (takesIn K (.builtin "object.__class__") == some true) && (mroIn K C (.type "object") == some true) && (mroIn K C (.type "BaseException") == some true)
section
variable {prog : Program} {w : World} {A : Around} {E : Value → Shared → Prop} {s : Shared} {K : Frag} {x C : Addr} {o : Obj}
theorem class_told {Q : Option Value → Shared → Prop} (X : K.In s.heap) (ho : s.heap.get? x = some o) (hc : o.cls = .ref C) (ok : clsTold K C = true) (h : Q (some (.ref C)) { s with toks := s.toks + 1 }) : wpAny (model prog w) A (getAttr? (.ref x) "__class__") Q E s := by
  obtain ⟨hp, g, d, tk, os⟩ := s
  simp only [clsTold, Bool.and_eq_true, beq_iff_eq] at ok
  obtain ⟨⟨⟨⟨⟨⟨o1, o2⟩, o3⟩, o4⟩, o5⟩, o6⟩, o7⟩ := ok
  have T0 : Looks (model prog w) hp (typeOf (.ref x)) (.ref C) := hc ▸ (Looks.ld ho).andThen .now
  have T1 := looks_findIn (M := model prog w) X o1
  have T2 := looks_findIn (M := model prog w) X o2
  have T3 : Looks (model prog w) hp (find (.ref x) (.ref C) "__class__") (.bind (.builtin "getset_descriptor.__get__") (.builtin "object.__class__")) :=
    (looks_findIn X o3).andThen ((show Looks (model prog w) hp (getOf (some (.builtin "object.__class__"))) _ from looks_specialIn X o4).andThen
      ((show Looks (model prog w) hp (dataDescriptor? (some (.builtin "object.__class__")) (some (.builtin "getset_descriptor.__get__"))) (some (.builtin "getset_descriptor.__get__", .builtin "object.__class__")) from (looks_takesIn X o5).andThen .now).andThen (Looks.tag .now)))
  have T6 := looks_mroIn (M := model prog w) X o6
  have T7 : Looks (model prog w) hp (isInstance (.ref x) (.type "BaseException")) true := T0.andThen (looks_mroIn X o7)
  have gets : ∀ (A : Around) (tk : Nat), wpAny (model prog w) A (call (.builtin "getset_descriptor.__get__") [.builtin "object.__class__", .ref x, .ref C]) (fun v s' => v = .ref C ∧ s' = ⟨hp, g, d, tk, os⟩) (fun _ _ => False) ⟨hp, g, d, tk, os⟩ := fun A tk => by
    refine wpAny_call (codeAny_call_builtin KF.slot_gs.plain KF.entry_gs (KF.slot_gs.check _ _ _ _ _ _ _ _ KF.type_class (KF.args_gs _ _ _) ?_))
    simp only [Builtin.«getset_descriptor.__get__», descrGet, dga_obj]
    refine wpAny_bind (wpAny_pure ?_)
    simp only [descrGetter, descrCheckInstance, descrNameAndClass, isInstance, KF.owner_class]
    repeat lk
    exact ⟨Code.quiet_builtin _ (by decide +kernel), codeAny_builtin KF.entry_class (by simp only [Builtin.«object.__class__», shownTypeOf]; (repeat lk); exact ⟨rfl, rfl⟩)⟩
  have asks : ∀ (A : Around) (tk : Nat) (nt : Tok), wpAny (model prog w) A (call (.builtin "BaseException.__getattribute__") [.ref x, .str "__class__" nt]) (fun v s' => v = .ref C ∧ s' = ⟨hp, g, d, tk, os⟩) (fun _ _ => False) ⟨hp, g, d, tk, os⟩ := fun A tk nt => by
    have kd : builtinKind "BaseException.__getattribute__" = some .slot := by decide +kernel
    have sp : splitId "BaseException.__getattribute__" = some ("BaseException", "__getattribute__") := by decide +kernel
    refine wpAny_call (codeAny_call_builtin (by decide +kernel) F.entry_bexc_ga ?_)
    simp only [checkBuiltinCall, kd, sp]
    refine wpAny_bind (T7.at ?_)
    have fits : (match Manifest.signature? "BaseException.__getattribute__" with
      | some sig => Bind.checkArgs "BaseException.__getattribute__" sig { pos := [Value.ref x, Value.str "__class__" nt] }
      | _ => pure ()) = pure () := F.args_bexc_ga (.ref x) (.str "__class__" nt)
    simp only [Bool.not_true, Bool.false_eq_true, if_false]
    refine (show _ = _ from fits) ▸ wpAny_pure ?_
    refine wpAny_bind (wpAny_pure (wpAny_bind (wpAny_pure (wpAny_bind (T0.at (wpAny_bind (T3.at ?_)))))))
    exact wpAny_bind (wpAny_mono (gets _ tk) (fun v s' ⟨a, b⟩ => wpAny_pure ⟨a, b⟩) fun _ _ z => z.elim)
  have no : (Value.builtin "BaseException.__getattribute__" == Value.builtin "object.__getattribute__") = false := by decide +kernel
  simp only [getAttr?, getAttrBy?, getAttrBy]
  refine wpAny_bind (wpAny_mkText (wpAny_bind (wpAny_attempt (wpAny_holding (wpAny_bind (T0.at (wpAny_bind (T1.at ?_))))))))
  simp only [no, Bool.and_false, Bool.false_eq_true, if_false, getAttrByItsOwn, hookBefore, onTheHeap, if_true]
  refine wpAny_bind (T2.at (wpAny_bind (wpAny_attempt (wpAny_holding ?_))))
  simp only [callGetattribute, Bool.false_and, Bool.false_eq_true, if_false, boundAndCalled, F.attr_ValueError.ga.bind]
  refine wpAny_bind (wpAny_pure (wpAny_mono (asks A (tk + 1) tk) (fun v s' ⟨a, b⟩ => ?_) fun _ _ z => z.elim))
  subst a b
  exact handed_on rfl (wpAny_pure h)
def ExcAt (x C : Addr) (h : Heap) : Prop := ∃ o, h.get? x = some o ∧ o.cls = .ref C
theorem cls_obj {cd : ClassData} (e : clsIn K C = some cd) : ∃ o, K.lookup C = some o ∧ o.data = .cls cd := by
  unfold clsIn at e
  split at e
  · next c d cd' sl q => cases e; exact ⟨_, q, rfl⟩
  · cases e
theorem kitx_exc (hk : kitCls K (.ref C) (.ref C) = some true) (ok : clsTold K C = true) (hc : (clsIn K C).isSome = true) : KitX K (.ref x) (.ref C) (ExcAt x C) where
  ty := fun M h _ ⟨o, e, c⟩ => c ▸ (Looks.ld e).andThen .now
  it := fun M h X _ => (kit_cls X hk).2.1
  ne := fun h tp dd its n sl X htp => by
    obtain ⟨cd, hcd⟩ := Option.isSome_iff_exists.mp hc
    obtain ⟨o, e, d⟩ := cls_obj hcd
    refine Bool.eq_false_iff.mpr fun q => ?_
    cases beq_iff_eq.mp q
    have z := X _ _ e
    rw [htp] at z
    cases z
    cases d
  ca := fun X ⟨o, e, c⟩ k => class_told X e c ok k
end
end
section
variable {X : Cx} {pins : List (Addr × Obj)} {σ : St} {H H' : Hp} {s s' : Shared} {x : Addr} {cls a0 : Value} {B : Heap}
theorem Flies.on {h' : Heap} {tk : Nat} (I : Inv X pins σ H s) (f : Flies X.prog X.w X.stack H s x cls a0 B H' s') (fl : Heap.FlyingW B X.stack x cls a0 h') (up : s'.heap.UpToSlots h') : Flies X.prog X.w X.stack H s x cls a0 B H' { s' with heap := h', toks := tk } where
  os := f.os
  bare := f.bare
  fly := fl
  frm := fun b hb o e => by
    obtain ⟨sl, q⟩ := f.frm b hb o e
    obtain ⟨_, o', e', n⟩ := I.stack.mem hb
    rw [e] at e'; cases e'
    obtain ⟨sl', q'⟩ := up b _ q n
    exact ⟨sl', q'⟩
  hok := f.hok
  cov := f.cov
  same := f.same
  free := f.free
  new := f.new
theorem Inv.lands (I : Inv X pins σ H s) (f : Flies X.prog X.w X.stack H s x cls a0 B H' s') : Inv X pins σ H' s' :=
  I.call' (ch := []) f.os f.un f.hok' f.bare fun b z => by cases z
abbrev Cx.caught (X : Cx) (x : Addr) : Cx := { X with A := X.A.mark (some (.ref x)), calm := false }
theorem Inv.caught (I : Inv X pins σ H s) (x : Addr) : Inv (X.caught x) pins σ H s :=
  ⟨⟨I.ok.mod, I.ok.kind, I.ok.glob, I.ok.blt, I.ok.above, I.ok.inj, I.ok.has, I.ok.cab, fun z => Bool.noConfusion z, I.ok.frames, I.ok.stk, I.ok.exf, I.ok.bs, I.ok.bsz, I.ok.noex, I.ok.exfs, I.ok.funs, I.ok.frf⟩, I.os, I.bare, I.base, I.loc, I.cell, I.free, I.freeC, I.pin, I.hok, I.len⟩
theorem Inv.uncaught {x : Addr} (J : Inv (X.caught x) pins σ H s) (ok : X.Ok) : Inv X pins σ H s := ⟨ok, J.os, J.bare, J.base, J.loc, J.cell, J.free, J.freeC, J.pin, J.hok, J.len⟩
theorem drop_ok {M : Model} {A : Around} {E : Value → Shared → Prop} {i : Nat} {n : Str} {v : V} {Q : Unit → Shared → Prop} (I : Inv X pins σ H s) (hN : X.N.Nodup) (hi : X.N[i]? = some n) (hk : X.env.scope.names.lookup n = some .local) (hv : σ[i]? = some (some v))
    (h : ∀ s', Inv X pins (σ.set i none) H s' → Q () s') : wpAny M A (unbindName X.env n) Q E s := by
  obtain ⟨m, hn, hl⟩ := id I.loc
  obtain ⟨u, _, q⟩ := hl i n v hi hv (.inl hk)
  have hm : m n = some u := by
    rcases q with ⟨_, e⟩ | ⟨z, _⟩
    · exact e
    · have hk' : X.env.kindOf n = some .local := hk
      rw [hk'] at z
      rcases z with z | z <;> cases z
  have hcls : (X.env.scope.kind == .class || (X.env.scope.kind == .module && X.env.locals != X.env.globals)) = false := by rw [I.ok.kind]; rfl
  have hiσ : i < σ.length := by rw [I.len]; exact (List.getElem?_eq_some_iff.mp hi).1
  refine wpAny_unbindName_local hk hn hm hcls fun h' u' hn' hs => ?_
  have far : ∀ b o, X.s₀.heap.get? b = some o → b ≠ X.env.locals := fun b o e => Nat.ne_of_lt (Nat.lt_of_lt_of_le (Heap.lt_size e) I.ok.above)
  refine h _ ⟨I.ok, I.os, I.bare, ⟨fun b o e n hb hx => (hs.2 b (far b o e)).trans (I.base.keep b o e n hb hx), fun b o e n hb hx => ?_, I.base.free, fun b o e hx => ?_, I.base.tups, I.base.frzs, I.base.tbls⟩, ⟨_, hn', fun j y v' e1 e2 e3 => ?_⟩, fun y c e => ?_, I.free, I.freeC, fun p hp => ?_, fun b ob e => ?_, by simpa using I.len⟩
  · obtain ⟨sl, q⟩ := I.base.slot b o e n hb hx
    exact ⟨sl, (hs.2 b (far b o e)).trans q⟩
  · obtain ⟨o', q⟩ := I.base.there b o e hx
    exact ⟨o', (hs.2 b (far b o e)).trans q⟩
  · have hj : j ≠ i := fun z => by
      rw [z, List.getElem?_set_self hiσ] at e2
      cases e2
    rw [List.getElem?_set_ne (Ne.symm hj)] at e2
    obtain ⟨w', r', q⟩ := hl j y v' e1 e2 e3
    refine ⟨w', r', ?_⟩
    rcases q with ⟨k, e⟩ | ⟨k, c, e, z⟩
    · have : y ≠ n := fun e => hj (nodup_ix hN e1 (e ▸ hi))
      exact .inl ⟨k, by simp [this, e]⟩
    · exact .inr ⟨k, c, e, z.sameBut hs (I.cne y c e)⟩
  · obtain ⟨w', z⟩ := I.cell y c e
    exact ⟨w', z.sameBut hs (I.cne y c e)⟩
  · obtain ⟨e, n, ne, nf, d⟩ := I.pin p hp
    exact ⟨(hs.2 p.1 ne).trans e, n, ne, nf, d⟩
  · refine (I.hok b ob e).stay (fun c w' hc q => (hs.2 c ?_).trans q) (fun _ q => q) fun _ _ q => q
    rintro rfl
    rcases hc with rfl | hc
    · rw [I.free] at e; cases e
    · rw [I.free] at hc; cases hc
end
section
variable {X : Cx} {k i : Nat} {f CB : Addr} {fd : FuncData} {ps : List Str} {sp : Sp} {e0 : Expr} {es : List Expr} {ta : TA} {x cb en : Str} {b0 : Stmt} {suite : List Stmt} {th : TS} {p pos pe np hp tp : Pos}
def unE (D : Ends) (i : Nat) : Ends := { nx := fun σ H => D.nx (σ.set i none) H, rt := D.rt, bk := fun σ H => D.bk (σ.set i none) H, ct := fun σ H => D.ct (σ.set i none) H }
end
def excOk (K : Frag) (C : Addr) : Bool := (kitCls K (.ref C) (.ref C) == some true) && clsTold K C && (clsIn K C).isSome
theorem excOk.kit {K : Frag} {x C : Addr} (h : excOk K C = true) : KitX K (.ref x) (.ref C) (ExcAt x C) := by
  simp only [excOk, Bool.and_eq_true, beq_iff_eq] at h
  exact kitx_exc h.1.1 h.1.2 h.2
def clsV : Value → V
  | .ref C => .ref C
  | .type T => .ty T
  | _ => .non
def isC : Value → Bool
  | .ref _ => true
  | .type _ => true
  | _ => false
theorem clsV_rel {c u : Value} (h : isC c = true) (r : RelV (clsV c) u) : u = c := by
  match c, h, r with
  | .ref _, _, r => exact r
  | .type _, _, r => exact r
theorem clsV_vals : ∀ {cs us : List Value}, cs.all isC = true → Vals (cs.map clsV) us → us = cs
  | [], _, _, .nil => rfl
  | c :: cs, _, h, .cons r t => by
    simp only [List.all_cons, Bool.and_eq_true] at h
    rw [clsV_rel h.1 r, clsV_vals h.2 t]
def rIsiE (K : PySem.W.Frag) : List V → Hp → VK → Prop := fun xs H Q => ∃ y o C c b, xs = [.ref y, c] ∧ H y = some (.frz o (.own y)) ∧ o.cls = .ref C ∧ excOk K C = true ∧
  ((∃ cv, c = clsV cv ∧ isC cv = true ∧ kitOne K (.ref C) cv = some b) ∨ (∃ t cs, c = .ref t ∧ SqT K H t (cs.map clsV) ∧ cs.all isC = true ∧ kitAny K (.ref C) cs = some b)) ∧ Q (.bl b) H
theorem call_isiE {X : Cx} : CallR X (.builtin "isinstance") (rIsiE X.K) := by
  intro pins s σ H xs us Q I r ⟨y, o, C, c, b, e, hy, hc, ok, h, q⟩
  subst e
  obtain ⟨u, w', rfl, rx, rc⟩ := vals2 r
  cases rx
  have at_ : ExcAt y C s.heap := ⟨o, (show ObjOk X.prog X.w H s.heap y (.frz o (.own y)) from I.hok y _ hy).1, hc⟩
  have fin : ∀ tk, EP X pins σ Q (.bool b) { s with toks := tk } := fun tk => ⟨.bl b, H, I.tok tk, rfl, q⟩
  rcases h with ⟨cv, rfl, hi, e⟩ | ⟨t, cs, rfl, hq, hi, e⟩
  · rw [clsV_rel hi rc]
    exact PySem.W.kia_one (excOk.kit ok) I.kIn at_ e (fun z => nomatch z) fin
  · cases rc
    obtain ⟨its, r2, tp, _⟩ := I.tuple hq
    cases clsV_vals hi r2
    obtain ⟨o2, h1, h2, n, h3⟩ := tp
    obtain ⟨oc, od, odt, osl⟩ := o2
    simp only at h2 h3
    subst h2; subst h3
    exact PySem.W.kia_tup (excOk.kit ok) I.kIn at_ h1 e (fun z => nomatch z) fin
def tRefs : List Addr → TA
  | [] => tNil
  | c :: r => tCons (tC (.ref c)) (tRefs r)
theorem tRefs_of {σ : St} {H : Hp} : ∀ {cs : List Addr} {Q : List V → Hp → Prop}, Q (cs.map V.ref) H → tRefs cs σ H Q
  | [], _, h => h
  | _ :: cs, _, h => tRefs_of (cs := cs) h
theorem pa_refs0 {X : Cx} : PA X [] (tRefs []) := pa_nil
theorem pa_refs {X : Cx} {n : Str} {p : Pos} {c : Addr} {es : List Expr} {cs : List Addr} (hm : X.mg n = some (.ref c)) (hr : PA X es (tRefs cs)) (hg : Gl X n := by rfl) (hd : (n == ("__debug__" : Str)) = false := by decide)
    (hs : starEach (.Name n p :: es) X.env = (false, eval (.Name n p) X.env) :: starEach es X.env := by rfl) : PA X (.Name n p :: es) (tRefs (c :: cs)) := pa_cons (pe_glob hg hm rfl hd) hr hs
end L2
namespace VL
open PySem L2 PySem.W
section
variable {K : PySem.W.Frag} {X : Cx} {m : Bool} {i : Nat} {en cn : Str} {p1 p2 p3 p4 pos : Pos} {es : List Expr} {cs : List Addr} {c : Value}
theorem repE {H0 H : Hp} {Z : AP} {σ : St} {S : List Sl} {C : Addr} (k : OK K H0 Z σ H S) (h : S[i]? = some (.val (.exc (.ref C)))) : ∃ y o, σ[i]? = some (some (.ref y)) ∧ H y = some (.frz o (.own y)) ∧ o.cls = .ref C := by
  obtain ⟨o, e, v, rfl, r⟩ := k.ownAt h
  cases r with | exc n hh hc => exact ⟨_, _, e, hh, hc⟩
def vIsiE (K : Frag) (i : Nat) (c : Value) : VT := fun S Q => ∃ C b, S[i]? = some (.val (.exc (.ref C))) ∧ excOk K C = true ∧ kitOne K (.ref C) c = some b ∧ Q (.d (.bl b)) S
theorem ve_isiE (hK : X.K = K) (hc : isC c = true) (hcn : PE X (.Name cn p3) (tC (clsV c))) (hi : X.N[i]? = some en) (hv : Vis X.env.scope en) (hg : Gl X "isinstance") (hm : X.mg "isinstance" = none) (hd : (en == ("__debug__" : Str)) = false := by decide) (hcd : (en == ("__classdict__" : Str)) = false := by decide)
    (he : starEach [.Name en p2, .Name cn p3] X.env = [(false, eval (.Name en p2) X.env), (false, eval (.Name cn p3) X.env)] := by rfl) :
    VE K X m (.Call (.Name "isinstance" p1) [.Name en p2, .Name cn p3] [] pos) (tCB (rIsiE K) (tCons (tVar i) (tCons (tC (clsV c)) tNil))) (vIsiE K i c) :=
  ⟨by subst hK; exact pe_callB call_isiE hg hm bt_isinstance (pa_cons (pe_var hi hv hd hcd) (pa_cons hcn pa_nil)), fun H0 Z σ H S Q C k t hcc => by
    obtain ⟨C0, b, h1, h2, h3, q⟩ := t
    obtain ⟨y, o, e1, e2, e3⟩ := repE k h1
    exact ⟨_, e1, y, o, C0, _, b, rfl, e2, e3, h2, .inl ⟨c, rfl, hc, h3⟩, hcc _ _ (.d (.bl b)) S k .refl (Rep.bl b) q⟩⟩
def vIsiT (K : Frag) (i : Nat) (cs : List Addr) : VT := fun S Q => ∃ C b, S[i]? = some (.val (.exc (.ref C))) ∧ excOk K C = true ∧ kitAny K (.ref C) (cs.map Value.ref) = some b ∧ Q (.d (.bl b)) S
theorem ve_isiT {x1} (hK : X.K = K) (hcs : PA X es (tRefs cs)) (hz : cs.length < 100) (hi : X.N[i]? = some en) (hv : Vis X.env.scope en) (hg : Gl X "isinstance") (hm : X.mg "isinstance" = none) (hd : (en == ("__debug__" : Str)) = false := by decide) (hcd : (en == ("__classdict__" : Str)) = false := by decide)
    (he : starEach [.Name en p2, .Tuple es x1 p3] X.env = [(false, eval (.Name en p2) X.env), (false, eval (.Tuple es x1 p3) X.env)] := by rfl) :
    VE K X m (.Call (.Name "isinstance" p1) [.Name en p2, .Tuple es x1 p3] [] pos) (tCB (rIsiE K) (tCons (tVar i) (tCons (tTup (tRefs cs)) tNil))) (vIsiT K i cs) :=
  ⟨by subst hK; exact pe_callB call_isiE hg hm bt_isinstance (pa_cons (pe_var hi hv hd hcd) (pa_cons (pe_tup hcs) pa_nil)), fun H0 Z σ H S Q C k t hcc => by
    obtain ⟨C0, b, h1, h2, h3, q⟩ := t
    obtain ⟨y, o, e1, e2, e3⟩ := repE k h1
    refine ⟨_, e1, tRefs_of ⟨by rw [List.length_map, sizeLine_eq]; lia, fun p hp => ?_⟩⟩
    have g := upd_grow (o := .tup (cs.map V.ref)) hp
    refine ⟨y, o, C0, _, b, rfl, by rw [g y (by rw [e2]; simp)]; exact e2, e3, h2, .inr ⟨p, cs.map Value.ref, rfl, .inl (.inl ?_), by simp [isC], h3⟩, hcc _ _ (.d (.bl b)) S (k.grow g) (.grow g) (Rep.bl b) q⟩
    rw [upd_same, List.map_map]
    rfl⟩
end
end VL
namespace VL
open PySem L2 PySem.W
def spX (K : PySem.W.Frag) (bad : List D → Addr → Prop) : Sp := fun vs H _ E => ∃ ds C, Reps K Any AnyF H vs ds ∧ bad ds C ∧ ∀ H', (∀ a, H a ≠ none → H' a = H a) → E (.ref C) none H'
def HasX (P : Program) (w : World) (K : PySem.W.Frag) (mg : Str → Option Value) (base : Heap) (k : Nat) (x : Str) (ps : List Str) (bad : List D → Addr → Prop) : Prop :=
  ∃ (f : Addr) (fd : FuncData), FnOk P w K mg base (CX1 P w) k f fd ps (spX K bad) ∧ mg x = some (.ref f) ∧ PySem.W.keepIn K (.ref f) = true ∧ Binds K fd ps []
def Fz (Hin : Hp) (Z : AP) (σ : St) (S : List Sl) (H : Hp) : Prop := ∀ a, Hin a ≠ none → H a = Hin a ∧ NM Z σ S a
theorem Fz.step {Hin H H' : Hp} {Z : AP} {σ σ' : St} {S S' : List Sl} (f : Fz Hin Z σ S H) (st : Step Z σ S H σ' S' H') : Fz Hin Z σ' S' H' := fun a e => by
  obtain ⟨e1, n⟩ := f a e
  obtain ⟨e2, n2⟩ := st.1 a n (by rw [e1]; exact e)
  exact ⟨e2.trans e1, n2⟩
structure VXs (K : PySem.W.Frag) (X : Cx) (Hin : Hp) (E : XK) (sts : List Stmt) (ts : TS) (t : (Addr → Prop) → List Sl → Prop) : Prop where
  ps : PSs X sts ts
  snd : ∀ Wc : Addr → Prop, (∀ C, Wc C → ∀ H', (∀ a, Hin a ≠ none → H' a = Hin a) → E (.ref C) none H') → ∀ H0 Z σ H S D, OK K H0 Z σ H S → Fz Hin Z σ S H → t Wc S → ts D σ H
section
variable {K : PySem.W.Frag} {X : Cx} {Hin : Hp} {E : XK} {sts rest A : List Stmt} {st : Stmt} {ts us : TS} {t u : (Addr → Prop) → List Sl → Prop} {v : VTS} {pos : Pos}
theorem vx_never : VXs K X Hin E sts tNever (fun _ _ => False) := ⟨pss_never, fun _ _ _ _ _ _ _ _ _ _ h => h.elim⟩
theorem vx_raise {C : Addr} {bmB : List Value} {B newId initId : String} {x z : Str} {j : Nat} {np p cpos pos : Pos} (T : ThrowsTo X Hin E) (FB : ExcBaseFacts B newId initId bmB) (ec : excIn X.K C bmB newId = true) (hm : X.mg x = some (.ref C)) (hc : X.calm = true) (hg : Gl X x := by rfl) (hd : (x == ("__debug__" : Str)) = false := by decide)
    (he : starEach [.Constant (.str z) j p] X.env = [(false, eval (.Constant (.str z) j p) X.env)] := by rfl) :
    VXs K X Hin E [.Raise (some (.Call (.Name x np) [.Constant (.str z) j p] [] cpos)) none pos] (tRaise Hin E C) (fun Wc _ => Wc C) :=
  ⟨pss_one (ps_raise T FB ec hm hc hg hd he), fun Wc hE H0 Z σ H S D k f h => ⟨fun b e => (f b e).1, hE C h H fun b e => (f b e).1⟩⟩
theorem vx_seq (h1 : VS K X st ts v) (h2 : VXs K X Hin E rest us u) : VXs K X Hin E (st :: rest) (tSeq ts us) (fun Wc S => v { nx := u Wc, rt := fun _ _ => False } S) :=
  ⟨pss_cons h1.ps h2.ps, fun Wc hE H0 Z σ H S D k f h => h1.snd H0 Z σ H S _ _ k h ⟨fun σ' H' S' k' st q => h2.snd Wc hE H0 Z σ' H' S' D k' (f.step st) q, fun _ _ _ _ _ q => q.elim, fun _ _ _ _ _ q => q.elim, fun _ _ _ _ _ _ _ _ q => q.elim⟩⟩
theorem vx_if {c : Expr} {tc : TT} {wc : VTT} (hc : VTe K X c tc wc) (ha : VXs K X Hin E A ts t) (hr : VXs K X Hin E rest us u) : VXs K X Hin E (.If c A [] pos :: rest) (tSeq (tIfS tc ts tNext) us) (fun Wc S => wc S fun b S1 => if b = true then t Wc S1 else u Wc S1) :=
  ⟨pss_cons (ps_if hc.pe ha.ps pss_nil) hr.ps, fun Wc hE H0 Z σ H S D k f h => hc.snd H0 Z σ H S _ _ k h fun b H1 S1 k1 st1 q => by
    cases b with
    | true => rw [if_pos rfl] at q ⊢; exact ha.snd Wc hE H0 Z σ H1 S1 _ k1 (f.step st1) q
    | false => rw [if_neg Bool.false_ne_true] at q ⊢; exact hr.snd Wc hE H0 Z σ H1 S1 D k1 (f.step st1) q⟩
theorem vx_call {k j : Nat} {x : Str} {ps : List Str} {bad : List D → Addr → Prop} {e : Expr} {es : List Expr} {tr : TA} {vr : VTA} {p0 cpos : Pos} (T : ThrowsTo X Hin E) (F : HasX X.prog X.w X.K X.mg X.base k x ps bad) (hK : X.K = K) (hr : Room j X.A) (ha : VA K X false (e :: es) tr vr)
    (hk : k ≤ j := by decide) (hg : Gl X x := by rfl) (hdb : (x == ("__debug__" : Str)) = false := by decide) (he : starEach (e :: es) X.env = (false, eval e X.env) :: starEach es X.env := by rfl)
    (hpl : (backTo cpos (starEach es X.env)).any (·.1) = false := by rfl) (hs : swapsWith (.Call (.Name x p0) (e :: es) [] cpos) none pos.line X.env = pure false := by rfl) :
    VXs K X Hin E (.Expr (.Call (.Name x p0) (e :: es) [] cpos) pos :: rest) (tSeq (tDrop (tCall (spX K bad) [] (fun c _ H' => (∀ b, Hin b ≠ none → H' b = Hin b) ∧ E c none H') tr)) tNever) (fun Wc S => vr S fun rs S1 => ∃ ds C, gets S1 rs = some ds ∧ bad ds C ∧ Wc C) := by
  subst hK
  obtain ⟨f, fd, F, hm, kp, hb⟩ := F
  refine ⟨pss_cons (ps_expr (pe_call F (hr.mono hk) hg hm kp hb .nil (fun pins σ H s e s' I h => T.next pins σ H s e s' I h) ha.pe hdb he hpl) hs) pss_never, fun Wc hE H0 Z σ H S D k f h => ?_⟩
  refine ha.snd H0 Z σ H S _ _ k h fun vs H1 rs S1 k1 st1 rrs ⟨ds, C, e, hb, hw⟩ => ?_
  have f1 := f.step st1
  refine ⟨ds, C, by rw [List.append_nil]; exact rrs.gets k1 e, hb, fun H' g => ?_⟩
  have fr : ∀ b, Hin b ≠ none → H' b = Hin b := fun b e => by
    have q := (f1 b e).1
    rw [← q]
    exact g b (by rw [q]; exact e)
  exact ⟨fr, hE C hw H' fr⟩
theorem has_X {P : Program} {w : World} {mg : Str → Option Value} {base : Heap} {x : Str} {st : Stmt} {N ps : List Str} {k : Nat} {bad : List D → Addr → Prop} (S : Src K mg x st) (sc : FnScope N ps (defScope st))
    (hb : ∀ (kV doc pm : Value) (an : Option Addr) (cdv ct : Value) (us : List Value), us.length = ps.length → bindArgs (PySem.W.fnOf x x (defArgs st) (defBody st) (defScope st) .none kV doc pm an cdv ct) ⟨us, []⟩ = pure (ps.zip us))
    (len : ∀ ds C, bad ds C → ds.length = ps.length)
    (hbody : ∀ (f : Addr) (cdv : Value) (A : Around) (outer : List Env) (s : Shared) (H : Hp) (E : XK), Room k (A.deeper (PyProof.Rows.envOfC x (defScope st) s.heap.objs.size f cdv)) → ThrowsTo (cxOf (CX1 P w) P w K mg base N x (defScope st) f cdv A outer s H E) H E →
      ∃ ts t, VXs K (cxOf (CX1 P w) P w K mg base N x (defScope st) f cdv A outer s H E) H E (defBody st) ts t ∧ ∀ ds C, bad ds C → t (· = C) (slots N.length ds)) : HasX P w K mg base (k + 1) x ps bad := by
  obtain ⟨f, fd, F, hm⟩ := S
  obtain ⟨oc, od, kV, doc, pm, an, cdv, ct, osl, rfl, lk, hcd⟩ := F.ex
  refine ⟨f, _, fn_of lk hcd sc (fun vs H Q E zq1 => by obtain ⟨ds, C, r, h, _⟩ := zq1; rw [r.length]; exact len ds C h) fun A outer s H vs Q E hr ⟨ds, C, r, h, fin⟩ => ?_, hm, F.kp, F.binds hb⟩
  obtain ⟨ts, t, vx, q⟩ := hbody f cdv A outer s H E hr throws_of
  refine ⟨ts, vx.ps, vx.snd (· = C) (fun C' e H' g => by subst e; exact fin H' g) H _ _ H _ _ (ok_start (N := N) r) (fun a e => ⟨rfl, ?_⟩) (q ds C h)⟩
  rintro (⟨j, s, g1, g2, _⟩ | z)
  · rw [slots_nomut g1] at g2; cases g2
  · exact z
end
end VL
namespace VL
open PySem L2 PySem.W
section
variable {K : PySem.W.Frag} {H H0 : Hp} {Z : AP} {σ : St} {S : List Sl} {i : Nat}
theorem OK.letGo (k : OK K H0 Z σ H S) (hi : i < S.length) : OK K H0 Z (σ.set i none) H (S.set i .no) ∧ Step Z σ S H (σ.set i none) (S.set i .no) H := by
  have n : ∀ a, NM Z σ S a → NM Z (σ.set i none) (S.set i .no) a := fun a x z => by
    rcases mo_put z with z | ⟨z, _⟩
    · exact x z
    · cases z
  exact ⟨k.put hi (fun a x _ => ⟨n a x, rfl⟩) (fun _ _ _ _ _ _ _ => rfl) trivial (fun _ _ _ _ _ _ z => nomatch z) (fun _ e => e) k.zl (fun _ z => nomatch z), fun a x _ => ⟨rfl, n a x⟩, fun _ e => e, fun _ _ _ => rfl⟩
theorem NP.letGo {a : Addr} (h : NP σ S a) : NP (σ.set i none) (S.set i .no) a := fun j ad ns g1 g2 => by
  by_cases hj : i = j
  · subst hj
    by_cases hl : i < S.length
    · rw [List.getElem?_set_self hl] at g1; cases g1
    · rw [List.getElem?_eq_none (by simpa using hl)] at g1; cases g1
  · rw [List.getElem?_set_ne hj] at g1 g2
    exact h j ad ns g1 g2
def unV (V : VEnds) (i : Nat) : VEnds := { nx := fun S => i < S.length ∧ V.nx (S.set i .no), rt := fun d S => i < S.length ∧ V.rt d (S.set i .no), bk := fun S => i < S.length ∧ V.bk (S.set i .no), ct := fun S => i < S.length ∧ V.ct (S.set i .no) }
theorem Lf.letGo {V : VEnds} {E : Ends} (l : Lf K H0 Z σ S H V E) : Lf K H0 Z σ S H (unV V i) (unE E i) where
  nx := fun σ' H' S' k st ⟨hi, q⟩ => l.nx _ _ _ (k.letGo hi).1 (st.trans (k.letGo hi).2) q
  bk := fun σ' H' S' k st ⟨hi, q⟩ => l.bk _ _ _ (k.letGo hi).1 (st.trans (k.letGo hi).2) q
  ct := fun σ' H' S' k st ⟨hi, q⟩ => l.ct _ _ _ (k.letGo hi).1 (st.trans (k.letGo hi).2) q
  rt := fun v d σ' H' S' k st r ⟨hi, q⟩ => l.rt v d _ _ _ (k.letGo hi).1 (st.trans (k.letGo hi).2) (r.mono (fun a n _ => ⟨NP.letGo n, rfl⟩) fun _ x => x) q
end
section
variable {K : PySem.W.Frag} {X : Cx} {k j i : Nat} {CB : Addr} {ps : List Str} {bad : List D → Addr → Prop} {e0 : Expr} {es : List Expr} {tr : TA} {vr : VTA} {x cb en : Str} {b0 : Stmt} {suite : List Stmt} {th : TS} {vh : VTS} {p pos pe np hp tp : Pos}
end
end VL
end
section
set_option maxHeartbeats 4000000
namespace L2
open PySem PySem.Spec PyProof.Rows PySem.W
section
variable {X : Cx} {pos p1 p2 : Pos} {j1 j2 : Nat}
end
end L2
namespace VL
open PySem L2 PySem.W
section
variable {K : PySem.W.Frag} {X : Cx} {m : Bool} {e c : Expr} {te : TE} {va : VT} {pos : Pos} {i : Nat} {tc : TT} {wc : VTT} {t : TS} {v : VTS} {body : List Stmt}
end
end VL
namespace L2
open PySem PySem.Spec PyProof.Rows PySem.W
end L2
namespace VL
open PySem L2 PySem.W
section
variable {K : PySem.W.Frag} {X : Cx} {m : Bool} {e : Expr} {tr : TA} {vr : VTA} {pos p1 p2 pos2 : Pos}
end
end VL
namespace VL
open PySem L2 PySem.W
section
variable {i : Nat} {va : VT} {vr : VTA} {S : List Sl} {Q : VR → List Sl → Prop} {q : D → Prop}
theorem j_isiE {K : Frag} {c : Value} {C : Addr} {b : Bool} (e : S[i]? = some (.val (.exc (.ref C)))) (ok : excOk K C = true) (hk : kitOne K (.ref C) c = some b) (h : Q (.d (.bl b)) S) : vIsiE K i c S Q := ⟨C, b, e, ok, hk, h⟩
theorem j_isiT {K : Frag} {cs : List Addr} {C : Addr} {b : Bool} (e : S[i]? = some (.val (.exc (.ref C)))) (ok : excOk K C = true) (hk : kitAny K (.ref C) (cs.map Value.ref) = some b) (h : Q (.d (.bl b)) S) : vIsiT K i cs S Q := ⟨C, b, e, ok, hk, h⟩
end
end VL
namespace VL
open PySem L2 PySem.W
section
variable {K : PySem.W.Frag} {X : Cx} {m : Bool} {e : Expr} {te : TE} {va : VT} {pos pos' : Pos} {i : Nat} {x : Str}
theorem OK.setFre {H H0 : Hp} {Z : AP} {σ : St} {S : List Sl} (k : OK K H0 Z σ H S) {v : V} {d : D} (hi : i < S.length) (h : Rep K (NM Z σ S) (Fr H0) H v d) : OK K H0 Z (σ.set i (some v)) H (S.set i (.fre d)) ∧ Step Z σ S H (σ.set i (some v)) (S.set i (.fre d)) H := by
  have n : ∀ a, NM Z σ S a → NM Z (σ.set i (some v)) (S.set i (.fre d)) a := fun a x z => by
    rcases mo_put z with z | ⟨z, _⟩
    · exact x z
    · cases z
  exact ⟨k.put hi (fun a x _ => ⟨n a x, rfl⟩) (fun _ _ _ _ _ _ _ => rfl) ⟨v, rfl, h.mono (fun a x _ => ⟨n a x, rfl⟩) fun _ x => x⟩ (fun _ _ _ _ _ _ z => nomatch z) (fun _ e => e) k.zl (fun _ z => nomatch z), fun a x _ => ⟨rfl, n a x⟩, fun _ e => e, fun _ _ _ => rfl⟩
@[irreducible] def kSetF (i : Nat) (V : VEnds) : VR → List Sl → Prop := fun r S1 => ∃ d, r = .d d ∧ i < S1.length ∧ V.nx (S1.set i (.fre d))
def vSetF (i : Nat) (va : VT) : VTS := fun V S => va S (kSetF i V)
theorem j_setF {V : VEnds} {S : List Sl} (h : va S (kSetF i V)) : vSetF i va V S := h
theorem j_kSetF {V : VEnds} {S : List Sl} {d : D} (hi : i < S.length) (h : V.nx (S.set i (.fre d))) : kSetF i V (.d d) S := by unfold kSetF; exact ⟨d, rfl, hi, h⟩
theorem vs_setF (hN : X.N.Nodup) (hi : X.N[i]? = some x) (hx : Loc X.env.scope x) (h : VE K X true e te va) (hs : swapsWith e (some (.Name x pos')) pos.line X.env = pure false := by rfl)
    (hf : X.fn x = true ∨ X.env.scope.names.lookup x = some .local := by first | exact .inl rfl | exact .inr rfl | assumption) : VS K X (.Assign [.Name x pos'] e pos) (tAsg te (gName i)) (vSetF i va) :=
  ⟨ps_set hN hi hx h.pe hs hf, fun H0 Z σ H S V E k t l => h.snd H0 Z σ H S _ _ k t fun v H' r S' k' st rr q => by
    unfold kSetF at q
    obtain ⟨d, e, hi, q⟩ := q
    subst e
    have r : Rep K (NM Z σ S') (Fr H0) H' v d := (show Rep K (NM Z σ S') (FM H0 true) H' v d from rr).mono (fun _ n _ => ⟨n, rfl⟩) fun _ x => x rfl
    exact l.nx _ _ _ (k'.setFre hi r).1 (st.trans (k'.setFre hi r).2) q⟩
def vVarF (i : Nat) : VT := fun S Q => ∃ d, (S[i]? = some (.fre d) ∨ S[i]? = some (.val d) ∧ flat d = true) ∧ Q (.d d) S
theorem ve_varF (i : Nat) (h : PE X e (tVar i)) : VE K X m e (tVar i) (vVarF i) := ⟨h, fun H0 Z σ H S Q C k zq1 hc => by
  obtain ⟨d, h, q⟩ := zq1
  rcases h with h | ⟨h, hf⟩
  · obtain ⟨o, h1, v, rfl, r⟩ := k.ownAt h
    exact ⟨v, h1, hc _ _ (.d d) _ k .refl (show Rep K _ _ _ _ _ from r.mono (fun _ n _ => ⟨n, rfl⟩) fun _ x _ => x) q⟩
  · obtain ⟨o, h1, v, rfl, r⟩ := k.ownAt h
    exact ⟨v, h1, hc _ _ (.d d) _ k .refl (show Rep K _ _ _ _ _ from Rep.flat r hf) q⟩⟩
theorem j_varF {S : List Sl} {Q : VR → List Sl → Prop} {d : D} (h : S[i]? = some (.fre d) ∨ S[i]? = some (.val d) ∧ flat d = true) (q : Q (.d d) S) : vVarF i S Q := ⟨d, h, q⟩
end
end VL
namespace L2
open PySem PySem.Spec PyProof.Rows PySem.W
end L2
namespace VL
open PySem L2 PySem.W
end VL
namespace VL
open PySem L2 PySem.W
section
variable {K : PySem.W.Frag} {X : Cx} {a b : Expr} {ta tb : TE} {pos : Pos}
end
end VL
end
section
set_option maxHeartbeats 4000000
namespace L2
open PySem PySem.Spec PyProof.Rows PySem.W
section
variable {X : Cx}
end
section
variable {X : Cx}
end
end L2
namespace VL
open PySem L2 PySem.W
section
variable {X : Cx} {K : PySem.W.Frag} {m : Bool} {e : Expr} {te : TE} {va : VT} {pos : Pos}
end
section
variable {K : PySem.W.Frag} {X : Cx} {kx vx iter : Expr} {pos : Pos}
end
end VL
end
section
set_option maxHeartbeats 4000000
namespace L2
open PySem PySem.Spec PyProof.Rows PySem.W
section
variable {elt t1 i1 t2 i2 : Expr} {f1 f2 : List Expr} {scope : Scope} {pos : Pos}
end
section
variable {X : Cx}
end
end L2
namespace VL
open PySem L2 PySem.W
section
variable {K : PySem.W.Frag} {H H4 H0 : Hp} {Z : AP} {σ σ4 σ5 : St} {S S4 : List Sl}
end
section
variable {K : PySem.W.Frag} {X : Cx} {elt t1 i1 t2 i2 : Expr} {f1 f2 : List Expr} {scope : Scope} {pos : Pos}
end
end VL
end
section
set_option maxHeartbeats 4000000
namespace VL
open PySem L2 PySem.W
section
variable {va vb : VT} {vn : VTN} {S : List Sl} {Q : VR → List Sl → Prop} {i : Nat}
end
section
variable {α β : Type} {n : Nat} {ix : List Nat} {g g2 : VG} {vt vt2 : VTT} {vi vi2 : VTN} {ve vk vv : VT} {S : List Sl}
end
end VL
end
section
set_option maxHeartbeats 4000000
namespace L2
open PySem PySem.Spec PyProof.Rows PySem.W
section
variable {X : Cx}
end
end L2
namespace VL
open PySem L2 PySem.W
section
variable {K : PySem.W.Frag} {X : Cx} {a b : Expr} {ta tb : TE} {pos : Pos}
end
end VL
end
section
set_option maxHeartbeats 4000000
namespace Tim
open PySem PyProof.Rows
def gal : Bool → Keyed → Array Keyed → Nat → Nat → Nat → StateT SortSt Sem (Option Nat) := sortPriv% PySem.Builtin.gallop
def at_ (arr : Array Keyed) (i : Nat) : Keyed := arr.getD i (Value.none, Value.none)
theorem at_some {arr : Array Keyed} {i : Nat} (h : i < arr.size) : arr[i]? = some (at_ arr i) := by
  unfold at_; simp [Array.getD, h]
theorem at_congr {a b : Array Keyed} {i j : Nat} (h : a[i]? = b[j]?) : at_ a i = at_ b j := by
  unfold at_; rw [Array.getD_eq_getD_getElem?, Array.getD_eq_getD_getElem?, h]
def Asks (prog : Program) (w : World) (A : Around) (s : Shared) (κ : SortKind) (O : KeyOrd) (key : Keyed → O.α) (P : Keyed → Prop) : Prop :=
  ∀ (x y : Keyed) (C : Bool → Shared → Prop), P x → P y → C (O.blt (key x) (key y)) s → wpAny (model prog w) A (keyLt' κ x.1 y.1) C (fun _ _ => False) s
def bey {O : KeyOrd} (key : Keyed → O.α) (left : Bool) (x y : Keyed) : Bool := if left = true then O.blt (key y) (key x) else !O.blt (key x) (key y)
section
variable {prog : Program} {w : World} {A : Around} {E : Value → Shared → Prop} {s : Shared} {κ : SortKind} {O : KeyOrd} {key : Keyed → O.α} {P : Keyed → Prop}
theorem lt_ok (C : Asks prog w A s κ O key P) {x y : Keyed} {st : SortSt} {Q : Option Bool → SortSt → Prop} (hx : P x) (hy : P y) (hk : kindOf st = κ) (h : Q (some (O.blt (key x) (key y))) st) :
    wpS (model prog w) A E s (lt' x y) Q st := by
  rw [lt'_eq]
  refine wpS_bind (wpS_get ?_)
  rw [hk]
  refine wpS_bind (wpS_lift (wpAny_attempt (wpAny_mono (C x y (fun b s' => s' = s ∧ b = O.blt (key x) (key y)) hx hy ⟨rfl, rfl⟩) (fun b s' z => ⟨z.1, ?_⟩) fun _ _ z => z.elim)))
  rw [z.2]
  exact wpS_pure h
theorem elem_ok {arr : Array Keyed} {i : Nat} {st : SortSt} {Q : Keyed → SortSt → Prop} (e : i < arr.size) (h : Q (at_ arr i) st) : wpS (model prog w) A E s (elem' arr i) Q st := by
  rw [elem'_eq, at_some e]; exact wpS_pure h
theorem bey_ok (C : Asks prog w A s κ O key P) {left : Bool} {x : Keyed} {arr : Array Keyed} {i : Nat} {st : SortSt} {Q : Option Bool → SortSt → Prop} (e : i < arr.size) (hx : P x) (hy : P (at_ arr i)) (hk : kindOf st = κ)
    (h : Q (some (bey key left x (at_ arr i))) st) :
    wpS (model prog w) A E s (elem' arr i >>= fun y => if left = true then lt' y x else lt' x y >>= fun r => pure (Option.map (fun z => !z) r)) Q st := by
  refine wpS_bind (elem_ok e ?_)
  unfold bey at h
  cases left with
  | true => exact lt_ok C hy hx hk h
  | false => exact wpS_bind (lt_ok C hx hy hk (wpS_pure h))
theorem gal_ok (C : Asks prog w A s κ O key P) {left : Bool} {x : Keyed} {arr : Array Keyed} {base n hint : Nat} {st : SortSt} {Q : Option Nat → SortSt → Prop} (hk : kindOf st = κ) (hh : hint < n) (hz : base + n ≤ arr.size)
    (hP : ∀ i, i < n → P (at_ arr (base + i))) (hx : P x) (mono : ∀ i j, i ≤ j → j < n → bey key left x (at_ arr (base + j)) = true → bey key left x (at_ arr (base + i)) = true)
    (h : ∀ k, k ≤ n → (∀ i, i < k → bey key left x (at_ arr (base + i)) = true) → (∀ i, k ≤ i → i < n → bey key left x (at_ arr (base + i)) = false) → Q (some k) st) :
    wpS (model prog w) A E s (gal left x arr base n hint) Q st := by
  have B := fun i (hi : i < n) (R : Option Bool → SortSt → Prop) (r : R (some (bey key left x (at_ arr (base + i)))) st) => bey_ok (E := E) C (left := left) (show base + i < arr.size by lia) hx (hP i hi) hk r
  generalize eb : (fun i => bey key left x (at_ arr (base + i))) = b at *
  have eb' : ∀ i, bey key left x (at_ arr (base + i)) = b i := fun i => by rw [← eb]
  simp only [eb'] at *
  have anti : ∀ i j, i ≤ j → j < n → b i = false → b j = false := fun i j hij hj hi => by
    cases hj' : b j with
    | false => rfl
    | true => rw [mono i j hij hj hj'] at hi; cases hi
  delta gal
  refine wpS_bind (B hint hh _ ?_)
  dsimp only
  cases hb : b hint with
  | true =>
    rw [if_pos rfl]
    refine wpS_bind (wpS_mono (wpS_forRange (I := fun k c st' => st' = st ∧ ∃ ls os, c = (none, ls, os) ∧ ls < os ∧ k + 1 ≤ os ∧ hint + ls < n ∧ b (hint + ls) = true)
      (Q := fun c st' => st' = st ∧ ∃ ls os, c = (none, ls, os) ∧ ls < os ∧ hint + ls < n ∧ b (hint + ls) = true ∧ (n - hint ≤ os ∨ b (hint + os) = false)) ?step ?fin ⟨rfl, 0, 1, rfl, by lia, by lia, by lia, hb⟩) ?post)
    case fin =>
      rintro c st' ⟨rfl, ls, os, rfl, h1, h2, h3, h4⟩
      exact ⟨rfl, ls, os, rfl, h1, h3, h4, .inl (by lia)⟩
    case step =>
      rintro k c st' _ hkn ⟨rfl, ls, os, rfl, h1, h2, h3, h4⟩
      dsimp only
      by_cases hge : os ≥ n - hint
      · rw [if_pos hge]; exact wpS_pure ⟨rfl, ls, os, rfl, h1, h3, h4, .inl hge⟩
      · rw [if_neg hge]
        refine wpS_bind (B (hint + os) (by lia) _ ?_)
        dsimp only
        cases ho : b (hint + os) with
        | true => exact wpS_pure ⟨rfl, os, 2 * os + 1, rfl, by lia, by lia, by lia, ho⟩
        | false => exact wpS_pure ⟨rfl, ls, os, rfl, h1, h3, h4, .inr ho⟩
    case post =>
      rintro c st' ⟨rfl, ls, os, rfl, h1, h3, h4, h5⟩
      dsimp only
      refine wpS_bind (wpS_mono (wpS_forRange (I := fun k c st'' => st'' = st' ∧ ∃ lo hi, c = (none, lo, hi) ∧ lo ≤ hi ∧ hi ≤ n ∧ hi - lo ≤ n - k ∧ (∀ i, i < lo → b i = true) ∧ (∀ i, hi ≤ i → i < n → b i = false))
        (Q := fun c st'' => st'' = st' ∧ ∃ k, c = (none, k, k) ∧ k ≤ n ∧ (∀ i, i < k → b i = true) ∧ (∀ i, k ≤ i → i < n → b i = false)) ?step ?fin ?init) ?post)
      case init =>
        refine ⟨rfl, _, _, rfl, by lia, by lia, by lia, fun i hi => mono i _ (by lia) h3 h4, fun i hi hn => ?_⟩
        rcases h5 with h5 | h5
        · lia
        · by_cases hge : n - hint ≤ os
          · lia
          · exact anti _ i (by lia) hn h5
      case post =>
        rintro c st'' ⟨rfl, k, rfl, z1, z2, z3⟩
        exact wpS_pure (h k z1 z2 z3)
      case fin =>
        rintro c st'' ⟨rfl, lo, hi, rfl, a1, a2, a3, a4, a5⟩
        have : lo = hi := by lia
        subst this
        exact ⟨rfl, lo, rfl, a2, a4, a5⟩
      case step =>
        rintro k c st'' _ hkn ⟨rfl, lo, hi, rfl, a1, a2, a3, a4, a5⟩
        dsimp only
        by_cases hge : lo ≥ hi
        · rw [if_pos hge]
          have : lo = hi := by lia
          subst this
          exact wpS_pure ⟨rfl, lo, rfl, a2, a4, a5⟩
        · rw [if_neg hge]
          refine wpS_bind (B (lo + (hi - lo) / 2) (by lia) _ ?_)
          dsimp only
          cases ho : b (lo + (hi - lo) / 2) with
          | true => exact wpS_pure ⟨rfl, _, _, rfl, by lia, a2, by lia, fun i hi => mono i _ (by lia) (by lia) ho, a5⟩
          | false => exact wpS_pure ⟨rfl, _, _, rfl, by lia, by lia, by lia, a4, fun i h1 h2 => anti _ i h1 h2 ho⟩
  | false =>
    rw [if_neg (by simp)]
    refine wpS_bind (wpS_mono (wpS_forRange (I := fun k c st' => st' = st ∧ ∃ ls os, c = (none, ls, os) ∧ ls < os ∧ k + 1 ≤ os ∧ ls ≤ hint ∧ b (hint - ls) = false)
      (Q := fun c st' => st' = st ∧ ∃ ls os, c = (none, ls, os) ∧ ls < os ∧ ls ≤ hint ∧ b (hint - ls) = false ∧ (hint + 1 ≤ os ∨ (os ≤ hint ∧ b (hint - os) = true))) ?step ?fin ⟨rfl, 0, 1, rfl, by lia, by lia, by lia, hb⟩) ?post)
    case fin =>
      rintro c st' ⟨rfl, ls, os, rfl, h1, h2, h3, h4⟩
      exact ⟨rfl, ls, os, rfl, h1, h3, h4, .inl (by lia)⟩
    case step =>
      rintro k c st' _ hkn ⟨rfl, ls, os, rfl, h1, h2, h3, h4⟩
      dsimp only
      by_cases hge : os ≥ hint + 1
      · rw [if_pos hge]; exact wpS_pure ⟨rfl, ls, os, rfl, h1, h3, h4, .inl hge⟩
      · rw [if_neg hge]
        refine wpS_bind (B (hint - os) (by lia) _ ?_)
        dsimp only
        cases ho : b (hint - os) with
        | true => exact wpS_pure ⟨rfl, ls, os, rfl, h1, h3, h4, .inr ⟨by lia, ho⟩⟩
        | false => exact wpS_pure ⟨rfl, os, 2 * os + 1, rfl, by lia, by lia, by lia, ho⟩
    case post =>
      rintro c st' ⟨rfl, ls, os, rfl, h1, h3, h4, h5⟩
      dsimp only
      refine wpS_bind (wpS_mono (wpS_forRange (I := fun k c st'' => st'' = st' ∧ ∃ lo hi, c = (none, lo, hi) ∧ lo ≤ hi ∧ hi ≤ n ∧ hi - lo ≤ n - k ∧ (∀ i, i < lo → b i = true) ∧ (∀ i, hi ≤ i → i < n → b i = false))
        (Q := fun c st'' => st'' = st' ∧ ∃ k, c = (none, k, k) ∧ k ≤ n ∧ (∀ i, i < k → b i = true) ∧ (∀ i, k ≤ i → i < n → b i = false)) ?step ?fin ?init) ?post)
      case init =>
        refine ⟨rfl, _, _, rfl, by lia, by lia, by lia, fun i hi => ?_, fun i hi hn => anti _ i hi hn h4⟩
        rcases h5 with h5 | h5
        · lia
        · exact mono i _ (by lia) (by lia) h5.2
      case post =>
        rintro c st'' ⟨rfl, k, rfl, z1, z2, z3⟩
        exact wpS_pure (h k z1 z2 z3)
      case fin =>
        rintro c st'' ⟨rfl, lo, hi, rfl, a1, a2, a3, a4, a5⟩
        have : lo = hi := by lia
        subst this
        exact ⟨rfl, lo, rfl, a2, a4, a5⟩
      case step =>
        rintro k c st'' _ hkn ⟨rfl, lo, hi, rfl, a1, a2, a3, a4, a5⟩
        dsimp only
        by_cases hge : lo ≥ hi
        · rw [if_pos hge]
          have : lo = hi := by lia
          subst this
          exact wpS_pure ⟨rfl, lo, rfl, a2, a4, a5⟩
        · rw [if_neg hge]
          refine wpS_bind (B (lo + (hi - lo) / 2) (by lia) _ ?_)
          dsimp only
          cases ho : b (lo + (hi - lo) / 2) with
          | true => exact wpS_pure ⟨rfl, _, _, rfl, by lia, a2, by lia, fun i hi => mono i _ (by lia) (by lia) ho, a5⟩
          | false => exact wpS_pure ⟨rfl, _, _, rfl, by lia, by lia, by lia, a4, fun i h1 h2 => anti _ i h1 h2 ho⟩
end
end Tim
end
section
set_option maxHeartbeats 4000000
namespace Tim
open PySem PyProof.Rows
section
variable {α : Type} {le : α → α → Prop}
structure MI (le : α → α → Prop) (A B out : List α) (ia ib : Nat) : Prop where
  perm : out.Perm (A.take ia ++ B.take ib)
  srt : out.Pairwise le
  la : ∀ x ∈ out, ∀ y ∈ A.drop ia, le x y
  lb : ∀ x ∈ out, ∀ y ∈ B.drop ib, le x y
def Res (le : α → α → Prop) (A B r : List α) : Prop := r.Perm (A ++ B) ∧ r.Pairwise le
theorem MI.pushA {A B out : List α} {ia ib k : Nat} (sA : A.Pairwise le) (M : MI le A B out ia ib) (h : ∀ x ∈ (A.drop ia).take k, ∀ y ∈ B.drop ib, le x y) : MI le A B (out ++ (A.drop ia).take k) (ia + k) ib := by
  have sD : ((A.drop ia).take k ++ (A.drop ia).drop k).Pairwise le := by rw [List.take_append_drop]; exact sA.drop
  have eD : A.drop (ia + k) = (A.drop ia).drop k := by rw [List.drop_drop]
  rw [List.pairwise_append] at sD
  refine ⟨?_, ?_, ?_, ?_⟩
  · rw [List.take_add, List.append_assoc]
    refine (M.perm.append_right _).trans ?_
    rw [List.append_assoc]
    exact List.Perm.append_left _ List.perm_append_comm
  · exact List.pairwise_append.mpr ⟨M.srt, sD.1, fun x hx y hy => M.la x hx y (List.mem_of_mem_take hy)⟩
  · intro x hx y hy
    rw [eD] at hy
    rcases List.mem_append.mp hx with hx | hx
    · exact M.la x hx y (List.mem_of_mem_drop hy)
    · exact sD.2.2 x hx y hy
  · intro x hx y hy
    rcases List.mem_append.mp hx with hx | hx
    · exact M.lb x hx y hy
    · exact h x hx y hy
theorem MI.swap {A B out : List α} {ia ib : Nat} (M : MI le A B out ia ib) : MI le B A out ib ia := ⟨M.perm.trans List.perm_append_comm, M.srt, M.lb, M.la⟩
theorem MI.pushB {A B out : List α} {ia ib k : Nat} (sB : B.Pairwise le) (M : MI le A B out ia ib) (h : ∀ x ∈ (B.drop ib).take k, ∀ y ∈ A.drop ia, le x y) : MI le A B (out ++ (B.drop ib).take k) ia (ib + k) :=
  (M.swap.pushA sB h).swap
theorem MI.done {A B out : List α} {ia ib : Nat} (sA : A.Pairwise le) (sB : B.Pairwise le) (M : MI le A B out ia ib) (h : A.drop ia = [] ∨ B.drop ib = []) : Res le A B (out ++ A.drop ia ++ B.drop ib) := by
  refine ⟨?_, ?_⟩
  · rw [List.append_assoc]
    refine (M.perm.append_right _).trans ?_
    conv => rhs; rw [← List.take_append_drop ia A, ← List.take_append_drop ib B]
    rw [List.append_assoc, List.append_assoc]
    refine List.Perm.append_left _ ?_
    rw [← List.append_assoc, ← List.append_assoc]
    exact List.Perm.append_right _ List.perm_append_comm
  · rw [List.append_assoc]
    refine List.pairwise_append.mpr ⟨M.srt, ?_, fun x hx y hy => ?_⟩
    · rcases h with h | h
      · rw [h]; exact sB.drop
      · rw [h, List.append_nil]; exact sA.drop
    · rcases List.mem_append.mp hy with hy | hy
      · exact M.la x hx y hy
      · exact M.lb x hx y hy
theorem MI.last {A B out : List α} {ia ib : Nat} (sA : A.Pairwise le) (sB : B.Pairwise le) (M : MI le A B out ia ib) (h : ∀ x ∈ B, ∀ y ∈ A.drop ia, le x y) : Res le A B (out ++ B.drop ib ++ A.drop ia) := by
  refine ⟨?_, ?_⟩
  · rw [List.append_assoc]
    refine (M.perm.append_right _).trans ?_
    conv => rhs; rw [← List.take_append_drop ia A, ← List.take_append_drop ib B]
    rw [List.append_assoc, List.append_assoc]
    refine List.Perm.append_left _ ?_
    rw [← List.append_assoc]
    exact List.perm_append_comm
  · rw [List.append_assoc]
    refine List.pairwise_append.mpr ⟨M.srt, List.pairwise_append.mpr ⟨sB.drop, sA.drop, fun x hx y hy => h x (List.mem_of_mem_drop hx) y hy⟩, fun x hx y hy => ?_⟩
    rcases List.mem_append.mp hy with hy | hy
    · exact M.lb x hx y hy
    · exact M.la x hx y hy
structure MH (le : α → α → Prop) (A B R : List α) (na nb : Nat) : Prop where
  perm : R.Perm (A.drop na ++ B.drop nb)
  srt : R.Pairwise le
  la : ∀ x ∈ A.take na, ∀ y ∈ R, le x y
  lb : ∀ x ∈ B.take nb, ∀ y ∈ R, le x y
theorem MH.swap {A B R : List α} {na nb : Nat} (M : MH le A B R na nb) : MH le B A R nb na := ⟨M.perm.trans List.perm_append_comm, M.srt, M.lb, M.la⟩
theorem MH.pushA {A B R : List α} {na nb k : Nat} (sA : A.Pairwise le) (hk : k ≤ na) (M : MH le A B R na nb) (h : ∀ x ∈ B.take nb, ∀ y ∈ (A.take na).drop k, le x y) : MH le A B ((A.take na).drop k ++ R) k nb := by
  have sD : ((A.take na).take k ++ (A.take na).drop k).Pairwise le := by rw [List.take_append_drop]; exact sA.take
  have eT : A.take k = (A.take na).take k := by rw [List.take_take, Nat.min_eq_left hk]
  have eD : A.drop k = (A.take na).drop k ++ A.drop na := by
    conv => lhs; rw [← List.take_append_drop na A]
    rw [List.drop_append]
    by_cases hz : na ≤ A.length
    · rw [show k - (A.take na).length = 0 by rw [List.length_take]; lia]; rfl
    · rw [List.drop_eq_nil_of_le (show A.length ≤ na by lia)]; simp
  rw [List.pairwise_append] at sD
  refine ⟨?_, ?_, ?_, ?_⟩
  · rw [eD, List.append_assoc]
    exact List.Perm.append_left _ M.perm
  · exact List.pairwise_append.mpr ⟨sD.2.1, M.srt, fun x hx y hy => M.la x (List.mem_of_mem_drop hx) y hy⟩
  · intro x hx y hy
    rw [eT] at hx
    rcases List.mem_append.mp hy with hy | hy
    · exact sD.2.2 x hx y hy
    · exact M.la x (List.mem_of_mem_take hx) y hy
  · intro x hx y hy
    rcases List.mem_append.mp hy with hy | hy
    · exact h x hx y hy
    · exact M.lb x hx y hy
theorem MH.pushB {A B R : List α} {na nb k : Nat} (sB : B.Pairwise le) (hk : k ≤ nb) (M : MH le A B R na nb) (h : ∀ x ∈ A.take na, ∀ y ∈ (B.take nb).drop k, le x y) : MH le A B ((B.take nb).drop k ++ R) na k :=
  (M.swap.pushA sB hk h).swap
theorem MH.done {A B R : List α} {na nb : Nat} (sA : A.Pairwise le) (sB : B.Pairwise le) (M : MH le A B R na nb) (h : A.take na = [] ∨ B.take nb = []) : Res le A B (A.take na ++ B.take nb ++ R) := by
  refine ⟨?_, ?_⟩
  · refine (M.perm.append_left _).trans ?_
    conv => rhs; rw [← List.take_append_drop na A, ← List.take_append_drop nb B]
    rw [List.append_assoc, List.append_assoc]
    refine List.Perm.append_left _ ?_
    rw [← List.append_assoc, ← List.append_assoc]
    exact List.Perm.append_right _ List.perm_append_comm
  · refine List.pairwise_append.mpr ⟨?_, M.srt, fun x hx y hy => ?_⟩
    · rcases h with h | h
      · rw [h]; exact sB.take
      · rw [h, List.append_nil]; exact sA.take
    · rcases List.mem_append.mp hx with hx | hx
      · exact M.la x hx y hy
      · exact M.lb x hx y hy
theorem MH.first {A B R : List α} {na nb : Nat} (sA : A.Pairwise le) (sB : B.Pairwise le) (M : MH le A B R na nb) (h : ∀ x ∈ B.take nb, ∀ y ∈ A, le x y) : Res le A B (B.take nb ++ A.take na ++ R) := by
  refine ⟨?_, ?_⟩
  · refine (M.perm.append_left _).trans ?_
    conv => rhs; rw [← List.take_append_drop na A, ← List.take_append_drop nb B]
    rw [← List.append_assoc, ← List.append_assoc]
    refine List.Perm.append_right _ ?_
    rw [List.append_assoc, List.append_assoc]
    exact List.perm_append_comm.trans (by rw [List.append_assoc])
  · refine List.pairwise_append.mpr ⟨List.pairwise_append.mpr ⟨sB.take, sA.take, fun x hx y hy => h x hx y (List.mem_of_mem_take hy)⟩, M.srt, fun x hx y hy => ?_⟩
    rcases List.mem_append.mp hx with hx | hx
    · exact M.lb x hx y hy
    · exact M.la x hx y hy
theorem drop_take_one {l : List α} {i : Nat} (d : α) (h : i < l.length) : (l.drop i).take 1 = [l.getD i d] := by
  rw [List.drop_eq_getElem_cons h, List.take_succ_cons, List.take_zero, List.getD_eq_getElem?_getD, List.getElem?_eq_getElem h]; rfl
theorem take_drop_one {l : List α} {i : Nat} (d : α) (h : i < l.length) : (l.take (i + 1)).drop i = [l.getD i d] := by
  rw [List.take_add_one, List.drop_append, List.drop_eq_nil_of_le (by simp; lia)]
  simp [h, Nat.min_eq_left (Nat.le_of_lt h)]
end
end Tim
end
section
set_option maxHeartbeats 4000000
namespace Tim
open PySem PyProof.Rows
def mlo : Array Keyed → Array Keyed → StateT SortSt Sem (Array Keyed) := sortPriv% PySem.Builtin.mergeLo
def Same (st st' : SortSt) : Prop := kindOf st' = kindOf st ∧ arrOf st' = arrOf st ∧ pendingOf st' = pendingOf st ∧ failedOf st' = failedOf st
theorem Same.rfl' {st : SortSt} : Same st st := ⟨rfl, rfl, rfl, rfl⟩
theorem ex_all (a : Array Keyed) (i : Nat) : (a.extract i a.size).toList = a.toList.drop i := by
  simp only [Array.toList_extract, List.extract_eq_take_drop]; exact List.take_of_length_le (by simp)
theorem ex_k (a : Array Keyed) (i k : Nat) : (a.extract i (i + k)).toList = (a.toList.drop i).take k := by simp [List.extract_eq_take_drop]
abbrev kl {O : KeyOrd} (key : Keyed → O.α) : Keyed → Keyed → Prop := fun x y => O.kle (key x) (key y)
theorem at_toList {a : Array Keyed} {i : Nat} (h : i < a.size) : a.toList[i]? = some (at_ a i) := by rw [Array.getElem?_toList]; exact at_some h
theorem at_mem {a : Array Keyed} {i : Nat} (h : i < a.size) : at_ a i ∈ a.toList := List.mem_of_getElem? (at_toList h)
theorem getD_at {a : Array Keyed} {i : Nat} (h : i < a.size) : a.toList.getD i (Value.none, Value.none) = at_ a i := by rw [List.getD_eq_getElem?_getD, at_toList h]; rfl
theorem mem_dt {a : Array Keyed} {i k : Nat} {x : Keyed} (h : x ∈ (a.toList.drop i).take k) : ∃ j, j < k ∧ i + j < a.size ∧ x = at_ a (i + j) := by
  obtain ⟨j, hj, e⟩ := List.getElem_of_mem h
  have hj' : j < k ∧ j < a.size - i := by simpa [Nat.lt_min] using hj
  refine ⟨j, hj'.1, by lia, ?_⟩
  have e2 : a.toList[i + j]? = some x := by
    rw [← e]
    simp only [List.getElem_take, List.getElem_drop]
    exact List.getElem?_eq_getElem _
  rw [at_toList (by lia)] at e2
  exact (Option.some.inj e2).symm
theorem mem_d {a : Array Keyed} {i : Nat} {x : Keyed} (h : x ∈ a.toList.drop i) : ∃ j, i + j < a.size ∧ x = at_ a (i + j) := by
  obtain ⟨j, _, h2, h3⟩ := mem_dt (k := (a.toList.drop i).length) (by rw [List.take_length]; exact h)
  exact ⟨j, h2, h3⟩
section
variable {prog : Program} {w : World} {A : Around} {E : Value → Shared → Prop} {s : Shared} {κ : SortKind} {O : KeyOrd} {key : Keyed → O.α} {P : Keyed → Prop}
theorem srt_at {a : Array Keyed} (h : a.toList.Pairwise (kl key)) {i j : Nat} (hij : i ≤ j) (hj : j < a.size) : kl key (at_ a i) (at_ a j) := by
  by_cases e : i = j
  · subst e; exact KeyOrd.kle_refl _
  · have q := List.pairwise_iff_getElem.mp h i j (by simp; lia) (by simpa using hj) (by lia)
    have e1 : a.toList[i]'(by simp; lia) = at_ a i := by have := at_toList (a := a) (i := i) (by lia); rw [List.getElem?_eq_getElem (by simp; lia)] at this; exact Option.some.inj this
    have e2 : a.toList[j]'(by simpa using hj) = at_ a j := by have := at_toList (a := a) (i := j) hj; rw [List.getElem?_eq_getElem (by simpa using hj)] at this; exact Option.some.inj this
    rw [e1, e2] at q
    exact q
theorem srt_drop {a : Array Keyed} (h : a.toList.Pairwise (kl key)) {i : Nat} {y : Keyed} (hy : y ∈ a.toList.drop i) : kl key (at_ a i) y := by
  obtain ⟨j, hj, rfl⟩ := mem_d hy
  exact srt_at h (by lia) hj
theorem bf_le {x y : Keyed} (h : bey key false x y = true) : kl key y x := by
  have : (!O.blt (key x) (key y)) = true := h
  show O.blt (key x) (key y) = false
  simpa using this
theorem bf_gt {x y : Keyed} (h : bey key false x y = false) : O.klt (key x) (key y) := by
  have : (!O.blt (key x) (key y)) = false := h
  show O.blt (key x) (key y) = true
  simpa using this
theorem bt_lt {x y : Keyed} (h : bey key true x y = true) : O.klt (key y) (key x) := h
theorem bt_ge {x y : Keyed} (h : bey key true x y = false) : kl key x y := h
theorem mono_bf {a : Array Keyed} (h : a.toList.Pairwise (kl key)) {x : Keyed} {base n : Nat} (hz : base + n ≤ a.size) : ∀ i j, i ≤ j → j < n → bey key false x (at_ a (base + j)) = true → bey key false x (at_ a (base + i)) = true := fun i j hij hj q => by
  have q := bf_le q
  have : kl key (at_ a (base + i)) x := KeyOrd.kle_trans (srt_at h (by lia) (by lia)) q
  show (!O.blt (key x) (key (at_ a (base + i)))) = true
  rw [show O.blt (key x) (key (at_ a (base + i))) = false from this]; rfl
theorem mono_bt {a : Array Keyed} (h : a.toList.Pairwise (kl key)) {x : Keyed} {base n : Nat} (hz : base + n ≤ a.size) : ∀ i j, i ≤ j → j < n → bey key true x (at_ a (base + j)) = true → bey key true x (at_ a (base + i)) = true := fun i j hij hj q =>
  KeyOrd.klt_of_kle_of_klt (srt_at h (show base + i ≤ base + j by lia) (by lia)) (bt_lt q)
theorem mlo_ok (C : Asks prog w A s κ O key P) {a b : Array Keyed} {st : SortSt} {Q : Array Keyed → SortSt → Prop} (hk : kindOf st = κ) (ha : 0 < a.size) (hb : 0 < b.size) (Pa : ∀ x ∈ a.toList, P x) (Pb : ∀ x ∈ b.toList, P x)
    (sA : a.toList.Pairwise (kl key)) (sB : b.toList.Pairwise (kl key)) (h0 : ∀ y ∈ a.toList, kl key (at_ b 0) y) (hl : ∀ x ∈ b.toList, kl key x (at_ a (a.size - 1)))
    (h : ∀ r st', Same st st' → Res (kl key) a.toList b.toList r.toList → Q r st') : wpS (model prog w) A E s (mlo a b) Q st := by
  have pa : ∀ i, i < a.size → P (at_ a i) := fun i hi => Pa _ (at_mem hi)
  have pb : ∀ i, i < b.size → P (at_ b i) := fun i hi => Pb _ (at_mem hi)
  have M0 : MI (kl key) a.toList b.toList (#[at_ b 0] : Array Keyed).toList 0 1 := by
    refine ⟨?_, ?_, ?_, ?_⟩
    · have e : b.toList.take 1 = [at_ b 0] := by have := drop_take_one (l := b.toList) (i := 0) (Value.none, Value.none) (by simpa using hb); rw [List.drop_zero, getD_at hb] at this; exact this
      rw [e]; simp
    · simp
    · intro x hx y hy
      have : x = at_ b 0 := by simpa using hx
      subst this; exact h0 y (List.mem_of_mem_drop hy)
    · intro x hx y hy
      have : x = at_ b 0 := by simpa using hx
      subst this
      obtain ⟨j, hj, rfl⟩ := mem_d hy
      exact srt_at sB (by lia) hj
  have dn : ∀ {out : Array Keyed} {ia ib : Nat}, MI (kl key) a.toList b.toList out.toList ia ib → (a.size ≤ ia ∨ b.size ≤ ib) → Res (kl key) a.toList b.toList (out ++ a.extract ia a.size ++ b.extract ib b.size).toList := fun M hh => by
    rw [Array.toList_append, Array.toList_append, ex_all, ex_all]
    exact M.done sA sB (hh.imp (fun z => List.drop_eq_nil_of_le (by simpa using z)) fun z => List.drop_eq_nil_of_le (by simpa using z))
  have la : ∀ {out : Array Keyed} {ia ib : Nat}, MI (kl key) a.toList b.toList out.toList ia ib → ia + 1 = a.size → Res (kl key) a.toList b.toList (out ++ b.extract ib b.size ++ a.extract ia a.size).toList := fun {out ia ib} M hh => by
    rw [Array.toList_append, Array.toList_append, ex_all, ex_all]
    refine M.last sA sB fun x hx y hy => ?_
    obtain ⟨j, hj, rfl⟩ := mem_d hy
    have := hl x hx
    rwa [show a.size - 1 = ia + j by lia] at this
  have p1A : ∀ {out : Array Keyed} {ia ib : Nat}, MI (kl key) a.toList b.toList out.toList ia ib → ia < a.size → (∀ y ∈ b.toList.drop ib, kl key (at_ a ia) y) → MI (kl key) a.toList b.toList (out.push (at_ a ia)).toList (ia + 1) ib := fun {out ia ib} M hi q => by
    have e := drop_take_one (l := a.toList) (i := ia) (Value.none, Value.none) (by simpa using hi)
    rw [getD_at hi] at e
    have := M.pushA (k := 1) sA (by rw [e]; intro x hx y hy; rw [List.mem_singleton] at hx; subst hx; exact q y hy)
    rw [e] at this
    rw [Array.toList_push]; exact this
  have p1B : ∀ {out : Array Keyed} {ia ib : Nat}, MI (kl key) a.toList b.toList out.toList ia ib → ib < b.size → (∀ y ∈ a.toList.drop ia, kl key (at_ b ib) y) → MI (kl key) a.toList b.toList (out.push (at_ b ib)).toList ia (ib + 1) := fun {out ia ib} M hi q => by
    have e := drop_take_one (l := b.toList) (i := ib) (Value.none, Value.none) (by simpa using hi)
    rw [getD_at hi] at e
    have := M.pushB (k := 1) sB (by rw [e]; intro x hx y hy; rw [List.mem_singleton] at hx; subst hx; exact q y hy)
    rw [e] at this
    rw [Array.toList_push]; exact this
  have pkA : ∀ {out : Array Keyed} {ia ib k : Nat}, MI (kl key) a.toList b.toList out.toList ia ib → (∀ i, i < k → kl key (at_ a (ia + i)) (at_ b ib)) → MI (kl key) a.toList b.toList (out ++ a.extract ia (ia + k)).toList (ia + k) ib := fun {out ia ib k} M q => by
    rw [Array.toList_append, ex_k]
    refine M.pushA sA fun x hx y hy => ?_
    obtain ⟨j, hj, _, rfl⟩ := mem_dt hx
    exact KeyOrd.kle_trans (q j hj) (srt_drop sB hy)
  have pkB : ∀ {out : Array Keyed} {ia ib k : Nat}, MI (kl key) a.toList b.toList out.toList ia ib → (∀ i, i < k → O.klt (key (at_ b (ib + i))) (key (at_ a ia))) → MI (kl key) a.toList b.toList (out ++ b.extract ib (ib + k)).toList ia (ib + k) := fun {out ia ib k} M q => by
    rw [Array.toList_append, ex_k]
    refine M.pushB sB fun x hx y hy => ?_
    obtain ⟨j, hj, _, rfl⟩ := mem_dt hx
    exact KeyOrd.kle_trans (KeyOrd.kle_of_klt (q j hj)) (srt_drop sA hy)
  delta mlo
  refine wpS_bind (wpS_lift (wpAny_rule ⟨rfl, ?_⟩))
  dsimp only
  refine wpS_bind (elem_ok hb ?_)
  by_cases e1 : 1 = b.size
  · rw [if_pos (by simpa using e1)]
    exact wpS_pure (h _ _ Same.rfl' (dn M0 (.inr (by lia))))
  rw [if_neg (by simpa using e1)]
  by_cases e2 : 0 + 1 = a.size
  · rw [if_pos (by simpa using e2)]
    exact wpS_pure (h _ _ Same.rfl' (la M0 e2))
  rw [if_neg (by simpa using e2)]
  refine wpS_bind (wpS_get ?_)
  refine wpS_bind (wpS_mono (wpS_forRange (I := fun x c st' => Same st st' ∧ ∃ (out : Array Keyed) (ia ib mg : Nat), c = (none, out, ia, ib, mg) ∧ MI (kl key) a.toList b.toList out.toList ia ib ∧ ia + 1 < a.size ∧ ib < b.size ∧ x + 1 ≤ ia + ib)
    (Q := fun c st' => Same st st' ∧ ∃ (r : Array Keyed) (z : Array Keyed × Nat × Nat × Nat), c = (some r, z) ∧ Res (kl key) a.toList b.toList r.toList) ?step ?fin ⟨Same.rfl', _, 0, 1, _, rfl, M0, by lia, by lia, by lia⟩) ?post)
  case post =>
    rintro c st' ⟨S, r, z, rfl, R⟩
    exact wpS_pure (h r st' S R)
  case fin =>
    rintro c st' ⟨S, out, ia, ib, mg, rfl, M, h1, h2, h3⟩
    lia
  case step =>
    rintro x c st' _ hx ⟨S, out, ia, ib, mg, rfl, M, h1, h2, h3⟩
    dsimp only
    refine wpS_bind (wpS_mono (wpS_forRange (I := fun y c st'' => Same st st'' ∧ ∃ (out : Array Keyed) (ia' ib' ac bc : Nat), c = (none, out, ia', ib', ac, bc) ∧ MI (kl key) a.toList b.toList out.toList ia' ib' ∧ ia' + 1 < a.size ∧ ib' < b.size ∧ ia + ib + y ≤ ia' + ib')
      (Q := fun c st'' => Same st st'' ∧ ((∃ (r : Array Keyed) (z : Array Keyed × Nat × Nat × Nat × Nat), c = (some r, z) ∧ Res (kl key) a.toList b.toList r.toList) ∨
        ∃ (out : Array Keyed) (ia' ib' ac bc : Nat), c = (none, out, ia', ib', ac, bc) ∧ MI (kl key) a.toList b.toList out.toList ia' ib' ∧ ia' + 1 < a.size ∧ ib' < b.size ∧ ia + ib + 1 ≤ ia' + ib')) ?s1 ?f1 ⟨S, out, ia, ib, 0, 0, rfl, M, h1, h2, by lia⟩) ?p1)
    case f1 =>
      rintro c st2 ⟨S, out, ia', ib', ac, bc, rfl, M, h1, h2, h3⟩
      exact ⟨S, .inr ⟨out, ia', ib', ac, bc, rfl, M, h1, h2, by lia⟩⟩
    case s1 =>
      rintro y c st2 _ hy ⟨S, out, ia', ib', ac, bc, rfl, M, h1, h2, h3⟩
      dsimp only
      refine wpS_bind (elem_ok h2 (wpS_bind (elem_ok (show ia' < a.size by lia) (wpS_bind (lt_ok C (pb _ h2) (pa _ (by lia)) (S.1.trans hk) ?_)))))
      dsimp only
      cases hc : O.blt (key (at_ b ib')) (key (at_ a ia')) with
      | true =>
        rw [if_pos rfl]
        refine wpS_bind (elem_ok h2 ?_)
        have M1 := p1B M h2 fun y hy => KeyOrd.kle_trans (KeyOrd.kle_of_klt hc) (srt_drop sA hy)
        by_cases e : ib' + 1 = b.size
        · rw [if_pos (by simpa using e)]
          exact wpS_pure ⟨S, .inl ⟨_, _, rfl, dn M1 (.inr (by lia))⟩⟩
        · rw [if_neg (by simpa using e)]
          split
          · exact wpS_pure ⟨S, .inr ⟨_, _, _, _, _, rfl, M1, h1, by lia, by lia⟩⟩
          · exact wpS_pure ⟨S, _, _, _, _, _, rfl, M1, h1, by lia, by lia⟩
      | false =>
        rw [if_neg (by simp)]
        refine wpS_bind (elem_ok (show ia' < a.size by lia) ?_)
        have M1 := p1A M (by lia) fun y hy => KeyOrd.kle_trans (show kl key (at_ a ia') (at_ b ib') from hc) (srt_drop sB hy)
        by_cases e : ia' + 1 + 1 = a.size
        · rw [if_pos (by simpa using e)]
          exact wpS_pure ⟨S, .inl ⟨_, _, rfl, la M1 e⟩⟩
        · rw [if_neg (by simpa using e)]
          split
          · exact wpS_pure ⟨S, .inr ⟨_, _, _, _, _, rfl, M1, by lia, by lia, by lia⟩⟩
          · exact wpS_pure ⟨S, _, _, _, _, _, rfl, M1, by lia, by lia, by lia⟩
    case p1 =>
      rintro c st2 ⟨S, ⟨r, z, rfl, R⟩ | ⟨out, ia', ib', ac, bc, rfl, M, h1, h2, h3⟩⟩
      · exact wpS_pure ⟨S, _, _, rfl, R⟩
      dsimp only
      refine wpS_bind (wpS_lift (wpAny_rule ⟨rfl, ?_⟩))
      refine wpS_bind (wpS_mono (wpS_forRange (I := fun y c st'' => Same st st'' ∧ ∃ (out : Array Keyed) (ia' ib' mg ac bc : Nat), c = (none, out, ia', ib', mg, ac, bc) ∧ MI (kl key) a.toList b.toList out.toList ia' ib' ∧ ia' + 1 < a.size ∧ ib' < b.size ∧ ia + ib + 1 ≤ ia' + ib')
        (Q := fun c st'' => Same st st'' ∧ ((∃ (r : Array Keyed) (z : Array Keyed × Nat × Nat × Nat × Nat × Nat), c = (some r, z) ∧ Res (kl key) a.toList b.toList r.toList) ∨
          ∃ (out : Array Keyed) (ia' ib' mg ac bc : Nat), c = (none, out, ia', ib', mg, ac, bc) ∧ MI (kl key) a.toList b.toList out.toList ia' ib' ∧ ia' + 1 < a.size ∧ ib' < b.size ∧ ia + ib + 1 ≤ ia' + ib')) ?s2 ?f2 ⟨S, out, ia', ib', _, ac, bc, rfl, M, h1, h2, h3⟩) ?p2)
      case f2 =>
        rintro c st3 ⟨S, out, ia', ib', mg, ac, bc, rfl, M, h1, h2, h3⟩
        exact ⟨S, .inr ⟨out, ia', ib', mg, ac, bc, rfl, M, h1, h2, h3⟩⟩
      case p2 =>
        rintro c st3 ⟨S, ⟨r, z, rfl, R⟩ | ⟨out, ia', ib', mg, ac, bc, rfl, M, h1, h2, h3⟩⟩
        · exact wpS_pure ⟨S, _, _, rfl, R⟩
        · dsimp only
          exact wpS_bind (wpS_modify (wpS_pure ⟨S, _, _, _, _, rfl, M, h1, h2, by lia⟩))
      case s2 =>
        rintro y c st3 _ hy ⟨S, out, ia', ib', mg, ac, bc, rfl, M, h1, h2, h3⟩
        dsimp only
        rcases Nat.lt_or_ge 1 mg with hm | hm
        case' inl => rw [if_pos hm]
        case' inr => rw [if_neg (Nat.not_lt.mpr hm)]
        all_goals
          refine wpS_bind (wpS_modify ?_)
          refine wpS_bind (elem_ok h2 (wpS_bind (gal_ok C (S.1.trans hk) (show 0 < a.size - ia' by lia) (by lia) (fun i hi => pa _ (by lia)) (pb _ h2) (mono_bf sA (by lia)) fun k z1 z2 z3 => ?_)))
          dsimp only
          have gt : ∀ y ∈ a.toList.drop (ia' + k), kl key (at_ b ib') y := fun y hy => by
            obtain ⟨j, hj, rfl⟩ := mem_d hy
            have := bf_gt (z3 (k + j) (by lia) (by lia))
            rw [← Nat.add_assoc] at this
            exact KeyOrd.kle_of_klt this
          by_cases hk0 : k > 0
          · rw [if_pos hk0]
            have M1 := pkA (k := k) M fun i hi => bf_le (z2 i hi)
            by_cases e : ia' + k + 1 = a.size
            · rw [if_pos (by simpa using e)]
              exact wpS_pure ⟨S, .inl ⟨_, _, rfl, la M1 e⟩⟩
            rw [if_neg (by simpa using e)]
            by_cases e' : ia' + k = a.size
            · rw [if_pos (by simpa using e')]
              exact wpS_pure ⟨S, .inl ⟨_, _, rfl, dn M1 (.inl (by lia))⟩⟩
            rw [if_neg (by simpa using e')]
            have hia : ia' + k + 1 < a.size := by lia
            refine wpS_bind (elem_ok h2 ?_)
            have M2 := p1B M1 h2 gt
            by_cases e3 : ib' + 1 = b.size
            · rw [if_pos (by simpa using e3)]
              exact wpS_pure ⟨S, .inl ⟨_, _, rfl, dn M2 (.inr (by lia))⟩⟩
            rw [if_neg (by simpa using e3)]
            refine wpS_bind (elem_ok (show ia' + k < a.size by lia) (wpS_bind (gal_ok C (S.1.trans hk) (show 0 < b.size - (ib' + 1) by lia) (by lia) (fun i hi => pb _ (by lia)) (pa _ (by lia)) (mono_bt sB (by lia)) fun k2 y1 y2 y3 => ?_)))
            dsimp only
            have ge : ∀ y ∈ b.toList.drop (ib' + 1 + k2), kl key (at_ a (ia' + k)) y := fun y hy => by
              obtain ⟨j, hj, rfl⟩ := mem_d hy
              have := bt_ge (y3 (k2 + j) (by lia) (by lia))
              rw [← Nat.add_assoc] at this
              exact this
            by_cases hk2 : k2 > 0
            · rw [if_pos hk2]
              have M3 := pkB (k := k2) M2 fun i hi => bt_lt (y2 i hi)
              by_cases e4 : ib' + 1 + k2 = b.size
              · rw [if_pos (by simpa using e4)]
                exact wpS_pure ⟨S, .inl ⟨_, _, rfl, dn M3 (.inr (by lia))⟩⟩
              rw [if_neg (by simpa using e4)]
              refine wpS_bind (elem_ok (show ia' + k < a.size by lia) ?_)
              have M4 := p1A M3 (by lia) ge
              by_cases e5 : ia' + k + 1 + 1 = a.size
              · rw [if_pos (by simpa using e5)]
                exact wpS_pure ⟨S, .inl ⟨_, _, rfl, la M4 e5⟩⟩
              rw [if_neg (by simpa using e5)]
              split
              · exact wpS_pure ⟨S, .inr ⟨_, _, _, _, _, _, rfl, M4, by lia, by lia, by lia⟩⟩
              · exact wpS_pure ⟨S, _, _, _, _, _, _, rfl, M4, by lia, by lia, by lia⟩
            · rw [if_neg hk2]
              have hz : k2 = 0 := by lia
              subst hz
              refine wpS_bind (elem_ok (show ia' + k < a.size by lia) ?_)
              have M4 := p1A M2 (by lia) ge
              by_cases e5 : ia' + k + 1 + 1 = a.size
              · rw [if_pos (by simpa using e5)]
                exact wpS_pure ⟨S, .inl ⟨_, _, rfl, la M4 e5⟩⟩
              rw [if_neg (by simpa using e5)]
              split
              · exact wpS_pure ⟨S, .inr ⟨_, _, _, _, _, _, rfl, M4, by lia, by lia, by lia⟩⟩
              · exact wpS_pure ⟨S, _, _, _, _, _, _, rfl, M4, by lia, by lia, by lia⟩
          · rw [if_neg hk0]
            have hz : k = 0 := by lia
            subst hz
            refine wpS_bind (elem_ok h2 ?_)
            have M2 := p1B M h2 gt
            by_cases e3 : ib' + 1 = b.size
            · rw [if_pos (by simpa using e3)]
              exact wpS_pure ⟨S, .inl ⟨_, _, rfl, dn M2 (.inr (by lia))⟩⟩
            rw [if_neg (by simpa using e3)]
            refine wpS_bind (elem_ok (show ia' < a.size by lia) (wpS_bind (gal_ok C (S.1.trans hk) (show 0 < b.size - (ib' + 1) by lia) (by lia) (fun i hi => pb _ (by lia)) (pa _ (by lia)) (mono_bt sB (by lia)) fun k2 y1 y2 y3 => ?_)))
            dsimp only
            have ge : ∀ y ∈ b.toList.drop (ib' + 1 + k2), kl key (at_ a ia') y := fun y hy => by
              obtain ⟨j, hj, rfl⟩ := mem_d hy
              have := bt_ge (y3 (k2 + j) (by lia) (by lia))
              rw [← Nat.add_assoc] at this
              exact this
            by_cases hk2 : k2 > 0
            · rw [if_pos hk2]
              have M3 := pkB (k := k2) M2 fun i hi => bt_lt (y2 i hi)
              by_cases e4 : ib' + 1 + k2 = b.size
              · rw [if_pos (by simpa using e4)]
                exact wpS_pure ⟨S, .inl ⟨_, _, rfl, dn M3 (.inr (by lia))⟩⟩
              rw [if_neg (by simpa using e4)]
              refine wpS_bind (elem_ok (show ia' < a.size by lia) ?_)
              have M4 := p1A M3 (by lia) ge
              by_cases e5 : ia' + 1 + 1 = a.size
              · rw [if_pos (by simpa using e5)]
                exact wpS_pure ⟨S, .inl ⟨_, _, rfl, la M4 e5⟩⟩
              rw [if_neg (by simpa using e5)]
              split
              · exact wpS_pure ⟨S, .inr ⟨_, _, _, _, _, _, rfl, M4, by lia, by lia, by lia⟩⟩
              · exact wpS_pure ⟨S, _, _, _, _, _, _, rfl, M4, by lia, by lia, by lia⟩
            · rw [if_neg hk2]
              have hz : k2 = 0 := by lia
              subst hz
              refine wpS_bind (elem_ok (show ia' < a.size by lia) ?_)
              have M4 := p1A M2 (by lia) ge
              by_cases e5 : ia' + 1 + 1 = a.size
              · rw [if_pos (by simpa using e5)]
                exact wpS_pure ⟨S, .inl ⟨_, _, rfl, la M4 e5⟩⟩
              rw [if_neg (by simpa using e5)]
              split
              · exact wpS_pure ⟨S, .inr ⟨_, _, _, _, _, _, rfl, M4, by lia, by lia, by lia⟩⟩
              · exact wpS_pure ⟨S, _, _, _, _, _, _, rfl, M4, by lia, by lia, by lia⟩
end
end Tim
end
section
set_option maxHeartbeats 4000000
namespace Tim
open PySem PyProof.Rows
def mhi : Array Keyed → Array Keyed → StateT SortSt Sem (Array Keyed) := sortPriv% PySem.Builtin.mergeHi
theorem ex_take (a : Array Keyed) (n : Nat) : (a.extract 0 n).toList = a.toList.take n := by
  have := ex_k a 0 n
  rw [Nat.zero_add, List.drop_zero] at this; exact this
theorem ex_mid (a : Array Keyed) (i n : Nat) (h : i ≤ n) : (a.extract i n).toList = (a.toList.take n).drop i := by
  have := ex_k a i (n - i)
  rw [show i + (n - i) = n by lia] at this
  rw [this, List.drop_take]
theorem mem_td {a : Array Keyed} {i n : Nat} {x : Keyed} (h : x ∈ (a.toList.take n).drop i) : ∃ j, i ≤ j ∧ j < n ∧ j < a.size ∧ x = at_ a j := by
  rw [List.drop_take] at h
  obtain ⟨j, h1, h2, h3⟩ := mem_dt h
  exact ⟨i + j, by lia, by lia, h2, h3⟩
theorem mem_t {a : Array Keyed} {n : Nat} {x : Keyed} (h : x ∈ a.toList.take n) : ∃ j, j < n ∧ j < a.size ∧ x = at_ a j := by
  obtain ⟨j, _, h2, h3, h4⟩ := mem_td (i := 0) (by rw [List.drop_zero]; exact h)
  exact ⟨j, h2, h3, h4⟩
section
variable {prog : Program} {w : World} {A : Around} {E : Value → Shared → Prop} {s : Shared} {κ : SortKind} {O : KeyOrd} {key : Keyed → O.α} {P : Keyed → Prop}
theorem mhi_ok (C : Asks prog w A s κ O key P) {a b : Array Keyed} {st : SortSt} {Q : Array Keyed → SortSt → Prop} (hk : kindOf st = κ) (ha : 0 < a.size) (hb : 0 < b.size) (Pa : ∀ x ∈ a.toList, P x) (Pb : ∀ x ∈ b.toList, P x)
    (sA : a.toList.Pairwise (kl key)) (sB : b.toList.Pairwise (kl key)) (h0 : ∀ y ∈ a.toList, kl key (at_ b 0) y) (hl : ∀ x ∈ b.toList, kl key x (at_ a (a.size - 1)))
    (h : ∀ r st', Same st st' → Res (kl key) a.toList b.toList r.toList → Q r st') : wpS (model prog w) A E s (mhi a b) Q st := by
  have pa : ∀ i, i < a.size → P (at_ a i) := fun i hi => Pa _ (at_mem hi)
  have pb : ∀ i, i < b.size → P (at_ b i) := fun i hi => Pb _ (at_mem hi)
  have M0 : MH (kl key) a.toList b.toList (#[at_ a (a.size - 1)] : Array Keyed).reverse.toList (a.size - 1) b.size := by
    have eR : (#[at_ a (a.size - 1)] : Array Keyed).reverse.toList = [at_ a (a.size - 1)] := rfl
    rw [eR]
    refine ⟨?_, List.pairwise_singleton _ _, ?_, ?_⟩
    · have e := take_drop_one (l := a.toList) (i := a.size - 1) (Value.none, Value.none) (by simp; lia)
      rw [getD_at (by lia), show a.size - 1 + 1 = a.size by lia, show a.toList.take a.size = a.toList from List.take_of_length_le (by simp)] at e
      rw [e, List.drop_eq_nil_of_le (by simp)]
      exact List.Perm.refl _
    · intro x hx y hy
      obtain ⟨j, h1, h2, rfl⟩ := mem_t hx
      rw [List.mem_singleton] at hy; subst hy
      exact srt_at sA (by lia) (by lia)
    · intro x hx y hy
      rw [List.mem_singleton] at hy; subst hy
      exact hl x (List.mem_of_mem_take hx)
  have dn : ∀ {out : Array Keyed} {na nb : Nat}, MH (kl key) a.toList b.toList out.reverse.toList na nb → (na = 0 ∨ nb = 0) → Res (kl key) a.toList b.toList (a.extract 0 na ++ b.extract 0 nb ++ out.reverse).toList := fun M hh => by
    rw [Array.toList_append, Array.toList_append, ex_take, ex_take]
    exact M.done sA sB (hh.imp (fun z => by rw [z]; rfl) fun z => by rw [z]; rfl)
  have fi : ∀ {out : Array Keyed} {na nb : Nat}, MH (kl key) a.toList b.toList out.reverse.toList na nb → nb = 1 → Res (kl key) a.toList b.toList (b.extract 0 nb ++ a.extract 0 na ++ out.reverse).toList := fun {out na nb} M hh => by
    rw [Array.toList_append, Array.toList_append, ex_take, ex_take]
    refine M.first sA sB fun x hx y hy => ?_
    obtain ⟨j, h1, h2, rfl⟩ := mem_t hx
    rw [show j = 0 by lia]
    exact h0 y hy
  have pkA : ∀ {out : Array Keyed} {na nb k : Nat}, MH (kl key) a.toList b.toList out.reverse.toList na nb → k ≤ na → (∀ x ∈ b.toList.take nb, ∀ j, k ≤ j → j < na → kl key x (at_ a j)) → MH (kl key) a.toList b.toList (out ++ (a.extract k na).reverse).reverse.toList k nb := fun {out na nb k} M hi q => by
    have e : (out ++ (a.extract k na).reverse).reverse.toList = (a.toList.take na).drop k ++ out.reverse.toList := by
      rw [Array.reverse_append, Array.reverse_reverse, Array.toList_append, ex_mid a k na hi]
    rw [e]
    refine M.pushA sA hi fun x hx y hy => ?_
    obtain ⟨j, h1, h2, _, rfl⟩ := mem_td hy
    exact q x hx j h1 h2
  have pkB : ∀ {out : Array Keyed} {na nb k : Nat}, MH (kl key) a.toList b.toList out.reverse.toList na nb → k ≤ nb → (∀ x ∈ a.toList.take na, ∀ j, k ≤ j → j < nb → kl key x (at_ b j)) → MH (kl key) a.toList b.toList (out ++ (b.extract k nb).reverse).reverse.toList na k := fun {out na nb k} M hi q => by
    have e : (out ++ (b.extract k nb).reverse).reverse.toList = (b.toList.take nb).drop k ++ out.reverse.toList := by
      rw [Array.reverse_append, Array.reverse_reverse, Array.toList_append, ex_mid b k nb hi]
    rw [e]
    refine M.pushB sB hi fun x hx y hy => ?_
    obtain ⟨j, h1, h2, _, rfl⟩ := mem_td hy
    exact q x hx j h1 h2
  have p1A : ∀ {out : Array Keyed} {na nb : Nat}, MH (kl key) a.toList b.toList out.reverse.toList na nb → 0 < na → na ≤ a.size → (∀ x ∈ b.toList.take nb, kl key x (at_ a (na - 1))) → MH (kl key) a.toList b.toList (out.push (at_ a (na - 1))).reverse.toList (na - 1) nb := fun {out na nb} M h1 h2 q => by
    have e : (out.push (at_ a (na - 1))).reverse.toList = (a.toList.take na).drop (na - 1) ++ out.reverse.toList := by
      have z := take_drop_one (l := a.toList) (i := na - 1) (Value.none, Value.none) (by simp; lia)
      rw [show na - 1 + 1 = na by lia, getD_at (by lia)] at z
      rw [z]; simp
    rw [e]
    refine M.pushA sA (by lia) fun x hx y hy => ?_
    obtain ⟨j, g1, g2, _, rfl⟩ := mem_td hy
    rw [show j = na - 1 by lia]
    exact q x hx
  have p1B : ∀ {out : Array Keyed} {na nb : Nat}, MH (kl key) a.toList b.toList out.reverse.toList na nb → 0 < nb → nb ≤ b.size → (∀ x ∈ a.toList.take na, kl key x (at_ b (nb - 1))) → MH (kl key) a.toList b.toList (out.push (at_ b (nb - 1))).reverse.toList na (nb - 1) := fun {out na nb} M h1 h2 q => by
    have e : (out.push (at_ b (nb - 1))).reverse.toList = (b.toList.take nb).drop (nb - 1) ++ out.reverse.toList := by
      have z := take_drop_one (l := b.toList) (i := nb - 1) (Value.none, Value.none) (by simp; lia)
      rw [show nb - 1 + 1 = nb by lia, getD_at (by lia)] at z
      rw [z]; simp
    rw [e]
    refine M.pushB sB (by lia) fun x hx y hy => ?_
    obtain ⟨j, g1, g2, _, rfl⟩ := mem_td hy
    rw [show j = nb - 1 by lia]
    exact q x hx
  have tA : ∀ {n : Nat} {x : Keyed}, n ≤ a.size → x ∈ a.toList.take n → kl key x (at_ a (n - 1)) := fun {n x} hn hx => by
    obtain ⟨j, h1, h2, rfl⟩ := mem_t hx
    exact srt_at sA (by lia) (by lia)
  have tB : ∀ {n : Nat} {x : Keyed}, n ≤ b.size → x ∈ b.toList.take n → kl key x (at_ b (n - 1)) := fun {n x} hn hx => by
    obtain ⟨j, h1, h2, rfl⟩ := mem_t hx
    exact srt_at sB (by lia) (by lia)
  delta mhi
  refine wpS_bind (wpS_lift (wpAny_rule ⟨rfl, ?_⟩))
  dsimp only
  refine wpS_bind (elem_ok (show a.size - 1 < a.size by lia) ?_)
  by_cases e1 : a.size - 1 = 0
  · rw [if_pos (by simpa using e1)]
    exact wpS_pure (h _ _ Same.rfl' (dn M0 (.inl e1)))
  rw [if_neg (by simpa using e1)]
  by_cases e2 : b.size = 1
  · rw [if_pos (by simpa using e2)]
    exact wpS_pure (h _ _ Same.rfl' (fi M0 e2))
  rw [if_neg (by simpa using e2)]
  refine wpS_bind (wpS_get ?_)
  refine wpS_bind (wpS_mono (wpS_forRange (I := fun x c st' => Same st st' ∧ ∃ (na nb : Nat) (out : Array Keyed) (mg : Nat), c = (none, na, nb, out, mg) ∧ MH (kl key) a.toList b.toList out.reverse.toList na nb ∧ 0 < na ∧ na ≤ a.size ∧ 1 < nb ∧ nb ≤ b.size ∧ na + nb + x + 1 ≤ a.size + b.size)
    (Q := fun c st' => Same st st' ∧ ∃ (r : Array Keyed) (z : Nat × Nat × Array Keyed × Nat), c = (some r, z) ∧ Res (kl key) a.toList b.toList r.toList) ?step ?fin ⟨Same.rfl', _, _, _, _, rfl, M0, by lia, by lia, by lia, by lia, by lia⟩) ?post)
  case post =>
    rintro c st' ⟨S, r, z, rfl, R⟩
    exact wpS_pure (h r st' S R)
  case fin =>
    rintro c st' ⟨S, na, nb, out, mg, rfl, M, h1, h2, h3, h4, h5⟩
    lia
  case step =>
    rintro x c st' _ hx ⟨S, na, nb, out, mg, rfl, M, h1, h1', h2, h2', h3⟩
    dsimp only
    refine wpS_bind (wpS_mono (wpS_forRange (I := fun y c st'' => Same st st'' ∧ ∃ (na' nb' : Nat) (out : Array Keyed) (ac bc : Nat), c = (none, na', nb', out, ac, bc) ∧ MH (kl key) a.toList b.toList out.reverse.toList na' nb' ∧ 0 < na' ∧ na' ≤ a.size ∧ 1 < nb' ∧ nb' ≤ b.size ∧ na' + nb' + y ≤ na + nb)
      (Q := fun c st'' => Same st st'' ∧ ((∃ (r : Array Keyed) (z : Nat × Nat × Array Keyed × Nat × Nat), c = (some r, z) ∧ Res (kl key) a.toList b.toList r.toList) ∨
        ∃ (na' nb' : Nat) (out : Array Keyed) (ac bc : Nat), c = (none, na', nb', out, ac, bc) ∧ MH (kl key) a.toList b.toList out.reverse.toList na' nb' ∧ 0 < na' ∧ na' ≤ a.size ∧ 1 < nb' ∧ nb' ≤ b.size ∧ na' + nb' + 1 ≤ na + nb)) ?s1 ?f1 ⟨S, na, nb, out, 0, 0, rfl, M, h1, h1', h2, h2', by lia⟩) ?p1)
    case f1 =>
      rintro c st2 ⟨S, na', nb', out, ac, bc, rfl, M, h1, h1', h2, h2', h3⟩
      exact ⟨S, .inr ⟨na', nb', out, ac, bc, rfl, M, h1, h1', h2, h2', by lia⟩⟩
    case s1 =>
      rintro y c st2 _ hy ⟨S, na', nb', out, ac, bc, rfl, M, h1, h1', h2, h2', h3⟩
      dsimp only
      refine wpS_bind (elem_ok (show nb' - 1 < b.size by lia) (wpS_bind (elem_ok (show na' - 1 < a.size by lia) (wpS_bind (lt_ok C (pb _ (by lia)) (pa _ (by lia)) (S.1.trans hk) ?_)))))
      dsimp only
      cases hc : O.blt (key (at_ b (nb' - 1))) (key (at_ a (na' - 1))) with
      | true =>
        rw [if_pos rfl]
        refine wpS_bind (elem_ok (show na' - 1 < a.size by lia) ?_)
        have M1 := p1A M h1 h1' fun x hx => KeyOrd.kle_trans (tB h2' hx) (KeyOrd.kle_of_klt hc)
        by_cases e : na' - 1 = 0
        · rw [if_pos (by simpa using e)]
          exact wpS_pure ⟨S, .inl ⟨_, _, rfl, dn M1 (.inl e)⟩⟩
        · rw [if_neg (by simpa using e)]
          split
          · exact wpS_pure ⟨S, .inr ⟨_, _, _, _, _, rfl, M1, by lia, by lia, by lia, by lia, by lia⟩⟩
          · exact wpS_pure ⟨S, _, _, _, _, _, rfl, M1, by lia, by lia, by lia, by lia, by lia⟩
      | false =>
        rw [if_neg (by simp)]
        refine wpS_bind (elem_ok (show nb' - 1 < b.size by lia) ?_)
        have M1 := p1B M (by lia) h2' fun x hx => KeyOrd.kle_trans (tA h1' hx) (show kl key (at_ a (na' - 1)) (at_ b (nb' - 1)) from hc)
        by_cases e : nb' - 1 = 1
        · rw [if_pos (by simpa using e)]
          exact wpS_pure ⟨S, .inl ⟨_, _, rfl, fi M1 e⟩⟩
        · rw [if_neg (by simpa using e)]
          split
          · exact wpS_pure ⟨S, .inr ⟨_, _, _, _, _, rfl, M1, by lia, by lia, by lia, by lia, by lia⟩⟩
          · exact wpS_pure ⟨S, _, _, _, _, _, rfl, M1, by lia, by lia, by lia, by lia, by lia⟩
    case p1 =>
      rintro c st2 ⟨S, ⟨r, z, rfl, R⟩ | ⟨na', nb', out, ac, bc, rfl, M, h1, h1', h2, h2', h3⟩⟩
      · exact wpS_pure ⟨S, _, _, rfl, R⟩
      dsimp only
      refine wpS_bind (wpS_lift (wpAny_rule ⟨rfl, ?_⟩))
      refine wpS_bind (wpS_mono (wpS_forRange (I := fun y c st'' => Same st st'' ∧ ∃ (na' nb' : Nat) (out : Array Keyed) (mg ac bc : Nat), c = (none, na', nb', out, mg, ac, bc) ∧ MH (kl key) a.toList b.toList out.reverse.toList na' nb' ∧ 0 < na' ∧ na' ≤ a.size ∧ 1 < nb' ∧ nb' ≤ b.size ∧ na' + nb' + 1 ≤ na + nb)
        (Q := fun c st'' => Same st st'' ∧ ((∃ (r : Array Keyed) (z : Nat × Nat × Array Keyed × Nat × Nat × Nat), c = (some r, z) ∧ Res (kl key) a.toList b.toList r.toList) ∨
          ∃ (na' nb' : Nat) (out : Array Keyed) (mg ac bc : Nat), c = (none, na', nb', out, mg, ac, bc) ∧ MH (kl key) a.toList b.toList out.reverse.toList na' nb' ∧ 0 < na' ∧ na' ≤ a.size ∧ 1 < nb' ∧ nb' ≤ b.size ∧ na' + nb' + 1 ≤ na + nb)) ?s2 ?f2 ⟨S, na', nb', out, _, ac, bc, rfl, M, h1, h1', h2, h2', h3⟩) ?p2)
      case f2 =>
        rintro c st3 ⟨S, na', nb', out, mg, ac, bc, rfl, M, h1, h1', h2, h2', h3⟩
        exact ⟨S, .inr ⟨na', nb', out, mg, ac, bc, rfl, M, h1, h1', h2, h2', h3⟩⟩
      case p2 =>
        rintro c st3 ⟨S, ⟨r, z, rfl, R⟩ | ⟨na', nb', out, mg, ac, bc, rfl, M, h1, h1', h2, h2', h3⟩⟩
        · exact wpS_pure ⟨S, _, _, rfl, R⟩
        · dsimp only
          exact wpS_bind (wpS_modify (wpS_pure ⟨S, _, _, _, _, rfl, M, h1, h1', h2, h2', by lia⟩))
      case s2 =>
        rintro y c st3 _ hy ⟨S, na', nb', out, mg, ac, bc, rfl, M, h1, h1', h2, h2', h3⟩
        dsimp only
        rcases Nat.lt_or_ge 1 mg with hm | hm
        case' inl => rw [if_pos hm]
        case' inr => rw [if_neg (Nat.not_lt.mpr hm)]
        all_goals
          refine wpS_bind (wpS_modify ?_)
          refine wpS_bind (elem_ok (show nb' - 1 < b.size by lia) (wpS_bind (gal_ok C (S.1.trans hk) (show na' - 1 < na' by lia) (by lia) (fun i hi => pa _ (by lia)) (pb _ (by lia)) (mono_bf sA (by lia)) fun k z1 z2 z3 => ?_)))
          simp only [Nat.zero_add] at z2 z3
          dsimp only
          have le1 : ∀ x ∈ a.toList.take k, kl key x (at_ b (nb' - 1)) := fun x hx => by
            obtain ⟨j, g1, g2, rfl⟩ := mem_t hx
            exact bf_le (z2 j g1)
          have M1 := pkA (k := k) M z1 fun x hx j g1 g2 => KeyOrd.kle_trans (tB h2' hx) (KeyOrd.kle_of_klt (bf_gt (z3 j g1 g2)))
          by_cases hk0 : na' - k > 0
          · rw [if_pos hk0]
            by_cases e : k = 0
            · rw [if_pos (by simpa using e)]
              exact wpS_pure ⟨S, .inl ⟨_, _, rfl, dn M1 (.inl e)⟩⟩
            rw [if_neg (by simpa using e)]
            have hk1 : 0 < k := by lia
            refine wpS_bind (elem_ok (show nb' - 1 < b.size by lia) ?_)
            have M2 := p1B M1 (by lia) h2' le1
            by_cases e3 : nb' - 1 = 1
            · rw [if_pos (by simpa using e3)]
              exact wpS_pure ⟨S, .inl ⟨_, _, rfl, fi M2 e3⟩⟩
            rw [if_neg (by simpa using e3)]
            refine wpS_bind (elem_ok (show k - 1 < a.size by lia) (wpS_bind (gal_ok C (S.1.trans hk) (show nb' - 1 - 1 < nb' - 1 by lia) (by lia) (fun i hi => pb _ (by lia)) (pa _ (by lia)) (mono_bt sB (by lia)) fun k2 y1 y2 y3 => ?_)))
            simp only [Nat.zero_add] at y2 y3
            dsimp only
            have lt2 : ∀ x ∈ b.toList.take k2, kl key x (at_ a (k - 1)) := fun x hx => by
              obtain ⟨j, g1, g2, rfl⟩ := mem_t hx
              exact KeyOrd.kle_of_klt (bt_lt (y2 j g1))
            have M3 := pkB (k := k2) M2 y1 fun x hx j g1 g2 => KeyOrd.kle_trans (tA (by lia) hx) (bt_ge (y3 j g1 g2))
            by_cases hk2 : nb' - 1 - k2 > 0
            · rw [if_pos hk2]
              by_cases e4 : k2 = 1
              · rw [if_pos (by simpa using e4)]
                exact wpS_pure ⟨S, .inl ⟨_, _, rfl, fi M3 e4⟩⟩
              rw [if_neg (by simpa using e4)]
              by_cases e6 : k2 = 0
              · rw [if_pos (by simpa using e6)]
                exact wpS_pure ⟨S, .inl ⟨_, _, rfl, dn M3 (.inr e6)⟩⟩
              rw [if_neg (by simpa using e6)]
              refine wpS_bind (elem_ok (show k - 1 < a.size by lia) ?_)
              have M4 := p1A M3 hk1 (by lia) lt2
              by_cases e5 : k - 1 = 0
              · rw [if_pos (by simpa using e5)]
                exact wpS_pure ⟨S, .inl ⟨_, _, rfl, dn M4 (.inl e5)⟩⟩
              rw [if_neg (by simpa using e5)]
              split
              · exact wpS_pure ⟨S, .inr ⟨_, _, _, _, _, _, rfl, M4, by lia, by lia, by lia, by lia, by lia⟩⟩
              · exact wpS_pure ⟨S, _, _, _, _, _, _, rfl, M4, by lia, by lia, by lia, by lia, by lia⟩
            · rw [if_neg hk2]
              have hz : k2 = nb' - 1 := by lia
              rw [hz] at lt2
              refine wpS_bind (elem_ok (show k - 1 < a.size by lia) ?_)
              have M4 := p1A M2 hk1 (by lia) lt2
              by_cases e5 : k - 1 = 0
              · rw [if_pos (by simpa using e5)]
                exact wpS_pure ⟨S, .inl ⟨_, _, rfl, dn M4 (.inl e5)⟩⟩
              rw [if_neg (by simpa using e5)]
              split
              · exact wpS_pure ⟨S, .inr ⟨_, _, _, _, _, _, rfl, M4, by lia, by lia, by lia, by lia, by lia⟩⟩
              · exact wpS_pure ⟨S, _, _, _, _, _, _, rfl, M4, by lia, by lia, by lia, by lia, by lia⟩
          · rw [if_neg hk0]
            have hz : k = na' := by lia
            have M1 := M
            subst hz
            have hk1 : 0 < k := by lia
            refine wpS_bind (elem_ok (show nb' - 1 < b.size by lia) ?_)
            have M2 := p1B M1 (by lia) h2' le1
            by_cases e3 : nb' - 1 = 1
            · rw [if_pos (by simpa using e3)]
              exact wpS_pure ⟨S, .inl ⟨_, _, rfl, fi M2 e3⟩⟩
            rw [if_neg (by simpa using e3)]
            refine wpS_bind (elem_ok (show k - 1 < a.size by lia) (wpS_bind (gal_ok C (S.1.trans hk) (show nb' - 1 - 1 < nb' - 1 by lia) (by lia) (fun i hi => pb _ (by lia)) (pa _ (by lia)) (mono_bt sB (by lia)) fun k2 y1 y2 y3 => ?_)))
            simp only [Nat.zero_add] at y2 y3
            dsimp only
            have lt2 : ∀ x ∈ b.toList.take k2, kl key x (at_ a (k - 1)) := fun x hx => by
              obtain ⟨j, g1, g2, rfl⟩ := mem_t hx
              exact KeyOrd.kle_of_klt (bt_lt (y2 j g1))
            have M3 := pkB (k := k2) M2 y1 fun x hx j g1 g2 => KeyOrd.kle_trans (tA (by lia) hx) (bt_ge (y3 j g1 g2))
            by_cases hk2 : nb' - 1 - k2 > 0
            · rw [if_pos hk2]
              by_cases e4 : k2 = 1
              · rw [if_pos (by simpa using e4)]
                exact wpS_pure ⟨S, .inl ⟨_, _, rfl, fi M3 e4⟩⟩
              rw [if_neg (by simpa using e4)]
              by_cases e6 : k2 = 0
              · rw [if_pos (by simpa using e6)]
                exact wpS_pure ⟨S, .inl ⟨_, _, rfl, dn M3 (.inr e6)⟩⟩
              rw [if_neg (by simpa using e6)]
              refine wpS_bind (elem_ok (show k - 1 < a.size by lia) ?_)
              have M4 := p1A M3 hk1 (by lia) lt2
              by_cases e5 : k - 1 = 0
              · rw [if_pos (by simpa using e5)]
                exact wpS_pure ⟨S, .inl ⟨_, _, rfl, dn M4 (.inl e5)⟩⟩
              rw [if_neg (by simpa using e5)]
              split
              · exact wpS_pure ⟨S, .inr ⟨_, _, _, _, _, _, rfl, M4, by lia, by lia, by lia, by lia, by lia⟩⟩
              · exact wpS_pure ⟨S, _, _, _, _, _, _, rfl, M4, by lia, by lia, by lia, by lia, by lia⟩
            · rw [if_neg hk2]
              have hz : k2 = nb' - 1 := by lia
              rw [hz] at lt2
              refine wpS_bind (elem_ok (show k - 1 < a.size by lia) ?_)
              have M4 := p1A M2 hk1 (by lia) lt2
              by_cases e5 : k - 1 = 0
              · rw [if_pos (by simpa using e5)]
                exact wpS_pure ⟨S, .inl ⟨_, _, rfl, dn M4 (.inl e5)⟩⟩
              rw [if_neg (by simpa using e5)]
              split
              · exact wpS_pure ⟨S, .inr ⟨_, _, _, _, _, _, rfl, M4, by lia, by lia, by lia, by lia, by lia⟩⟩
              · exact wpS_pure ⟨S, _, _, _, _, _, _, rfl, M4, by lia, by lia, by lia, by lia, by lia⟩
end
end Tim
end
section
set_option maxHeartbeats 4000000
namespace Tim
open PySem PyProof.Rows
section
variable {prog : Program} {w : World} {A : Around} {E : Value → Shared → Prop} {s : Shared} {κ : SortKind} {O : KeyOrd} {key : Keyed → O.α} {P : Keyed → Prop}
def Sg {O : KeyOrd} (key : Keyed → O.α) (a : Array Keyed) (lo hi : Nat) : Prop := ∀ i j, lo ≤ i → i ≤ j → j < hi → kl key (at_ a i) (at_ a j)
def Fl {O : KeyOrd} (key : Keyed → O.α) (a : Array Keyed) (lo hi : Nat) : Prop := ∀ i j, lo ≤ i → i ≤ j → j < hi → kl key (at_ a j) (at_ a i)
structure Mv (lo : Nat) (st st' : SortSt) : Prop where
  kind : kindOf st' = kindOf st
  pend : pendingOf st' = pendingOf st
  fail : failedOf st' = failedOf st
  perm : (arrOf st').Perm (arrOf st)
  pre : ∀ i, i < lo → (arrOf st')[i]? = (arrOf st)[i]?
theorem Mv.rfl' {lo : Nat} {st : SortSt} : Mv lo st st := ⟨rfl, rfl, rfl, Array.Perm.refl _, fun _ _ => rfl⟩
theorem Mv.size {lo : Nat} {st st' : SortSt} (h : Mv lo st st') : (arrOf st').size = (arrOf st).size := h.perm.size_eq
theorem Mv.all {lo : Nat} {st st' : SortSt} (h : Mv lo st st') (hP : ∀ x ∈ (arrOf st).toList, P x) : ∀ x ∈ (arrOf st').toList, P x := fun x hx => hP x ((Array.perm_iff_toList_perm.mp h.perm).mem_iff.mp hx)
theorem at_mirror {xs : Array Keyed} {i j : Nat} (hj : j ≤ xs.size) (k : Nat) : at_ (mirror xs i j ((j - i) / 2)) k = if i ≤ k ∧ k < j then at_ xs (i + j - 1 - k) else at_ xs k := by
  have z := getElem?_mirror_all (i := i) hj k
  by_cases c : i ≤ k ∧ k < j
  · rw [if_pos c] at z ⊢; exact at_congr z
  · rw [if_neg c] at z ⊢; exact at_congr z
theorem key_mirror {xs : Array Keyed} {i j : Nat} (hj : j ≤ xs.size) (he : ∀ k, i ≤ k → k < j → key (at_ xs k) = key (at_ xs (j - 1))) (k : Nat) : key (at_ (mirror xs i j ((j - i) / 2)) k) = key (at_ xs k) := by
  rw [at_mirror hj]
  split
  · rename_i c; rw [he _ (by lia) (by lia), he k c.1 c.2]
  · rfl
theorem Mv.rev {lo : Nat} {st st' : SortSt} (h : Mv lo st st') {i j : Nat} (hi : lo ≤ i) (hj : j ≤ (arrOf st').size) : Mv lo st (setArr st' (mirror (arrOf st') i j ((j - i) / 2))) :=
  ⟨h.kind, h.pend, h.fail, (mirror_perm _ _ _ _).trans h.perm, fun k hk => by
    rw [← h.pre k hk]
    show (mirror (arrOf st') i j ((j - i) / 2))[k]? = _
    rw [getElem?_mirror_all hj, if_neg (by lia)]⟩
theorem ltAt_ok (C : Asks prog w A s κ O key P) {st : SortSt} {i j : Nat} {Q : Option Bool → SortSt → Prop} (hk : kindOf st = κ) (hP : ∀ x ∈ (arrOf st).toList, P x) (hi : i < (arrOf st).size) (hj : j < (arrOf st).size)
    (h : Q (some (O.blt (key (at_ (arrOf st) i)) (key (at_ (arrOf st) j)))) st) : wpS (model prog w) A E s (ltAt' i j) Q st := by
  rw [ltAt'_eq]
  refine wpS_bind (wpS_get (wpS_bind (elem_ok hi (wpS_bind (elem_ok hj (lt_ok C (hP _ (at_mem hi)) (hP _ (at_mem hj)) hk h))))))
theorem Sg.one {a : Array Keyed} {lo : Nat} : Sg key a lo (lo + 1) := fun i j h1 h2 h3 => by
  rw [show i = j by lia]; exact KeyOrd.kle_refl _
theorem Sg.more {a : Array Keyed} {lo n : Nat} (h : Sg key a lo (lo + n)) (h1 : 1 ≤ n) (q : kl key (at_ a (lo + n - 1)) (at_ a (lo + n))) : Sg key a lo (lo + (n + 1)) := fun i j z1 z2 z3 => by
  by_cases hj : j = lo + n
  · subst hj
    by_cases hi : i = lo + n
    · subst hi; exact KeyOrd.kle_refl _
    · exact KeyOrd.kle_trans (h i (lo + n - 1) z1 (by lia) (by lia)) q
  · exact h i j z1 z2 (by lia)
theorem Fl.more {a : Array Keyed} {lo n : Nat} (h : Fl key a lo (lo + n)) (h1 : 1 ≤ n) (q : kl key (at_ a (lo + n)) (at_ a (lo + n - 1))) : Fl key a lo (lo + (n + 1)) := fun i j z1 z2 z3 => by
  by_cases hj : j = lo + n
  · subst hj
    by_cases hi : i = lo + n
    · subst hi; exact KeyOrd.kle_refl _
    · exact KeyOrd.kle_trans q (h i (lo + n - 1) z1 (by lia) (by lia))
  · exact h i j z1 z2 (by lia)
theorem Fl.congr {a b : Array Keyed} {lo hi : Nat} (h : Fl key a lo hi) (e : ∀ k, key (at_ b k) = key (at_ a k)) : Fl key b lo hi := fun i j z1 z2 z3 => by
  show O.kle _ _
  rw [e, e]; exact h i j z1 z2 z3
theorem run_ok (C : Asks prog w A s κ O key P) {st : SortSt} {lo nrem : Nat} {Q : Option Nat → SortSt → Prop} (hk : kindOf st = κ) (hP : ∀ x ∈ (arrOf st).toList, P x) (hz : lo + nrem ≤ (arrOf st).size) (h1 : 1 ≤ nrem)
    (h : ∀ n st', Mv lo st st' → 1 ≤ n → n ≤ nrem → Sg key (arrOf st') lo (lo + n) → Q (some n) st') : wpS (model prog w) A E s (countRun' lo nrem) Q st := by
  rw [countRun'_eq]
  refine wpS_bind (wpS_mono (wpS_forRange (I := fun k c st' => st' = st ∧ c = (none, k) ∧ k ≤ nrem ∧ 1 ≤ k ∧ Sg key (arrOf st) lo (lo + k))
    (Q := fun c st' => st' = st ∧ ∃ n, c = (none, n) ∧ 1 ≤ n ∧ n ≤ nrem ∧ Sg key (arrOf st) lo (lo + n) ∧ (n < nrem → O.klt (key (at_ (arrOf st) (lo + n))) (key (at_ (arrOf st) (lo + n - 1))))) ?step ?fin ⟨rfl, rfl, h1, by lia, Sg.one⟩) ?post)
  case fin =>
    rintro c st' ⟨rfl, rfl, a1, a2, a3⟩
    exact ⟨rfl, _, rfl, by lia, by lia, a3, fun z => by lia⟩
  case step =>
    rintro k c st' _ hkn ⟨rfl, rfl, a1, a2, a3⟩
    dsimp only
    refine wpS_bind (ltAt_ok C hk hP (by lia) (by lia) ?_)
    dsimp only
    cases hc : O.blt (key (at_ (arrOf st') (lo + k))) (key (at_ (arrOf st') (lo + k - 1))) with
    | true => rw [if_pos rfl]; exact wpS_pure ⟨rfl, k, rfl, a2, a1, a3, fun _ => hc⟩
    | false => rw [if_neg (by simp)]; exact wpS_pure ⟨rfl, rfl, by lia, by lia, a3.more a2 hc⟩
  case post =>
    rintro c st' ⟨rfl, n, rfl, n1, n2, n3, n4⟩
    dsimp only
    by_cases e : n = nrem
    · rw [if_pos (by simpa using e)]
      exact wpS_pure (h n st' Mv.rfl' n1 n2 n3)
    rw [if_neg (by simpa using e)]
    have n4 := n4 (by lia)
    by_cases hn : n > 1
    · rw [if_pos hn]
      refine wpS_bind (ltAt_ok C hk hP (by lia) (by lia) ?_)
      dsimp only
      cases hc : O.blt (key (at_ (arrOf st') lo)) (key (at_ (arrOf st') (lo + n - 1))) with
      | true => rw [if_pos rfl]; exact wpS_pure (h n st' Mv.rfl' n1 n2 n3)
      | false =>
        rw [if_neg (by simp), reverseSlice'_eq]
        have eq : ∀ k, lo ≤ k → k < lo + n → key (at_ (arrOf st') k) = key (at_ (arrOf st') (lo + n - 1)) := fun k k1 k2 =>
          KeyOrd.kle_antisymm (n3 k (lo + n - 1) k1 (by lia) (by lia)) (KeyOrd.kle_trans hc (n3 lo k (by lia) k1 (by lia)))
        have ek := key_mirror (key := key) (xs := arrOf st') (i := lo) (j := lo + n) (by lia) eq
        refine wpS_bind (wpS_modify ?_)
        have M1 := (Mv.rfl' (lo := lo) (st := st')).rev (i := lo) (j := lo + n) (Nat.le_refl _) (by lia)
        have F1 : Fl key (arrOf (setArr st' (mirror (arrOf st') lo (lo + n) ((lo + n - lo) / 2)))) lo (lo + (n + 1)) := by
          refine Fl.congr (a := arrOf st') (Fl.more (fun i j z1 z2 z3 => ?_) n1 (KeyOrd.kle_of_klt n4)) ek
          show O.kle _ _
          rw [eq i z1 (by lia), eq j (by lia) z3]; exact KeyOrd.kle_refl _
        generalize setArr st' (mirror (arrOf st') lo (lo + n) ((lo + n - lo) / 2)) = st1 at M1 F1 ⊢
        refine wpS_bind (wpS_lift (wpAny_rule ⟨rfl, ?_⟩))
        refine wpS_bind (wpS_mono (wpS_forRange (I := fun k c st2 => Mv lo st' st2 ∧ ∃ q, c = (none, k, q) ∧ k ≤ nrem ∧ q + 1 ≤ k ∧ Fl key (arrOf st2) lo (lo + k) ∧ (∀ i, lo + k - (q + 1) ≤ i → i < lo + k → key (at_ (arrOf st2) i) = key (at_ (arrOf st2) (lo + k - 1))))
          (Q := fun c st2 => Mv lo st' st2 ∧ ∃ k q, c = (none, k, q) ∧ k ≤ nrem ∧ q + 1 ≤ k ∧ Fl key (arrOf st2) lo (lo + k) ∧ (∀ i, lo + k - (q + 1) ≤ i → i < lo + k → key (at_ (arrOf st2) i) = key (at_ (arrOf st2) (lo + k - 1)))) ?dstep ?dfin ⟨M1, 0, rfl, by lia, by lia, F1, fun i g1 g2 => by rw [show i = lo + (n + 1) - 1 by lia]⟩) ?dpost)
        case dfin =>
          rintro c st2 ⟨M2, q, rfl, a1, a2, a3, a4⟩
          exact ⟨M2, _, q, rfl, a1, a2, a3, a4⟩
        case dstep =>
          rintro k c st2 hk1 hkn ⟨M2, q, rfl, a1, a2, a3, a4⟩
          have hz2 : lo + nrem ≤ (arrOf st2).size := by rw [M2.size]; exact hz
          have hk2 : kindOf st2 = κ := M2.kind.trans hk
          have hP2 := M2.all hP
          dsimp only
          refine wpS_bind (ltAt_ok C hk2 hP2 (by lia) (by lia) ?_)
          dsimp only
          cases hc : O.blt (key (at_ (arrOf st2) (lo + k))) (key (at_ (arrOf st2) (lo + k - 1))) with
          | true =>
            rw [if_pos rfl]
            have F2 := a3.more (by lia) (KeyOrd.kle_of_klt hc)
            by_cases hq : q > 0
            · rw [if_pos hq, reverseSlice'_eq]
              have ek := key_mirror (key := key) (xs := arrOf st2) (i := lo + k - (q + 1)) (j := lo + k) (by lia) a4
              refine wpS_bind (wpS_modify (wpS_pure ⟨M2.rev (by lia) (by lia), 0, rfl, by lia, by lia, F2.congr ek, fun i g1 g2 => ?_⟩))
              rw [show i = lo + (k + 1) - 1 by lia]
            · rw [if_neg hq]
              exact wpS_pure ⟨M2, 0, rfl, by lia, by lia, F2, fun i g1 g2 => by rw [show i = lo + (k + 1) - 1 by lia]⟩
          | false =>
            rw [if_neg (by simp)]
            refine wpS_bind (ltAt_ok C hk2 hP2 (by lia) (by lia) ?_)
            dsimp only
            cases hd : O.blt (key (at_ (arrOf st2) (lo + k - 1))) (key (at_ (arrOf st2) (lo + k))) with
            | true => rw [if_pos rfl]; exact wpS_pure ⟨M2, k, q, rfl, a1, a2, a3, a4⟩
            | false =>
              rw [if_neg (by simp)]
              have eq1 : key (at_ (arrOf st2) (lo + k)) = key (at_ (arrOf st2) (lo + k - 1)) := O.total _ _ hc hd
              refine wpS_pure ⟨M2, q + 1, rfl, by lia, by lia, a3.more (by lia) hd, fun i g1 g2 => ?_⟩
              rw [show lo + (k + 1) - 1 = lo + k by lia]
              by_cases hi : i = lo + k
              · rw [hi]
              · rw [eq1]; exact a4 i (by lia) (by lia)
        case dpost =>
          rintro c st2 ⟨M2, k, q, rfl, a1, a2, a3, a4⟩
          have hz2 : lo + nrem ≤ (arrOf st2).size := by rw [M2.size]; exact hz
          dsimp only
          by_cases hq : q > 0
          · rw [if_pos hq, reverseSlice'_eq]
            have ek := key_mirror (key := key) (xs := arrOf st2) (i := lo + k - (q + 1)) (j := lo + k) (by lia) a4
            refine wpS_bind (wpS_modify ?_)
            have M3 := M2.rev (i := lo + k - (q + 1)) (j := lo + k) (by lia) (by lia)
            have F3 : Fl key (arrOf (setArr st2 (mirror (arrOf st2) (lo + k - (q + 1)) (lo + k) ((lo + k - (lo + k - (q + 1))) / 2)))) lo (lo + k) := a3.congr ek
            generalize setArr st2 (mirror (arrOf st2) (lo + k - (q + 1)) (lo + k) ((lo + k - (lo + k - (q + 1))) / 2)) = st3 at M3 F3 ⊢
            have hz3 : lo + nrem ≤ (arrOf st3).size := by rw [M3.size]; exact hz
            rw [reverseSlice'_eq]
            refine wpS_bind (wpS_modify ?_)
            have M4 := M3.rev (i := lo) (j := lo + k) (Nat.le_refl _) (by lia)
            have S4 : Sg key (arrOf (setArr st3 (mirror (arrOf st3) lo (lo + k) ((lo + k - lo) / 2)))) lo (lo + k) := fun i j g1 g2 g3 => by
              show kl key (at_ (mirror (arrOf st3) lo (lo + k) ((lo + k - lo) / 2)) i) (at_ (mirror (arrOf st3) lo (lo + k) ((lo + k - lo) / 2)) j)
              rw [at_mirror (by lia), at_mirror (by lia), if_pos ⟨g1, by lia⟩, if_pos ⟨by lia, g3⟩]
              exact F3 _ _ (by lia) (by lia) (by lia)
            generalize setArr st3 (mirror (arrOf st3) lo (lo + k) ((lo + k - lo) / 2)) = st4 at M4 S4 ⊢
            have hz4 : lo + nrem ≤ (arrOf st4).size := by rw [M4.size]; exact hz
            have hk4 : kindOf st4 = κ := M4.kind.trans hk
            have hP4 := M4.all hP
            refine wpS_bind (wpS_mono (wpS_forRange (I := fun i c st5 => st5 = st4 ∧ c = (none, i) ∧ i ≤ nrem ∧ 1 ≤ i ∧ Sg key (arrOf st4) lo (lo + i)) (Q := fun c st5 => st5 = st4 ∧ ∃ i, c = (none, i) ∧ i ≤ nrem ∧ 1 ≤ i ∧ Sg key (arrOf st4) lo (lo + i)) ?tstep ?tfin ⟨rfl, rfl, a1, by lia, S4⟩) ?tpost)
            case tfin =>
              rintro c st5 ⟨rfl, rfl, b1, b2, b3⟩
              exact ⟨rfl, _, rfl, b1, b2, b3⟩
            case tstep =>
              rintro i c st5 _ hi ⟨rfl, rfl, b1, b2, b3⟩
              dsimp only
              refine wpS_bind (ltAt_ok C hk4 hP4 (by lia) (by lia) ?_)
              dsimp only
              cases hc : O.blt (key (at_ (arrOf st5) (lo + i))) (key (at_ (arrOf st5) (lo + i - 1))) with
              | true => rw [if_pos rfl]; exact wpS_pure ⟨rfl, i, rfl, b1, b2, b3⟩
              | false => rw [if_neg (by simp)]; exact wpS_pure ⟨rfl, rfl, by lia, by lia, b3.more b2 hc⟩
            case tpost =>
              rintro c st5 ⟨rfl, i, rfl, b1, b2, b3⟩
              exact wpS_pure (h i st5 M4 b2 b1 b3)
          · rw [if_neg hq]
            have M3 := M2
            have F3 := a3
            have hz3 : lo + nrem ≤ (arrOf st2).size := by rw [M3.size]; exact hz
            rw [reverseSlice'_eq]
            refine wpS_bind (wpS_modify ?_)
            have M4 := M3.rev (i := lo) (j := lo + k) (Nat.le_refl _) (by lia)
            have S4 : Sg key (arrOf (setArr st2 (mirror (arrOf st2) lo (lo + k) ((lo + k - lo) / 2)))) lo (lo + k) := fun i j g1 g2 g3 => by
              show kl key (at_ (mirror (arrOf st2) lo (lo + k) ((lo + k - lo) / 2)) i) (at_ (mirror (arrOf st2) lo (lo + k) ((lo + k - lo) / 2)) j)
              rw [at_mirror (by lia), at_mirror (by lia), if_pos ⟨g1, by lia⟩, if_pos ⟨by lia, g3⟩]
              exact F3 _ _ (by lia) (by lia) (by lia)
            generalize setArr st2 (mirror (arrOf st2) lo (lo + k) ((lo + k - lo) / 2)) = st4 at M4 S4 ⊢
            have hz4 : lo + nrem ≤ (arrOf st4).size := by rw [M4.size]; exact hz
            have hk4 : kindOf st4 = κ := M4.kind.trans hk
            have hP4 := M4.all hP
            refine wpS_bind (wpS_mono (wpS_forRange (I := fun i c st5 => st5 = st4 ∧ c = (none, i) ∧ i ≤ nrem ∧ 1 ≤ i ∧ Sg key (arrOf st4) lo (lo + i)) (Q := fun c st5 => st5 = st4 ∧ ∃ i, c = (none, i) ∧ i ≤ nrem ∧ 1 ≤ i ∧ Sg key (arrOf st4) lo (lo + i)) ?tstep ?tfin ⟨rfl, rfl, a1, by lia, S4⟩) ?tpost)
            case tfin =>
              rintro c st5 ⟨rfl, rfl, b1, b2, b3⟩
              exact ⟨rfl, _, rfl, b1, b2, b3⟩
            case tstep =>
              rintro i c st5 _ hi ⟨rfl, rfl, b1, b2, b3⟩
              dsimp only
              refine wpS_bind (ltAt_ok C hk4 hP4 (by lia) (by lia) ?_)
              dsimp only
              cases hc : O.blt (key (at_ (arrOf st5) (lo + i))) (key (at_ (arrOf st5) (lo + i - 1))) with
              | true => rw [if_pos rfl]; exact wpS_pure ⟨rfl, i, rfl, b1, b2, b3⟩
              | false => rw [if_neg (by simp)]; exact wpS_pure ⟨rfl, rfl, by lia, by lia, b3.more b2 hc⟩
            case tpost =>
              rintro c st5 ⟨rfl, i, rfl, b1, b2, b3⟩
              exact wpS_pure (h i st5 M4 b2 b1 b3)
    · rw [if_neg hn]
      have hn1 : n = 1 := by lia
      subst hn1
      have M1 : Mv lo st' st' := Mv.rfl'
      have F1 : Fl key (arrOf st') lo (lo + (1 + 1)) := Fl.more (fun i j z1 z2 z3 => by rw [show i = j by lia]; exact KeyOrd.kle_refl _) (Nat.le_refl _) (KeyOrd.kle_of_klt n4)
      refine wpS_bind (wpS_lift (wpAny_rule ⟨rfl, ?_⟩))
      refine wpS_bind (wpS_mono (wpS_forRange (I := fun k c st2 => Mv lo st' st2 ∧ ∃ q, c = (none, k, q) ∧ k ≤ nrem ∧ q + 1 ≤ k ∧ Fl key (arrOf st2) lo (lo + k) ∧ (∀ i, lo + k - (q + 1) ≤ i → i < lo + k → key (at_ (arrOf st2) i) = key (at_ (arrOf st2) (lo + k - 1))))
        (Q := fun c st2 => Mv lo st' st2 ∧ ∃ k q, c = (none, k, q) ∧ k ≤ nrem ∧ q + 1 ≤ k ∧ Fl key (arrOf st2) lo (lo + k) ∧ (∀ i, lo + k - (q + 1) ≤ i → i < lo + k → key (at_ (arrOf st2) i) = key (at_ (arrOf st2) (lo + k - 1)))) ?dstep ?dfin ⟨M1, 0, rfl, by lia, by lia, F1, fun i g1 g2 => by rw [show i = lo + (1 + 1) - 1 by lia]⟩) ?dpost)
      case dfin =>
        rintro c st2 ⟨M2, q, rfl, a1, a2, a3, a4⟩
        exact ⟨M2, _, q, rfl, a1, a2, a3, a4⟩
      case dstep =>
        rintro k c st2 hk1 hkn ⟨M2, q, rfl, a1, a2, a3, a4⟩
        have hz2 : lo + nrem ≤ (arrOf st2).size := by rw [M2.size]; exact hz
        have hk2 : kindOf st2 = κ := M2.kind.trans hk
        have hP2 := M2.all hP
        dsimp only
        refine wpS_bind (ltAt_ok C hk2 hP2 (by lia) (by lia) ?_)
        dsimp only
        cases hc : O.blt (key (at_ (arrOf st2) (lo + k))) (key (at_ (arrOf st2) (lo + k - 1))) with
        | true =>
          rw [if_pos rfl]
          have F2 := a3.more (by lia) (KeyOrd.kle_of_klt hc)
          by_cases hq : q > 0
          · rw [if_pos hq, reverseSlice'_eq]
            have ek := key_mirror (key := key) (xs := arrOf st2) (i := lo + k - (q + 1)) (j := lo + k) (by lia) a4
            refine wpS_bind (wpS_modify (wpS_pure ⟨M2.rev (by lia) (by lia), 0, rfl, by lia, by lia, F2.congr ek, fun i g1 g2 => ?_⟩))
            rw [show i = lo + (k + 1) - 1 by lia]
          · rw [if_neg hq]
            exact wpS_pure ⟨M2, 0, rfl, by lia, by lia, F2, fun i g1 g2 => by rw [show i = lo + (k + 1) - 1 by lia]⟩
        | false =>
          rw [if_neg (by simp)]
          refine wpS_bind (ltAt_ok C hk2 hP2 (by lia) (by lia) ?_)
          dsimp only
          cases hd : O.blt (key (at_ (arrOf st2) (lo + k - 1))) (key (at_ (arrOf st2) (lo + k))) with
          | true => rw [if_pos rfl]; exact wpS_pure ⟨M2, k, q, rfl, a1, a2, a3, a4⟩
          | false =>
            rw [if_neg (by simp)]
            have eq1 : key (at_ (arrOf st2) (lo + k)) = key (at_ (arrOf st2) (lo + k - 1)) := O.total _ _ hc hd
            refine wpS_pure ⟨M2, q + 1, rfl, by lia, by lia, a3.more (by lia) hd, fun i g1 g2 => ?_⟩
            rw [show lo + (k + 1) - 1 = lo + k by lia]
            by_cases hi : i = lo + k
            · rw [hi]
            · rw [eq1]; exact a4 i (by lia) (by lia)
      case dpost =>
        rintro c st2 ⟨M2, k, q, rfl, a1, a2, a3, a4⟩
        have hz2 : lo + nrem ≤ (arrOf st2).size := by rw [M2.size]; exact hz
        dsimp only
        by_cases hq : q > 0
        · rw [if_pos hq, reverseSlice'_eq]
          have ek := key_mirror (key := key) (xs := arrOf st2) (i := lo + k - (q + 1)) (j := lo + k) (by lia) a4
          refine wpS_bind (wpS_modify ?_)
          have M3 := M2.rev (i := lo + k - (q + 1)) (j := lo + k) (by lia) (by lia)
          have F3 : Fl key (arrOf (setArr st2 (mirror (arrOf st2) (lo + k - (q + 1)) (lo + k) ((lo + k - (lo + k - (q + 1))) / 2)))) lo (lo + k) := a3.congr ek
          generalize setArr st2 (mirror (arrOf st2) (lo + k - (q + 1)) (lo + k) ((lo + k - (lo + k - (q + 1))) / 2)) = st3 at M3 F3 ⊢
          have hz3 : lo + nrem ≤ (arrOf st3).size := by rw [M3.size]; exact hz
          rw [reverseSlice'_eq]
          refine wpS_bind (wpS_modify ?_)
          have M4 := M3.rev (i := lo) (j := lo + k) (Nat.le_refl _) (by lia)
          have S4 : Sg key (arrOf (setArr st3 (mirror (arrOf st3) lo (lo + k) ((lo + k - lo) / 2)))) lo (lo + k) := fun i j g1 g2 g3 => by
            show kl key (at_ (mirror (arrOf st3) lo (lo + k) ((lo + k - lo) / 2)) i) (at_ (mirror (arrOf st3) lo (lo + k) ((lo + k - lo) / 2)) j)
            rw [at_mirror (by lia), at_mirror (by lia), if_pos ⟨g1, by lia⟩, if_pos ⟨by lia, g3⟩]
            exact F3 _ _ (by lia) (by lia) (by lia)
          generalize setArr st3 (mirror (arrOf st3) lo (lo + k) ((lo + k - lo) / 2)) = st4 at M4 S4 ⊢
          have hz4 : lo + nrem ≤ (arrOf st4).size := by rw [M4.size]; exact hz
          have hk4 : kindOf st4 = κ := M4.kind.trans hk
          have hP4 := M4.all hP
          refine wpS_bind (wpS_mono (wpS_forRange (I := fun i c st5 => st5 = st4 ∧ c = (none, i) ∧ i ≤ nrem ∧ 1 ≤ i ∧ Sg key (arrOf st4) lo (lo + i)) (Q := fun c st5 => st5 = st4 ∧ ∃ i, c = (none, i) ∧ i ≤ nrem ∧ 1 ≤ i ∧ Sg key (arrOf st4) lo (lo + i)) ?tstep ?tfin ⟨rfl, rfl, a1, by lia, S4⟩) ?tpost)
          case tfin =>
            rintro c st5 ⟨rfl, rfl, b1, b2, b3⟩
            exact ⟨rfl, _, rfl, b1, b2, b3⟩
          case tstep =>
            rintro i c st5 _ hi ⟨rfl, rfl, b1, b2, b3⟩
            dsimp only
            refine wpS_bind (ltAt_ok C hk4 hP4 (by lia) (by lia) ?_)
            dsimp only
            cases hc : O.blt (key (at_ (arrOf st5) (lo + i))) (key (at_ (arrOf st5) (lo + i - 1))) with
            | true => rw [if_pos rfl]; exact wpS_pure ⟨rfl, i, rfl, b1, b2, b3⟩
            | false => rw [if_neg (by simp)]; exact wpS_pure ⟨rfl, rfl, by lia, by lia, b3.more b2 hc⟩
          case tpost =>
            rintro c st5 ⟨rfl, i, rfl, b1, b2, b3⟩
            exact wpS_pure (h i st5 M4 b2 b1 b3)
        · rw [if_neg hq]
          have M3 := M2
          have F3 := a3
          have hz3 : lo + nrem ≤ (arrOf st2).size := by rw [M3.size]; exact hz
          rw [reverseSlice'_eq]
          refine wpS_bind (wpS_modify ?_)
          have M4 := M3.rev (i := lo) (j := lo + k) (Nat.le_refl _) (by lia)
          have S4 : Sg key (arrOf (setArr st2 (mirror (arrOf st2) lo (lo + k) ((lo + k - lo) / 2)))) lo (lo + k) := fun i j g1 g2 g3 => by
            show kl key (at_ (mirror (arrOf st2) lo (lo + k) ((lo + k - lo) / 2)) i) (at_ (mirror (arrOf st2) lo (lo + k) ((lo + k - lo) / 2)) j)
            rw [at_mirror (by lia), at_mirror (by lia), if_pos ⟨g1, by lia⟩, if_pos ⟨by lia, g3⟩]
            exact F3 _ _ (by lia) (by lia) (by lia)
          generalize setArr st2 (mirror (arrOf st2) lo (lo + k) ((lo + k - lo) / 2)) = st4 at M4 S4 ⊢
          have hz4 : lo + nrem ≤ (arrOf st4).size := by rw [M4.size]; exact hz
          have hk4 : kindOf st4 = κ := M4.kind.trans hk
          have hP4 := M4.all hP
          refine wpS_bind (wpS_mono (wpS_forRange (I := fun i c st5 => st5 = st4 ∧ c = (none, i) ∧ i ≤ nrem ∧ 1 ≤ i ∧ Sg key (arrOf st4) lo (lo + i)) (Q := fun c st5 => st5 = st4 ∧ ∃ i, c = (none, i) ∧ i ≤ nrem ∧ 1 ≤ i ∧ Sg key (arrOf st4) lo (lo + i)) ?tstep ?tfin ⟨rfl, rfl, a1, by lia, S4⟩) ?tpost)
          case tfin =>
            rintro c st5 ⟨rfl, rfl, b1, b2, b3⟩
            exact ⟨rfl, _, rfl, b1, b2, b3⟩
          case tstep =>
            rintro i c st5 _ hi ⟨rfl, rfl, b1, b2, b3⟩
            dsimp only
            refine wpS_bind (ltAt_ok C hk4 hP4 (by lia) (by lia) ?_)
            dsimp only
            cases hc : O.blt (key (at_ (arrOf st5) (lo + i))) (key (at_ (arrOf st5) (lo + i - 1))) with
            | true => rw [if_pos rfl]; exact wpS_pure ⟨rfl, i, rfl, b1, b2, b3⟩
            | false => rw [if_neg (by simp)]; exact wpS_pure ⟨rfl, rfl, by lia, by lia, b3.more b2 hc⟩
          case tpost =>
            rintro c st5 ⟨rfl, i, rfl, b1, b2, b3⟩
            exact wpS_pure (h i st5 M4 b2 b1 b3)
theorem bin_ok (C : Asks prog w A s κ O key P) {st : SortSt} {lo n ok : Nat} {Q : Bool → SortSt → Prop} (hk : kindOf st = κ) (hP : ∀ x ∈ (arrOf st).toList, P x) (hz : lo + n ≤ (arrOf st).size) (ho : 1 ≤ ok) (hn : ok ≤ n) (hs : Sg key (arrOf st) lo (lo + ok))
    (h : ∀ st', Mv lo st st' → Sg key (arrOf st') lo (lo + n) → Q true st') : wpS (model prog w) A E s (binarySort' lo n ok) Q st := by
  rw [binarySort'_eq]
  refine wpS_bind (wpS_mono (wpS_forRange (I := fun k c st' => c = (none, ()) ∧ Mv lo st st' ∧ k ≤ n ∧ Sg key (arrOf st') lo (lo + k)) (Q := fun c st' => c = (none, ()) ∧ Mv lo st st' ∧ Sg key (arrOf st') lo (lo + n)) ?step ?fin ⟨rfl, Mv.rfl', by lia, by rw [show max ok 1 = ok by lia]; exact hs⟩) ?post)
  case post =>
    rintro c st' ⟨rfl, M, S⟩
    exact wpS_pure (h st' M S)
  case fin =>
    rintro c st' ⟨hc, M, hkn, S⟩
    rw [show max (max ok 1) n = n by lia] at S
    exact ⟨hc, M, S⟩
  case step =>
    rintro k c st' hak hkn ⟨rfl, M, _, S⟩
    have hz' : lo + n ≤ (arrOf st').size := by rw [M.size]; exact hz
    have hk' : kindOf st' = κ := M.kind.trans hk
    have hP' := M.all hP
    dsimp only
    refine wpS_bind (wpS_mono (wpS_forRange (I := fun x c st'' => st'' = st' ∧ ∃ l r, c = (none, l, r) ∧ l ≤ r ∧ r ≤ k ∧ r - l ≤ k - x ∧ (∀ i, i < l → kl key (at_ (arrOf st') (lo + i)) (at_ (arrOf st') (lo + k))) ∧ (∀ i, r ≤ i → i < k → O.klt (key (at_ (arrOf st') (lo + k))) (key (at_ (arrOf st') (lo + i)))))
      (Q := fun c st'' => st'' = st' ∧ ∃ l r, c = (none, l, r) ∧ l ≤ k ∧ (∀ i, i < l → kl key (at_ (arrOf st') (lo + i)) (at_ (arrOf st') (lo + k))) ∧ (∀ i, l ≤ i → i < k → O.klt (key (at_ (arrOf st') (lo + k))) (key (at_ (arrOf st') (lo + i))))) ?s1 ?f1 ⟨rfl, 0, k, rfl, by lia, by lia, by lia, fun i hi => by lia, fun i h1 h2 => by lia⟩) ?p1)
    case f1 =>
      rintro c st'' ⟨rfl, l, r, rfl, z1, z2, z3, z4, z5⟩
      have : l = r := by lia
      subst this
      exact ⟨rfl, l, l, rfl, z2, z4, z5⟩
    case s1 =>
      rintro x c st'' _ hx ⟨rfl, l, r, rfl, z1, z2, z3, z4, z5⟩
      dsimp only
      by_cases hge : l ≥ r
      · rw [if_pos hge]
        have : l = r := by lia
        subst this
        exact wpS_pure ⟨rfl, l, l, rfl, z2, z4, z5⟩
      rw [if_neg hge]
      refine wpS_bind (ltAt_ok C hk' hP' (by lia) (by lia) ?_)
      dsimp only
      cases hc : O.blt (key (at_ (arrOf st'') (lo + k))) (key (at_ (arrOf st'') (lo + (l + r) / 2))) with
      | true =>
        rw [if_pos rfl]
        exact wpS_pure ⟨rfl, l, (l + r) / 2, rfl, by lia, by lia, by lia, z4, fun i g1 g2 => KeyOrd.klt_of_klt_of_kle hc (S (lo + (l + r) / 2) (lo + i) (by lia) (by lia) (by lia))⟩
      | false =>
        rw [if_neg (by simp)]
        exact wpS_pure ⟨rfl, (l + r) / 2 + 1, r, rfl, by lia, by lia, by lia, fun i g1 => KeyOrd.kle_trans (S (lo + i) (lo + (l + r) / 2) (by lia) (by lia) (by lia)) hc, z5⟩
    case p1 =>
      rintro c st'' ⟨rfl, l, r, rfl, z1, z2, z3⟩
      dsimp only
      rw [moveDown'_eq]
      have eb : ∀ i, at_ (bubble (arrOf st'') (lo + k) (lo + k - (lo + l))) i = if i = lo + l then at_ (arrOf st'') (lo + k) else if lo + l < i ∧ i ≤ lo + k then at_ (arrOf st'') (i - 1) else at_ (arrOf st'') i := fun i => by
        have z := getElem?_bubble (xs := arrOf st'') (src := lo + k) (by lia) (lo + k - (lo + l)) (by lia) i
        rw [show lo + k - (lo + k - (lo + l)) = lo + l by lia] at z
        by_cases c1 : i = lo + l
        · rw [if_pos c1] at z ⊢; exact at_congr z
        · rw [if_neg c1] at z ⊢
          by_cases c2 : lo + l < i ∧ i ≤ lo + k
          · rw [if_pos c2] at z ⊢; exact at_congr z
          · rw [if_neg c2] at z ⊢; exact at_congr z
      refine wpS_bind (wpS_modify (wpS_pure ⟨rfl, ⟨M.kind, M.pend, M.fail, (bubble_perm _ _ _).trans M.perm, fun i hi => ?_⟩, by lia, fun i j g1 g2 g3 => ?_⟩))
      · rw [← M.pre i hi]
        show (bubble (arrOf st'') (lo + k) (lo + k - (lo + l)))[i]? = _
        rw [getElem?_bubble (by lia) _ (by lia), if_neg (by lia), if_neg (by lia)]
      · show kl key (at_ (bubble (arrOf st'') (lo + k) (lo + k - (lo + l))) i) (at_ (bubble (arrOf st'') (lo + k) (lo + k - (lo + l))) j)
        rw [eb, eb]
        by_cases c1 : i = lo + l
        · rw [if_pos c1]
          by_cases c2 : j = lo + l
          · rw [if_pos c2]; exact KeyOrd.kle_refl _
          · rw [if_neg c2, if_pos ⟨by lia, by lia⟩]
            have := z3 (j - 1 - lo) (by lia) (by lia)
            rw [show lo + (j - 1 - lo) = j - 1 by lia] at this
            exact KeyOrd.kle_of_klt this
        · rw [if_neg c1]
          by_cases c3 : lo + l < i
          · rw [if_pos ⟨c3, by lia⟩, if_neg (by lia), if_pos ⟨by lia, by lia⟩]
            exact S _ _ (by lia) (by lia) (by lia)
          · rw [if_neg (by lia)]
            by_cases c2 : j = lo + l
            · rw [if_pos c2]
              have := z2 (i - lo) (by lia)
              rwa [show lo + (i - lo) = i by lia] at this
            · rw [if_neg c2]
              by_cases c4 : lo + l < j
              · rw [if_pos ⟨c4, by lia⟩]; exact S _ _ g1 (by lia) (by lia)
              · rw [if_neg (by lia)]; exact S _ _ g1 g2 (by lia)
end
end Tim
end
section
set_option maxHeartbeats 4000000
namespace Tim
open PySem PyProof.Rows
theorem put_size : ∀ (l : List Keyed) (a : Array Keyed) (b j0 : Nat), ((l.zipIdx j0).foldl (fun a x => a.setIfInBounds (b + x.2) x.1) a).size = a.size
  | [], _, _, _ => rfl
  | x :: l, a, b, j0 => by
    rw [List.zipIdx_cons, List.foldl_cons, put_size l]
    simp
theorem put_at : ∀ (l : List Keyed) (a : Array Keyed) (b j0 : Nat) (i : Nat), b + j0 + l.length ≤ a.size → ((l.zipIdx j0).foldl (fun a x => a.setIfInBounds (b + x.2) x.1) a)[i]? = if b + j0 ≤ i ∧ i < b + j0 + l.length then l[i - (b + j0)]? else a[i]?
  | [], a, b, j0, i, _ => by
    rw [if_neg (by simp only [List.length_nil]; lia)]; rfl
  | x :: l, a, b, j0, i, h => by
    have hl : (x :: l).length = l.length + 1 := rfl
    rw [hl] at h ⊢
    rw [List.zipIdx_cons, List.foldl_cons, put_at l _ b (j0 + 1) i (by simp; lia)]
    by_cases c : b + (j0 + 1) ≤ i ∧ i < b + (j0 + 1) + l.length
    · rw [if_pos c, if_pos (by lia), show i - (b + j0) = (i - (b + (j0 + 1))) + 1 by lia, List.getElem?_cons_succ]
    · rw [if_neg c]
      by_cases e : i = b + j0
      · subst e
        rw [if_pos (by lia), Nat.sub_self, List.getElem?_cons_zero]
        simp [Array.getElem?_setIfInBounds]; lia
      · rw [if_neg (by lia)]
        simp [Array.getElem?_setIfInBounds]; lia
def Cov : List (Nat × Nat × Nat) → Nat → Nat → Prop
  | [], f, t => f = t
  | x :: r, f, t => x.1 = f ∧ 1 ≤ x.2.1 ∧ Cov r (f + x.2.1) t
theorem Cov.le : ∀ {l : List (Nat × Nat × Nat)} {f t : Nat}, Cov l f t → f + l.length ≤ t
  | [], _, _, h => by cases h; exact Nat.le_refl _
  | x :: r, f, t, ⟨h1, h2, h3⟩ => by have := Cov.le h3; simp only [List.length_cons]; lia
theorem Cov.app : ∀ {l m : List (Nat × Nat × Nat)} {f t : Nat}, Cov (l ++ m) f t ↔ ∃ k, Cov l f k ∧ Cov m k t
  | [], m, f, t => ⟨fun h => ⟨f, rfl, h⟩, fun zq1 => by obtain ⟨k, h1, h2⟩ := zq1; cases h1; exact h2⟩
  | x :: r, m, f, t => ⟨fun ⟨h1, h2, h3⟩ => let ⟨k, k1, k2⟩ := Cov.app.mp h3; ⟨k, ⟨h1, h2, k1⟩, k2⟩, fun ⟨k, ⟨h1, h2, k1⟩, k2⟩ => ⟨h1, h2, Cov.app.mpr ⟨k, k1, k2⟩⟩⟩
theorem Cov.mem : ∀ {l : List (Nat × Nat × Nat)} {f t : Nat}, Cov l f t → ∀ x ∈ l, f ≤ x.1 ∧ x.1 + x.2.1 ≤ t
  | x :: r, f, t, ⟨h1, h2, h3⟩, y, hy => by
    have := Cov.le h3
    rcases List.mem_cons.mp hy with rfl | hy
    · lia
    · have := Cov.mem h3 y hy; lia
section
variable {prog : Program} {w : World} {A : Around} {E : Value → Shared → Prop} {s : Shared} {κ : SortKind} {O : KeyOrd} {key : Keyed → O.α} {P : Keyed → Prop}
theorem wpS_set {σ : Type} {M : Model} {x : σ} {Q : PUnit → σ → Prop} {st : σ} (h : Q ⟨⟩ x) : wpS M A E s (set x : StateT σ Sem PUnit) Q st := by
  unfold wpS; rw [StateT.run_set]; exact wpAny_pure ⟨rfl, h⟩
structure G {O : KeyOrd} (κ : SortKind) (key : Keyed → O.α) (a0 : Array Keyed) (st : SortSt) (lo : Nat) : Prop where
  kind : kindOf st = κ
  fail : failedOf st = none
  perm : (arrOf st).Perm a0
  cov : Cov (pendingOf st).toList 0 lo
  srt : ∀ x ∈ (pendingOf st).toList, Sg key (arrOf st) x.1 (x.1 + x.2.1)
  le : lo ≤ a0.size
theorem mono_bfS {a : Array Keyed} {x : Keyed} {base n : Nat} (h : Sg key a base (base + n)) : ∀ i j, i ≤ j → j < n → bey key false x (at_ a (base + j)) = true → bey key false x (at_ a (base + i)) = true := fun i j hij hj q => by
  have : kl key (at_ a (base + i)) x := KeyOrd.kle_trans (h _ _ (by lia) (by lia) (by lia)) (bf_le q)
  show (!O.blt (key x) (key (at_ a (base + i)))) = true
  rw [show O.blt (key x) (key (at_ a (base + i))) = false from this]; rfl
theorem mono_btS {a : Array Keyed} {x : Keyed} {base n : Nat} (h : Sg key a base (base + n)) : ∀ i j, i ≤ j → j < n → bey key true x (at_ a (base + j)) = true → bey key true x (at_ a (base + i)) = true := fun i j hij hj q =>
  KeyOrd.klt_of_kle_of_klt (h (base + i) (base + j) (by lia) (by lia) (by lia)) (bt_lt q)
theorem ex_at {a : Array Keyed} {i n j : Nat} (h : n ≤ a.size) (hj : i + j < n) : at_ (a.extract i n) j = at_ a (i + j) := by
  refine at_congr ?_
  rw [Array.getElem?_extract]
  rw [if_pos (by lia)]
theorem ex_sz {a : Array Keyed} {i n : Nat} (h : n ≤ a.size) : (a.extract i n).size = n - i := by
  rw [Array.size_extract]; lia
theorem ex_srt {a : Array Keyed} {i n : Nat} (h : n ≤ a.size) (q : Sg key a i n) : (a.extract i n).toList.Pairwise (kl key) := by
  rw [List.pairwise_iff_getElem]
  intro x y hx hy hxy
  have hz := ex_sz (a := a) (i := i) h
  have hx' : x < (a.extract i n).size := by rw [← Array.length_toList]; exact hx
  have hy' : y < (a.extract i n).size := by rw [← Array.length_toList]; exact hy
  have g : ∀ z (hz : z < (a.extract i n).toList.length), (a.extract i n).toList[z] = at_ (a.extract i n) z := fun z hz' => by
    have e1 := at_toList (a := a.extract i n) (i := z) (by rw [← Array.length_toList]; exact hz')
    rw [List.getElem?_eq_getElem hz'] at e1
    exact Option.some.inj e1
  rw [g x hx, g y hy, ex_at h (by lia), ex_at h (by lia)]
  exact q _ _ (by lia) (by lia) (by lia)
theorem ex_mem {a : Array Keyed} {i n : Nat} (h : n ≤ a.size) {x : Keyed} (hx : x ∈ (a.extract i n).toList) : ∃ j, i ≤ j ∧ j < n ∧ x = at_ a j := by
  obtain ⟨j, hj, e⟩ := List.getElem_of_mem hx
  have hj' : j < (a.extract i n).size := by rw [← Array.length_toList]; exact hj
  have hz := ex_sz (a := a) (i := i) h
  have e1 := at_toList (a := a.extract i n) (i := j) hj'
  rw [List.getElem?_eq_getElem hj, e] at e1
  refine ⟨i + j, by lia, by lia, ?_⟩
  rw [Option.some.inj e1, ex_at h (by lia)]
theorem at_in {a : Array Keyed} (hP : ∀ x ∈ a.toList, P x) {i : Nat} (h : i < a.size) : P (at_ a i) := hP _ (at_mem h)
theorem back_ok {a m : Array Keyed} {lo hi : Nat} (h : hi ≤ a.size) (hl : lo ≤ hi) (hm : m.toList.Perm (a.extract lo hi).toList) :
    let a' := (m.toList.zipIdx).foldl (fun a x => a.setIfInBounds (lo + x.2) x.1) a
    a'.Perm a ∧ (∀ i, (lo ≤ i ∧ i < hi → a'[i]? = m[i - lo]?) ∧ (¬ (lo ≤ i ∧ i < hi) → a'[i]? = a[i]?)) := by
  intro a'
  have hlen : m.toList.length = hi - lo := by rw [hm.length_eq]; simp; lia
  have g : ∀ i, a'[i]? = if lo + 0 ≤ i ∧ i < lo + 0 + m.toList.length then m.toList[i - (lo + 0)]? else a[i]? := fun i => put_at m.toList a lo 0 i (by lia)
  rw [Nat.add_zero, hlen, show lo + (hi - lo) = hi by lia] at g
  have hz : a'.size = a.size := put_size _ _ _ _
  refine ⟨?_, fun i => ⟨fun c => by rw [g, if_pos c, Array.getElem?_toList], fun c => by rw [g, if_neg c]⟩⟩
  have e : a'.toList = a.toList.take lo ++ (m.toList ++ a.toList.drop hi) := by
    apply List.ext_getElem?
    intro i
    rw [Array.getElem?_toList, g, List.getElem?_append, List.getElem?_append]
    have hlt : (a.toList.take lo).length = lo := by simp; lia
    rw [hlt, hlen]
    by_cases c1 : i < lo
    · rw [if_neg (by lia), if_pos c1, List.getElem?_take, if_pos c1, Array.getElem?_toList]
    · rw [if_neg c1]
      by_cases c2 : i < hi
      · rw [if_pos ⟨by lia, c2⟩, if_pos (by lia)]
      · rw [if_neg (by lia), if_neg (by lia), List.getElem?_drop, Array.getElem?_toList]
        congr 1; lia
  have e2 : a.toList = a.toList.take lo ++ ((a.extract lo hi).toList ++ a.toList.drop hi) := by
    rw [ex_mid a lo hi hl]
    conv => lhs; rw [← List.take_append_drop hi a.toList, ← List.take_append_drop lo (a.toList.take hi)]
    rw [List.take_take, Nat.min_eq_left hl, List.append_assoc]
  rw [Array.perm_iff_toList_perm, e]
  conv => rhs; rw [e2]
  exact List.Perm.append_left _ (hm.append_right _)
theorem mAt_ok (C : Asks prog w A s κ O key P) {a0 : Array Keyed} {st : SortSt} {lo i : Nat} {Q : Bool → SortSt → Prop} (hP : ∀ x ∈ a0.toList, P x) (g : G κ key a0 st lo) (hi : i + 1 < (pendingOf st).size)
    (h : ∀ st', G κ key a0 st' lo → (∀ j, lo ≤ j → (arrOf st')[j]? = (arrOf st)[j]?) → (pendingOf st').size + 1 = (pendingOf st).size → Q true st') : wpS (model prog w) A E s (mergeAt' i) Q st := by
  obtain ⟨sa, na, pw, eA⟩ : ∃ sa na pw, (pendingOf st)[i]? = some (sa, na, pw) := ⟨_, _, _, getElem?_pos _ i (by lia)⟩
  obtain ⟨sb, nb, pw2, eB⟩ : ∃ sb nb pw2, (pendingOf st)[i + 1]? = some (sb, nb, pw2) := ⟨_, _, _, getElem?_pos _ (i + 1) hi⟩
  have eL : (pendingOf st).toList = (pendingOf st).toList.take i ++ (sa, na, pw) :: (sb, nb, pw2) :: (pendingOf st).toList.drop (i + 2) := by
    conv => lhs; rw [← List.take_append_drop i (pendingOf st).toList]
    congr 1
    rw [← Array.getElem?_toList] at eA eB
    obtain ⟨l1, q1⟩ := List.getElem?_eq_some_iff.mp eA
    obtain ⟨l2, q2⟩ := List.getElem?_eq_some_iff.mp eB
    rw [List.drop_eq_getElem_cons l1, q1, List.drop_eq_getElem_cons l2, q2]
  have hcov := g.cov
  rw [eL] at hcov
  obtain ⟨k0, c1, c2, c3, c4, c5, c6⟩ := Cov.app.mp hcov
  dsimp only at c2 c3 c4 c5 c6
  subst c2
  have hpost := Cov.le c6
  have hsz : (arrOf st).size = a0.size := g.perm.size_eq
  have hle := g.le
  have hPs : ∀ x ∈ (arrOf st).toList, P x := fun x hx => hP x ((Array.perm_iff_toList_perm.mp g.perm).mem_iff.mp hx)
  have sgA : Sg key (arrOf st) sa (sa + na) := g.srt (sa, na, pw) (by rw [eL]; simp)
  have sgB : Sg key (arrOf st) (sa + na) (sa + na + nb) := by have := g.srt (sb, nb, pw2) (by rw [eL]; simp); dsimp only at this; rwa [c4] at this
  -- the pending runs afterwards
  have pn : (((pendingOf st).setIfInBounds i (sa, na + nb, pw)).eraseIdxIfInBounds (i + 1)).toList = (pendingOf st).toList.take i ++ (sa, na + nb, pw) :: (pendingOf st).toList.drop (i + 2) := by
    rw [Array.eraseIdxIfInBounds, dif_pos (by simp; lia), Array.toList_eraseIdx, Array.toList_setIfInBounds]
    conv => lhs; rw [eL]
    have hl : ((pendingOf st).toList.take i).length = i := by simp; lia
    rw [List.set_append_right _ _ (by lia), hl, Nat.sub_self, List.set_cons_zero, List.eraseIdx_append_of_length_le (by lia), hl, Nat.add_sub_cancel_left, List.eraseIdx_cons_succ, List.eraseIdx_cons_zero]
  have hps : (((pendingOf st).setIfInBounds i (sa, na + nb, pw)).eraseIdxIfInBounds (i + 1)).size + 1 = (pendingOf st).size := by
    rw [← Array.length_toList, pn]; simp; lia
  -- what is wanted of a state with these runs
  have fin : ∀ st', kindOf st' = κ → failedOf st' = none → pendingOf st' = (((pendingOf st).setIfInBounds i (sa, na + nb, pw)).eraseIdxIfInBounds (i + 1)) → (arrOf st').Perm (arrOf st) → (∀ j, ¬ (sa ≤ j ∧ j < sa + na + nb) → (arrOf st')[j]? = (arrOf st)[j]?) →
      Sg key (arrOf st') sa (sa + na + nb) → Q true st' := fun st' k1 k2 k3 k4 k5 k6 => by
    refine h st' ⟨k1, k2, k4.trans g.perm, ?_, ?_, hle⟩ (fun j hj => k5 j (by lia)) (by rw [k3]; exact hps)
    · rw [k3, pn]
      refine Cov.app.mpr ⟨sa, c1, rfl, by show 1 ≤ na + nb; lia, ?_⟩
      show Cov _ (sa + (na + nb)) lo
      rw [← Nat.add_assoc]; exact c6
    · intro x hx
      rw [k3, pn] at hx
      rcases List.mem_append.mp hx with hx | hx
      · have q := g.srt x (by rw [eL]; exact List.mem_append_left _ hx)
        have r := Cov.mem c1 x hx
        intro i' j' z1 z2 z3
        show O.kle _ _
        rw [at_congr (k5 i' (by lia)), at_congr (k5 j' (by lia))]
        exact q i' j' z1 z2 z3
      · rcases List.mem_cons.mp hx with rfl | hx
        · show Sg key (arrOf st') sa (sa + (na + nb))
          rw [← Nat.add_assoc]; exact k6
        · have q := g.srt x (by rw [eL]; exact List.mem_append_right _ (List.mem_cons_of_mem _ (List.mem_cons_of_mem _ hx)))
          have r := Cov.mem c6 x hx
          intro i' j' z1 z2 z3
          show O.kle _ _
          rw [at_congr (k5 i' (by lia)), at_congr (k5 j' (by lia))]
          exact q i' j' z1 z2 z3
  subst c4
  delta mergeAt'
  refine wpS_bind (wpS_get ?_)
  rw [eA, eB]
  dsimp only
  refine wpS_bind (wpS_set ?_)
  refine wpS_bind (elem_ok (show sa + na < (arrOf st).size by lia) (wpS_bind (gal_ok C g.kind (show 0 < na by lia) (show sa + na ≤ (arrOf st).size by lia) (fun j hj => at_in hPs (by lia)) (at_in hPs (by lia)) (mono_bfS sgA) fun k z1 z2 z3 => ?_)))
  dsimp only
  have low : ∀ j, sa ≤ j → j < sa + k → kl key (at_ (arrOf st) j) (at_ (arrOf st) (sa + na)) := fun j j1 j2 => by
    have := bf_le (z2 (j - sa) (by lia)); rwa [show sa + (j - sa) = j by lia] at this
  have high : ∀ j, sa + k ≤ j → j < sa + na → O.klt (key (at_ (arrOf st) (sa + na))) (key (at_ (arrOf st) j)) := fun j j1 j2 => by
    have := bf_gt (z3 (j - sa) (by lia) (by lia)); rwa [show sa + (j - sa) = j by lia] at this
  by_cases e1 : na - k = 0
  · rw [if_pos (by simpa using e1)]
    refine wpS_pure (fin _ g.kind g.fail rfl (Array.Perm.refl _) (fun _ _ => rfl) fun i' j' y1 y2 y3 => ?_)
    show kl key (at_ (arrOf st) i') (at_ (arrOf st) j')
    by_cases d1 : j' < sa + na
    · exact sgA i' j' y1 y2 d1
    · by_cases d2 : i' < sa + na
      · exact KeyOrd.kle_trans (low i' y1 (by lia)) (sgB _ j' (Nat.le_refl _) (by lia) y3)
      · exact sgB i' j' (by lia) y2 y3
  rw [if_neg (by simpa using e1)]
  have hlast : sa + k + (na - k) - 1 = sa + na - 1 := by lia
  rw [hlast]
  refine wpS_bind (elem_ok (show sa + na - 1 < (arrOf st).size by lia) (wpS_bind (gal_ok C g.kind (show nb - 1 < nb by lia) (show sa + na + nb ≤ (arrOf st).size by lia) (fun j hj => at_in hPs (by lia)) (at_in hPs (by lia)) (mono_btS sgB) fun m y1 y2 y3 => ?_)))
  dsimp only
  have lowB : ∀ j, sa + na ≤ j → j < sa + na + m → O.klt (key (at_ (arrOf st) j)) (key (at_ (arrOf st) (sa + na - 1))) := fun j j1 j2 => by
    have := bt_lt (y2 (j - (sa + na)) (by lia)); rwa [show sa + na + (j - (sa + na)) = j by lia] at this
  have highB : ∀ j, sa + na + m ≤ j → j < sa + na + nb → kl key (at_ (arrOf st) (sa + na - 1)) (at_ (arrOf st) j) := fun j j1 j2 => by
    have := bt_ge (y3 (j - (sa + na)) (by lia) (by lia)); rwa [show sa + na + (j - (sa + na)) = j by lia] at this
  by_cases e2 : m = 0
  · rw [if_pos (by simpa using e2)]
    refine wpS_pure (fin _ g.kind g.fail rfl (Array.Perm.refl _) (fun _ _ => rfl) fun i' j' x1 x2 x3 => ?_)
    show kl key (at_ (arrOf st) i') (at_ (arrOf st) j')
    by_cases d1 : j' < sa + na
    · exact sgA i' j' x1 x2 d1
    · by_cases d2 : i' < sa + na
      · exact KeyOrd.kle_trans (sgA i' (sa + na - 1) x1 (by lia) (by lia)) (highB j' (by lia) x3)
      · exact sgB i' j' (by lia) x2 x3
  rw [if_neg (by simpa using e2)]
  have hx1 : sa + na ≤ (arrOf st).size := by lia
  have hx2 : sa + na + m ≤ (arrOf st).size := by lia
  have sx := ex_sz (a := arrOf st) (i := sa + k) hx1
  have sy := ex_sz (a := arrOf st) (i := sa + na) hx2
  have srX := ex_srt (key := key) (i := sa + k) hx1 (fun i' j' a1 a2 a3 => sgA i' j' (by lia) a2 a3)
  have srY := ex_srt (key := key) (i := sa + na) hx2 (fun i' j' a1 a2 a3 => sgB i' j' a1 a2 (by lia))
  have PX : ∀ x ∈ ((arrOf st).extract (sa + k) (sa + na)).toList, P x := fun x hx => by obtain ⟨j, j1, j2, rfl⟩ := ex_mem hx1 hx; exact at_in hPs (by lia)
  have PY : ∀ x ∈ ((arrOf st).extract (sa + na) (sa + na + m)).toList, P x := fun x hx => by obtain ⟨j, j1, j2, rfl⟩ := ex_mem hx2 hx; exact at_in hPs (by lia)
  have H0 : ∀ y ∈ ((arrOf st).extract (sa + k) (sa + na)).toList, kl key (at_ ((arrOf st).extract (sa + na) (sa + na + m)) 0) y := fun y hy => by
    obtain ⟨j, j1, j2, rfl⟩ := ex_mem hx1 hy
    rw [ex_at hx2 (by lia), Nat.add_zero]
    exact KeyOrd.kle_of_klt (high j j1 j2)
  have HL : ∀ x ∈ ((arrOf st).extract (sa + na) (sa + na + m)).toList, kl key x (at_ ((arrOf st).extract (sa + k) (sa + na)) (((arrOf st).extract (sa + k) (sa + na)).size - 1)) := fun x hx => by
    obtain ⟨j, j1, j2, rfl⟩ := ex_mem hx2 hx
    rw [sx, ex_at hx1 (by lia), show sa + k + (sa + na - (sa + k) - 1) = sa + na - 1 by lia]
    exact KeyOrd.kle_of_klt (lowB j j1 j2)
  have eXY : ((arrOf st).extract (sa + k) (sa + na + m)).toList = ((arrOf st).extract (sa + k) (sa + na)).toList ++ ((arrOf st).extract (sa + na) (sa + na + m)).toList := by
    rw [← Array.toList_append, Array.extract_append_extract]
    congr 2 <;> lia
  -- the end, by either way
  have done : ∀ (r : Array Keyed) (st1 : SortSt), kindOf st1 = κ → failedOf st1 = none → pendingOf st1 = (((pendingOf st).setIfInBounds i (sa, na + nb, pw)).eraseIdxIfInBounds (i + 1)) → arrOf st1 = arrOf st →
      Res (kl key) ((arrOf st).extract (sa + k) (sa + na)).toList ((arrOf st).extract (sa + na) (sa + na + m)).toList r.toList →
      Q true (SortSt.mk' (kindOf st1) ((r.toList.zipIdx).foldl (fun a x => a.setIfInBounds (sa + k + x.2) x.1) (arrOf st1)) (pendingOf st1) (gallopOf st1) (failedOf st1)) := fun r st1 k1 k2 k3 k4 R => by
    rw [k4]
    obtain ⟨R1, R2⟩ := R
    rw [← eXY] at R1
    obtain ⟨b1, b2⟩ := back_ok (a := arrOf st) (m := r) (lo := sa + k) (hi := sa + na + m) hx2 (by lia) R1
    generalize (r.toList.zipIdx).foldl (fun a x => a.setIfInBounds (sa + k + x.2) x.1) (arrOf st) = a' at b1 b2 ⊢
    have hrl : r.size = sa + na + m - (sa + k) := by have := R1.length_eq; rw [Array.length_toList, Array.length_toList, ex_sz hx2] at this; exact this
    have mid : ∀ j, sa + k ≤ j → j < sa + na + m → at_ a' j = at_ r (j - (sa + k)) := fun j j1 j2 => at_congr ((b2 j).1 ⟨j1, j2⟩)
    have out : ∀ j, ¬ (sa + k ≤ j ∧ j < sa + na + m) → at_ a' j = at_ (arrOf st) j := fun j hj => at_congr ((b2 j).2 hj)
    have midv : ∀ j, sa + k ≤ j → j < sa + na + m → ∃ t, sa + k ≤ t ∧ t < sa + na + m ∧ at_ a' j = at_ (arrOf st) t := fun j j1 j2 => by
      have hm : at_ r (j - (sa + k)) ∈ r.toList := at_mem (by lia)
      obtain ⟨t, t1, t2, t3⟩ := ex_mem hx2 (R1.mem_iff.mp hm)
      exact ⟨t, t1, t2, by rw [mid j j1 j2, t3]⟩
    refine fin _ k1 k2 k3 b1 (fun j hj => (b2 j).2 (by lia)) fun i' j' x1 x2 x3 => ?_
    show kl key (at_ a' i') (at_ a' j')
    by_cases d1 : i' < sa + k
    · rw [out i' (by lia)]
      by_cases d2 : j' < sa + k
      · rw [out j' (by lia)]; exact sgA i' j' x1 x2 (by lia)
      · by_cases d3 : j' < sa + na + m
        · obtain ⟨t, t1, t2, t3⟩ := midv j' (by lia) d3
          rw [t3]
          by_cases d4 : t < sa + na
          · exact sgA i' t x1 (by lia) d4
          · exact KeyOrd.kle_trans (low i' x1 d1) (sgB _ t (Nat.le_refl _) (by lia) (by lia))
        · rw [out j' (by lia)]
          exact KeyOrd.kle_trans (low i' x1 d1) (sgB _ j' (Nat.le_refl _) (by lia) x3)
    · by_cases d2 : i' < sa + na + m
      · by_cases d3 : j' < sa + na + m
        · rw [mid i' (by lia) d2, mid j' (by lia) d3]
          exact srt_at R2 (by lia) (by lia)
        · obtain ⟨t, t1, t2, t3⟩ := midv i' (by lia) d2
          rw [t3, out j' (by lia)]
          by_cases d4 : t < sa + na
          · exact KeyOrd.kle_trans (sgA t (sa + na - 1) (by lia) (by lia) (by lia)) (highB j' (by lia) x3)
          · exact sgB t j' (by lia) (by lia) x3
      · rw [out i' (by lia), out j' (by lia)]
        exact sgB i' j' (by lia) x2 x3
  by_cases hcase : na - k ≤ m
  · rw [if_pos hcase]
    refine wpS_bind (mlo_ok C g.kind (show 0 < ((arrOf st).extract (sa + k) (sa + na)).size by rw [sx]; lia) (show 0 < ((arrOf st).extract (sa + na) (sa + na + m)).size by rw [sy]; lia) PX PY srX srY H0 HL fun r st1 S R => ?_)
    refine wpS_bind (wpS_modify (wpS_bind (wpS_get ?_)))
    have hf : failedOf st1 = none := S.2.2.2.trans g.fail
    show wpS _ _ _ _ (pure (failedOf st1).isNone) _ _
    rw [hf]
    exact wpS_pure (done r st1 (S.1.trans g.kind) hf S.2.2.1 S.2.1 R)
  · rw [if_neg hcase]
    refine wpS_bind (mhi_ok C g.kind (show 0 < ((arrOf st).extract (sa + k) (sa + na)).size by rw [sx]; lia) (show 0 < ((arrOf st).extract (sa + na) (sa + na + m)).size by rw [sy]; lia) PX PY srX srY H0 HL fun r st1 S R => ?_)
    refine wpS_bind (wpS_modify (wpS_bind (wpS_get ?_)))
    have hf : failedOf st1 = none := S.2.2.2.trans g.fail
    show wpS _ _ _ _ (pure (failedOf st1).isNone) _ _
    rw [hf]
    exact wpS_pure (done r st1 (S.1.trans g.kind) hf S.2.2.1 S.2.1 R)
end
end Tim
end
section
set_option maxHeartbeats 4000000
namespace Tim
open PySem PyProof.Rows
def bare (x : Nat × Nat × Nat) : Nat × Nat := (x.1, x.2.1)
theorem Cov.bare : ∀ {l m : List (Nat × Nat × Nat)} {f t : Nat}, l.map bare = m.map bare → Cov l f t → Cov m f t
  | [], [], _, _, _, h => h
  | [], _ :: _, _, _, e, _ => by cases e
  | _ :: _, [], _, _, e, _ => by cases e
  | x :: l, y :: m, f, t, e, ⟨h1, h2, h3⟩ => by
    have e' := List.cons.inj e
    have e1 : x.1 = y.1 := (Prod.mk.inj e'.1).1
    have e2 : x.2.1 = y.2.1 := (Prod.mk.inj e'.1).2
    exact ⟨e1 ▸ h1, e2 ▸ h2, e2 ▸ Cov.bare e'.2 h3⟩
theorem mod_bare (l : List (Nat × Nat × Nat)) (i pw : Nat) : (l.modify i fun x => (x.1, x.2.1, pw)).map bare = l.map bare := by
  apply List.ext_getElem?
  intro j
  rw [List.getElem?_map, List.getElem?_map, List.getElem?_modify]
  cases l[j]? with
  | none => rfl
  | some x => by_cases h : i = j <;> simp [h, bare]
section
variable {prog : Program} {w : World} {A : Around} {E : Value → Shared → Prop} {s : Shared} {κ : SortKind} {O : KeyOrd} {key : Keyed → O.α} {P : Keyed → Prop}
theorem G.push {a0 : Array Keyed} {st : SortSt} {lo n : Nat} (g : G κ key a0 st lo) (S : Sg key (arrOf st) lo (lo + n)) (h1 : 1 ≤ n) (h2 : lo + n ≤ a0.size) : G κ key a0 (setPending st ((pendingOf st).push (lo, n, 0))) (lo + n) := by
  have e : (pendingOf (setPending st ((pendingOf st).push (lo, n, 0)))).toList = (pendingOf st).toList ++ [(lo, n, 0)] := Array.toList_push ..
  refine ⟨g.kind, g.fail, g.perm, ?_, fun x hx => ?_, h2⟩
  · rw [e]; exact Cov.app.mpr ⟨lo, g.cov, rfl, h1, rfl⟩
  · rw [e] at hx
    rcases List.mem_append.mp hx with hx | hx
    · exact g.srt x hx
    · rw [List.mem_singleton] at hx; subst hx; exact S
theorem G.pow {a0 : Array Keyed} {st : SortSt} {lo : Nat} (g : G κ key a0 st lo) (i pw : Nat) : G κ key a0 (setPending st ((pendingOf st).modify i fun x => (x.1, x.2.1, pw))) lo := by
  have e : (pendingOf (setPending st ((pendingOf st).modify i fun x => (x.1, x.2.1, pw)))).toList = (pendingOf st).toList.modify i fun x => (x.1, x.2.1, pw) := Array.toList_modify ..
  have b := mod_bare (pendingOf st).toList i pw
  refine ⟨g.kind, g.fail, g.perm, ?_, fun x hx => ?_, g.le⟩
  · rw [e]; exact Cov.bare b.symm g.cov
  · rw [e] at hx
    have hb : bare x ∈ ((pendingOf st).toList.map bare) := by rw [← b]; exact List.mem_map_of_mem hx
    obtain ⟨y, hy, ey⟩ := List.mem_map.mp hb
    have q := g.srt y hy
    have e1 : y.1 = x.1 := (Prod.mk.inj ey).1
    have e2 : y.2.1 = x.2.1 := (Prod.mk.inj ey).2
    rw [e1, e2] at q
    exact q
theorem Sg.keep {a b : Array Keyed} {lo hi : Nat} (h : Sg key a lo hi) (e : ∀ j, lo ≤ j → b[j]? = a[j]?) : Sg key b lo hi := fun i j z1 z2 z3 => by
  rw [at_congr (e i z1), at_congr (e j (by lia))]; exact h i j z1 z2 z3
theorem sort_ok (C : Asks prog w A s κ O key P) {st : SortSt} {Q : Unit → SortSt → Prop} (hP : ∀ x ∈ (arrOf st).toList, P x) (hk : kindOf st = κ) (hf : failedOf st = none) (hp : pendingOf st = #[]) (h1 : 1 ≤ (arrOf st).size)
    (h : ∀ st', (arrOf st').Perm (arrOf st) → failedOf st' = none → (arrOf st').toList.Pairwise (kl key) → Q () st') : wpS (model prog w) A E s sortRuns' Q st := by
  have g0 : G κ key (arrOf st) st 0 := ⟨hk, hf, Array.Perm.refl _, by rw [hp]; rfl, (fun x hx => by rw [hp] at hx; cases hx), Nat.zero_le _⟩
  rw [sortRuns'_eq]
  refine wpS_bind (wpS_get ?_)
  dsimp only
  refine wpS_bind (wpS_mono (wpS_forRange (I := fun x c st1 => ∃ lo, c = (none, lo) ∧ x ≤ lo ∧ G κ key (arrOf st) st1 lo) (Q := fun c st1 => c = (none, (arrOf st).size) ∧ G κ key (arrOf st) st1 (arrOf st).size) ?step ?fin ⟨0, rfl, Nat.le_refl _, g0⟩) ?post)
  case fin =>
    rintro c st1 ⟨lo, rfl, hx, g⟩
    have := g.le
    have e : lo = (arrOf st).size := by lia
    subst e; exact ⟨rfl, g⟩
  case post =>
    rintro c st1 ⟨rfl, g⟩
    dsimp only
    refine wpS_bind (wpS_mono (wpS_forRange (I := fun x c st2 => c = (none, ()) ∧ (pendingOf st2).size + x ≤ (arrOf st).size ∧ G κ key (arrOf st) st2 (arrOf st).size) (Q := fun c st2 => c = (none, ()) ∧ (pendingOf st2).size ≤ 1 ∧ G κ key (arrOf st) st2 (arrOf st).size) ?ls ?lf ⟨rfl, by have := g.cov.le; rw [Array.length_toList] at this; lia, g⟩) ?lp)
    case lf =>
      rintro c st2 ⟨rfl, b1, g2⟩
      exact ⟨rfl, by lia, g2⟩
    case ls =>
      rintro x c st2 _ hx ⟨rfl, b1, g2⟩
      refine wpS_bind (wpS_get ?_)
      by_cases hp1 : (pendingOf st2).size ≤ 1
      · rw [if_pos hp1]; exact wpS_pure ⟨rfl, hp1, g2⟩
      rw [if_neg hp1]
      have hi : ∀ b : Bool, (if b = true then (pendingOf st2).size - 2 - 1 else (pendingOf st2).size - 2) + 1 < (pendingOf st2).size := fun b => by
        cases b with
        | true => rw [if_pos rfl]; lia
        | false => rw [if_neg (by simp)]; lia
      refine wpS_bind (mAt_ok C hP g2 (hi _) fun st3 g3 _ b3 => ?_)
      rw [if_neg (by simp)]
      exact wpS_pure ⟨rfl, by lia, g3⟩
    case lp =>
      rintro c st2 ⟨rfl, b1, g2⟩
      refine wpS_pure (h st2 g2.perm g2.fail ?_)
      have hz : (arrOf st2).size = (arrOf st).size := g2.perm.size_eq
      have S : Sg key (arrOf st2) 0 (arrOf st).size := by
        have c := g2.cov
        have q := g2.srt
        rw [← Array.length_toList] at b1
        match hl : (pendingOf st2).toList, b1 with
        | [], _ => rw [hl] at c; have c : 0 = (arrOf st).size := c; lia
        | [x], _ =>
          rw [hl] at c q
          obtain ⟨c1, _, c3⟩ := c
          have := q x List.mem_cons_self
          have c3 : 0 + x.2.1 = (arrOf st).size := c3
          rwa [c1, c3] at this
        | _ :: _ :: _, b1 => simp only [List.length_cons] at b1; lia
      rw [List.pairwise_iff_getElem]
      intro i j hi hj hij
      have gt : ∀ z (hz : z < (arrOf st2).toList.length), (arrOf st2).toList[z] = at_ (arrOf st2) z := fun z hz' => by
        have e1 := at_toList (a := arrOf st2) (i := z) (by rw [← Array.length_toList]; exact hz')
        rw [List.getElem?_eq_getElem hz'] at e1
        exact Option.some.inj e1
      rw [gt i hi, gt j hj]
      rw [Array.length_toList] at hi hj
      exact S i j (Nat.zero_le _) (by lia) (by lia)
  case step =>
    rintro x c st1 _ hx ⟨lo, rfl, hxl, g⟩
    have hle := g.le
    have hsz : (arrOf st1).size = (arrOf st).size := g.perm.size_eq
    dsimp only
    by_cases hge : lo ≥ (arrOf st).size
    · rw [if_pos hge]
      have e : lo = (arrOf st).size := by lia
      subst e; exact wpS_pure ⟨rfl, g⟩
    rw [if_neg hge]
    have hPs : ∀ x ∈ (arrOf st1).toList, P x := fun x hx => hP x ((Array.perm_iff_toList_perm.mp g.perm).mem_iff.mp hx)
    have step : ∀ {st2 : SortSt}, Mv lo st1 st2 → G κ key (arrOf st) st2 lo := fun {st2} M => by
      refine ⟨M.kind.trans g.kind, M.fail.trans g.fail, M.perm.trans g.perm, by rw [M.pend]; exact g.cov, fun x hx => ?_, hle⟩
      rw [M.pend] at hx
      have q := g.srt x hx
      have r := g.cov.mem x hx
      intro i j z1 z2 z3
      rw [at_congr (M.pre i (by lia)), at_congr (M.pre j (by lia))]
      exact q i j z1 z2 z3
    refine wpS_bind (run_ok C g.kind hPs (by lia) (by lia) fun n st2 M2 n1 n2 S2 => ?_)
    dsimp only
    by_cases hm : n < minRun' (arrOf st).size (arrOf st).size 0
    · rw [if_pos hm]
      refine wpS_bind (wpS_lift (wpAny_rule ⟨rfl, ?_⟩))
      have hz2 : (arrOf st2).size = (arrOf st).size := M2.size.trans hsz
      refine wpS_bind (bin_ok C (M2.kind.trans g.kind) (M2.all hPs) (by rw [hz2]; lia) n1 (by lia) S2 fun st3 M3 S3 => ?_)
      rw [if_neg (by simp)]
      have M4 : Mv lo st1 st3 := ⟨M3.kind.trans M2.kind, M3.pend.trans M2.pend, M3.fail.trans M2.fail, M3.perm.trans M2.perm, fun i hi => (M3.pre i hi).trans (M2.pre i hi)⟩
      have g4 := step M4
      have n3 : 1 ≤ min ((arrOf st).size - lo) (minRun' (arrOf st).size (arrOf st).size 0) := by lia
      have n4 : lo + min ((arrOf st).size - lo) (minRun' (arrOf st).size (arrOf st).size 0) ≤ (arrOf st).size := by lia
      generalize min ((arrOf st).size - lo) (minRun' (arrOf st).size (arrOf st).size 0) = N at S3 n3 n4 ⊢
      refine wpS_bind (wpS_get ?_)
      cases hb : (pendingOf st3).back? with
      | none =>
        dsimp only
        exact wpS_bind (wpS_modify (wpS_pure ⟨_, rfl, by lia, g4.push S3 n3 n4⟩))
      | some z =>
        obtain ⟨s1, l1, p1⟩ := z
        dsimp only
        refine wpS_bind (wpS_mono (wpS_forRange (I := fun _ c st5 => c = (none, ()) ∧ G κ key (arrOf st) st5 lo ∧ Sg key (arrOf st5) lo (lo + N)) (Q := fun c st5 => c = (none, ()) ∧ G κ key (arrOf st) st5 lo ∧ Sg key (arrOf st5) lo (lo + N)) ?ms ?mf ⟨rfl, g4, S3⟩) ?mp)
        case mf => rintro c st5 z; exact z
        case ms =>
          rintro y c st5 _ hy ⟨rfl, g5, S5⟩
          refine wpS_bind (wpS_get ?_)
          by_cases hp2 : (pendingOf st5).size > 1
          · rw [if_pos hp2]
            obtain ⟨u1, u2, u3, hu⟩ : ∃ u1 u2 u3, (pendingOf st5)[(pendingOf st5).size - 2]? = some (u1, u2, u3) := ⟨_, _, _, getElem?_pos _ _ (by lia)⟩
            rw [hu]
            dsimp only
            split
            · exact wpS_pure ⟨rfl, g5, S5⟩
            · refine wpS_bind (mAt_ok C hP g5 (by lia) fun st6 g6 k6 _ => ?_)
              rw [if_neg (by simp)]
              exact wpS_pure ⟨rfl, g6, S5.keep k6⟩
          · rw [if_neg hp2]
            exact wpS_pure ⟨rfl, g5, S5⟩
        case mp =>
          rintro c st5 ⟨rfl, g5, S5⟩
          dsimp only
          exact wpS_bind (wpS_modify (wpS_bind (wpS_modify (wpS_pure ⟨_, rfl, by lia, (g5.pow _ _).push S5 n3 n4⟩))))
    · rw [if_neg hm]
      have g4 := step M2
      have n4 : lo + n ≤ (arrOf st).size := by lia
      refine wpS_bind (wpS_get ?_)
      cases hb : (pendingOf st2).back? with
      | none =>
        dsimp only
        exact wpS_bind (wpS_modify (wpS_pure ⟨_, rfl, by lia, g4.push S2 n1 n4⟩))
      | some z =>
        obtain ⟨s1, l1, p1⟩ := z
        dsimp only
        refine wpS_bind (wpS_mono (wpS_forRange (I := fun _ c st5 => c = (none, ()) ∧ G κ key (arrOf st) st5 lo ∧ Sg key (arrOf st5) lo (lo + n)) (Q := fun c st5 => c = (none, ()) ∧ G κ key (arrOf st) st5 lo ∧ Sg key (arrOf st5) lo (lo + n)) ?ms ?mf ⟨rfl, g4, S2⟩) ?mp)
        case mf => rintro c st5 z; exact z
        case ms =>
          rintro y c st5 _ hy ⟨rfl, g5, S5⟩
          refine wpS_bind (wpS_get ?_)
          by_cases hp2 : (pendingOf st5).size > 1
          · rw [if_pos hp2]
            obtain ⟨u1, u2, u3, hu⟩ : ∃ u1 u2 u3, (pendingOf st5)[(pendingOf st5).size - 2]? = some (u1, u2, u3) := ⟨_, _, _, getElem?_pos _ _ (by lia)⟩
            rw [hu]
            dsimp only
            split
            · exact wpS_pure ⟨rfl, g5, S5⟩
            · refine wpS_bind (mAt_ok C hP g5 (by lia) fun st6 g6 k6 _ => ?_)
              rw [if_neg (by simp)]
              exact wpS_pure ⟨rfl, g6, S5.keep k6⟩
          · rw [if_neg hp2]
            exact wpS_pure ⟨rfl, g5, S5⟩
        case mp =>
          rintro c st5 ⟨rfl, g5, S5⟩
          dsimp only
          exact wpS_bind (wpS_modify (wpS_bind (wpS_modify (wpS_pure ⟨_, rfl, by lia, (g5.pow _ _).push S5 n1 n4⟩))))
end
end Tim
end
section
set_option maxHeartbeats 4000000
namespace Tim
open PySem PyProof.Rows L2
section
variable {prog : Program} {w : World} {A : Around} {E : Value → Shared → Prop} {s : Shared} {κ : SortKind} {O : KeyOrd} {key : Keyed → O.α} {P : Keyed → Prop}
def midHeap (h : Heap) (a : Addr) (vs : List Value) : Heap := ((h.update a (Obj.mapSeq fun _ => #[])).push (seqObj "tuple" vs.toArray 0)).push (seqObj "list" #[] 0)
theorem mid_old {h : Heap} {a b : Addr} {vs : List Value} {o : Obj} (hb : b ≠ a) (e : h.get? b = some o) : (midHeap h a vs).get? b = some o :=
  Heap.get?_push_of_some _ (Heap.get?_push_of_some _ (((Heap.SameBut.update h a _).2 b hb).trans e))
theorem zip_self (vs : List Value) : (vs.toArray.zip vs.toArray).toList = vs.map fun v => (v, v) := by
  apply List.ext_getElem <;> simp
theorem sort_any {a : Addr} {vs : List Value} {n : Nat} {R : PySem.Fin → Shared → Prop} (ho : s.heap.get? a = some (seqObj "list" vs.toArray n)) (h2 : 2 ≤ vs.length) (hz : vs.length ≤ sizeLine)
    (hk : ∀ Q' : SortKind → Shared → Prop, Q' κ { s with heap := midHeap s.heap a vs } → wpAny (model prog w) A (keyKind' vs.toArray) Q' E { s with heap := midHeap s.heap a vs })
    (C : Asks prog w A { s with heap := midHeap s.heap a vs } κ O key P) (hP : ∀ v ∈ vs, P (v, v))
    (h : ∀ out : List Value, out.Perm vs → out.Pairwise (fun x y => O.kle (key (x, x)) (key (y, y))) → R (.done (.ret .none)) { s with heap := sortedHeap s.heap a vs out.toArray }) :
    wpAny (model prog w) A (Builtin.«list.sort» ⟨[.ref a], []⟩) R E s := by
  have many : ¬ vs.toArray.size < 2 := by rw [List.size_toArray]; lia
  obtain ⟨e, he⟩ : ∃ e, (s.heap.update a (Obj.mapSeq fun _ => #[])).get? a = some (seqObj "list" #[] e) := ⟨_, get?_update_seq ho (fun _ => #[])⟩
  rw [list_sort_plain]
  refine wpAny_bind (listItems_at ho rfl (wpAny_bind (listUpdate_at ho rfl (wpAny_bind (seqEpoch_at he rfl (wpAny_bind (wpAny_newTuple (wpAny_bind (wpAny_newList (wpAny_holding ?_))) (hsz := hz))))) (by rw [List.size_toArray]; lia))))
  have he2 : (midHeap s.heap a vs).get? a = some (seqObj "list" #[] e) := Heap.get?_push_of_some _ (Heap.get?_push_of_some _ he)
  dsimp only
  rw [if_neg many, if_neg many]
  refine wpAny_bind (hk _ ?_)
  have hl0 : (arrOf (SortSt.mk' κ (vs.toArray.zip vs.toArray) #[] 7 none)).toList = vs.map fun v => (v, v) := zip_self vs
  refine wpAny_bind (wpAny_mono (sort_ok (E := E) C (st := SortSt.mk' κ (vs.toArray.zip vs.toArray) #[] 7 none) (Q := fun _ st' => (arrOf st').toList.Perm (vs.map fun v => (v, v)) ∧ failedOf st' = none ∧ (arrOf st').toList.Pairwise (kl key))
    (fun x hx => ?_) rfl rfl rfl ?_ fun st' q1 q2 q3 => ⟨?_, q2, q3⟩) ?_ fun _ _ z => z)
  · rw [hl0] at hx
    obtain ⟨v, hv, rfl⟩ := List.mem_map.mp hx
    exact hP v hv
  · rw [← Array.length_toList, hl0, List.length_map]; lia
  · rw [← hl0]; exact Array.perm_iff_toList_perm.mp q1
  rintro ⟨⟨⟩, st'⟩ s' ⟨rfl, pm, hf, pw⟩
  dsimp only
  have same : ∀ x ∈ (arrOf st').toList, x = (x.2, x.2) := fun x hx => by
    obtain ⟨v, _, rfl⟩ := List.mem_map.mp (pm.mem_iff.mp hx); rfl
  have eo : (arrOf st').map (·.2) = ((arrOf st').toList.map (·.2)).toArray := by apply Array.ext' ; simp
  have p2 : ((arrOf st').toList.map (·.2)).Perm vs := by have := pm.map (·.2); rw [List.map_map] at this; simpa [Function.comp_def] using this
  have w2 : ((arrOf st').toList.map (·.2)).Pairwise (fun x y => O.kle (key (x, x)) (key (y, y))) := by
    rw [List.pairwise_map]
    refine List.Pairwise.imp_of_mem (fun {x y} hx hy q => ?_) pw
    have q : O.kle (key x) (key y) := q
    rw [same x hx, same y hy] at q
    exact q
  refine wpAny_bind (seqEpoch_at he2 rfl (wpAny_bind (listUpdate_at he2 rfl ?_ (hsz2 := by rw [eo, List.size_toArray, p2.length_eq]; lia))))
  rw [eo, hf]
  simp only [bne_self_eq_false, Bool.false_eq_true, if_false]
  exact wpAny_pure (h _ p2 w2)
def preHeap (h : Heap) (vs : List Value) : Heap := ((h.push (seqObj "list" #[] 0)).update h.objs.size (Obj.mapSeq (· ++ vs.toArray))).push (seqObj "list" vs.toArray 0)
theorem pre_size (h : Heap) (vs : List Value) : ((h.push (seqObj "list" #[] 0)).update h.objs.size (Obj.mapSeq (· ++ vs.toArray))).objs.size = h.objs.size + 1 := by rw [Heap.size_update, size_push']
theorem pre_old {h : Heap} {b : Addr} {vs : List Value} {o : Obj} (e : h.get? b = some o) : (midHeap (preHeap h vs) (h.objs.size + 1) vs).get? b = some o := by
  have hb : b < h.objs.size := Heap.lt_size e
  refine mid_old (Nat.ne_of_lt (Nat.lt_succ_of_lt hb)) (Heap.get?_push_of_some _ (((Heap.SameBut.update _ _ _).2 b (Nat.ne_of_lt hb)).trans (Heap.get?_push_of_some _ e)))
theorem sorted_any {l : Addr} {vs : List Value} {Q : Value → Shared → Prop} (hl : s.heap.IsList l vs.toArray) (h2 : 2 ≤ vs.length) (hz : vs.length ≤ sizeLine)
    (hk : ∀ Q' : SortKind → Shared → Prop, Q' κ { s with heap := midHeap (preHeap s.heap vs) (s.heap.objs.size + 1) vs } → wpAny (model prog w) A.in1.in1 (keyKind' vs.toArray) Q' E { s with heap := midHeap (preHeap s.heap vs) (s.heap.objs.size + 1) vs })
    (C : Asks prog w A.in1.in1 { s with heap := midHeap (preHeap s.heap vs) (s.heap.objs.size + 1) vs } κ O key P) (hP : ∀ v ∈ vs, P (v, v))
    (h : ∀ out : List Value, out.Perm vs → out.Pairwise (fun x y => O.kle (key (x, x)) (key (y, y))) → Q (.ref (s.heap.objs.size + 1)) { s with heap := sortedAll s.heap vs out.toArray }) :
    wpAny (model prog w) A (call (.builtin "sorted") [.ref l]) Q E s := by
  have z1 := pre_size s.heap vs
  have z2 : (preHeap s.heap vs).get? (s.heap.objs.size + 1) = some (seqObj "list" vs.toArray 0) := z1 ▸ Heap.get?_push_size _ rfl
  have col := fun R r => collect_list (prog := prog) (w := w) (A := A.in1) (E := E) (Q := R) hl r hz
  refine Calls.call_function_entry kind_sorted plain_sorted entry_sorted (args_sorted1 _) (wpAny_bind (m := checkCount "sorted" 1 1 _) (wpAny_pure (wpAny_bind (m := collect (.ref l)) (col _ (wpAny_bind (wpAny_newList ?_ (hsz := hz)))))))
  dsimp only
  rw [z1]
  refine wpAny_bind (wpAny_holding (wpAny_call_entry slot_list_sort ⟨_, z2, rfl⟩ entry_list_sort (sort_any (κ := κ) (O := O) (key := key) (P := P) z2 h2 hz hk C hP fun out p q => ⟨_, rfl, wpAny_pure ⟨_, rfl, h out p q⟩⟩) (args_list_sort _)))
def dec (h : Heap) : Value → List Int
  | .ref p => match h.get? p with
    | some o => match o.data with
      | .seq xs _ => xs.toList.map numOf
      | _ => []
    | none => []
  | _ => []
def IsT (h : Heap) (v : Value) (ns : List Int) : Prop := ∃ p its, v = .ref p ∧ IsTup h p (List.toArray its) ∧ Vals (ns.map V.int) its
theorem vals_nums : ∀ {ns : List Int} {its : List Value}, Vals (ns.map V.int) its → its.map numOf = ns
  | [], its, h => by have h : Vals [] its := h; cases h; rfl
  | n :: ns, its, h => by
    have h : Vals (V.int n :: ns.map V.int) its := h
    cases h with
    | cons a b => obtain ⟨t, rfl⟩ := a; rw [List.map_cons, vals_nums b]; rfl
theorem IsT.dec {h : Heap} {v : Value} {ns : List Int} (q : IsT h v ns) : dec h v = ns := by
  obtain ⟨p, its, rfl, ⟨o, ho, _, n, hd⟩, r⟩ := q
  unfold Tim.dec
  dsimp only
  rw [ho]
  dsimp only
  rw [hd]
  dsimp only
  exact vals_nums r
theorem asks_tups {h : Heap} : Asks prog w A { s with heap := h } (tuples' true) lexOrd (fun x => dec h x.1) (fun x => ∃ ns, IsT h x.1 ns) := by
  intro x y C hx hy q
  obtain ⟨ns, hx⟩ := hx
  obtain ⟨ms, hy⟩ := hy
  have q : C (HT.lexLt (dec h x.1) (dec h y.1)) { s with heap := h } := q
  rw [hx.dec, hy.dec] at q
  obtain ⟨p, us, ex, ⟨o, ho, _, n, hd⟩, r⟩ := hx
  obtain ⟨p', vs, ey, ⟨o', ho', _, n', hd'⟩, r'⟩ := hy
  rw [ex, ey]
  exact PySem.W.kat_lt (s := { s with heap := h }) ho hd ho' hd' (lex_ask ns ms 0 r r' (by simp) q)
end
end Tim
namespace L2
open PySem PySem.Spec PyProof.Rows
def rSortU (K : PySem.W.Frag) : List V → Hp → VK → Prop := fun xs H Q => ∃ (l : Addr) (ps : List Addr) (mss : List (List Int)), xs = [.ref l] ∧ SqL K H l (ps.map V.ref) ∧ Tups K H ps mss ∧ (∀ ms ∈ mss, ms ≠ []) ∧
  ∀ (D : Addr) (ps' : List Addr), H D = none → Tups K H ps' (srt mss) → Q (.ref D) (upd H D (.lst (ps'.map V.ref)))
def adr : Value → Addr
  | .ref a => a
  | _ => 0
theorem tups_of {K : PySem.W.Frag} {H : Hp} (f : Addr → List Int) : ∀ {ps : List Addr}, (∀ p ∈ ps, SqT K H p ((f p).map V.int)) → Tups K H ps (ps.map f)
  | [], _ => .nil
  | p :: ps, h => .cons (h p List.mem_cons_self) (tups_of f fun q hq => h q (List.mem_cons_of_mem _ hq))
theorem tups_each {K : PySem.W.Frag} {H : Hp} (f : Addr → List Int) : ∀ {ps : List Addr} {mss : List (List Int)}, Tups K H ps mss → (∀ p ms, SqT K H p (ms.map V.int) → f p = ms) → ps.map f = mss ∧ ∀ p ∈ ps, SqT K H p ((f p).map V.int)
  | _, _, .nil, _ => ⟨rfl, fun _ h => nomatch h⟩
  | _, _, .cons h t, hf => by
    obtain ⟨e, q⟩ := tups_each f t hf
    refine ⟨by rw [List.map_cons, e, hf _ _ h], fun p hp => ?_⟩
    rcases List.mem_cons.mp hp with rfl | hp
    · rw [hf _ _ h]; exact h
    · exact q p hp
theorem call_sortU {X : Cx} : CallR X (.builtin "sorted") (rSortU X.K) := by
  intro pins s σ H xs us Q I r h
  obtain ⟨l, ps, mss, rfl, hl, ht, hne, q⟩ := h
  obtain ⟨u, rfl, rx⟩ := vals1 r
  cases rx
  obtain ⟨vs, rv, pl, hz⟩ := I.list hl
  have hlen : ps.length = mss.length := Paired.length ht
  have evs := vals_refs rv
  subst evs
  rw [List.length_map] at hz
  by_cases h2 : ps.length < 2
  · refine sorted_few pl.isList (by simpa using h2) ?_
    obtain ⟨e, he⟩ := sortedAll_at s.heap (ps.map Value.ref) (ps.map Value.ref).toArray
    have es : srt mss = mss := (srt_of (List.Perm.refl _) (by
      match mss, hlen with
      | [], _ => exact List.Pairwise.nil
      | [_], _ => simp
      | _ :: _ :: _, hl => simp at hl; lia)).symm
    exact ⟨.ref (s.heap.objs.size + 1), _, I.laid (t' := s.toks) (o := .lst (ps.map V.ref)) (fun b o e => sortedAll_old e) (Nat.le_succ _) ⟨by rw [List.length_map]; exact hz, _, e, rv, he⟩, rfl, q _ ps (I.hok.fresh (Nat.le_succ _)) (by rw [es]; exact ht)⟩
  · have isT : ∀ p ms, SqT X.K H p (ms.map V.int) → Tim.IsT (Tim.midHeap (Tim.preHeap s.heap (ps.map Value.ref)) (s.heap.objs.size + 1) (ps.map Value.ref)) (.ref p) ms := fun p ms hp => by
      obtain ⟨its, r1, ⟨o, ho, hc, n, hd⟩, _⟩ := I.tuple hp
      exact ⟨p, its, rfl, ⟨o, Tim.pre_old ho, hc, n, hd⟩, r1⟩
    have isT0 : ∀ p ms, SqT X.K H p (ms.map V.int) → Tim.IsT s.heap (.ref p) ms := fun p ms hp => by
      obtain ⟨its, r1, t1, _⟩ := I.tuple hp
      exact ⟨p, its, rfl, t1, r1⟩
    obtain ⟨em, each⟩ := tups_each (fun p => Tim.dec s.heap (.ref p)) ht fun p ms hp => (isT0 p ms hp).dec
    have dd : ∀ p ∈ ps, Tim.dec (Tim.midHeap (Tim.preHeap s.heap (ps.map Value.ref)) (s.heap.objs.size + 1) (ps.map Value.ref)) (.ref p) = Tim.dec s.heap (.ref p) := fun p hp => (isT p _ (each p hp)).dec
    obtain ⟨fs, k1, k2, k3⟩ := katTups_of (h := Tim.midHeap (Tim.preHeap s.heap (ps.map Value.ref)) (s.heap.objs.size + 1) (ps.map Value.ref)) (fun a xs hx => let ⟨its, r1, ⟨o, ho, hc, n, hd⟩, _⟩ := I.tuple hx; ⟨its, r1, ⟨o, Tim.pre_old ho, hc, n, hd⟩⟩) ht hne
    refine Tim.sorted_any (κ := tuples' true) (O := lexOrd) (key := fun x => Tim.dec (Tim.midHeap (Tim.preHeap s.heap (ps.map Value.ref)) (s.heap.objs.size + 1) (ps.map Value.ref)) x.1)
      (P := fun x => ∃ ns, Tim.IsT (Tim.midHeap (Tim.preHeap s.heap (ps.map Value.ref)) (s.heap.objs.size + 1) (ps.map Value.ref)) x.1 ns) pl.isList (by simp; lia) (by simpa using hz) (fun Q' hq => ?_) Tim.asks_tups (fun v hv => ?_) fun out pm pw => ?_
    · refine PySem.W.kat_kind (T := .type "int") k1 (by lia) (fun v hv => ?_) rfl ?_
      · obtain ⟨i, t, rfl⟩ := k3 v hv
        exact PySem.W.Looks.of_pure rfl
      · rw [show ((Value.type "int") != Value.type "tuple") = true by decide +kernel]
        exact hq
    · obtain ⟨p, hp, rfl⟩ := List.mem_map.mp hv
      exact ⟨_, isT p _ (each p hp)⟩
    · have pa : (out.map adr).Perm ps := by
        have := pm.map adr
        rw [List.map_map] at this
        simpa [adr, Function.comp_def] using this
      have eo : out = (out.map adr).map Value.ref := by
        rw [List.map_map]
        conv => lhs; rw [← List.map_id out]
        refine List.map_congr_left fun v hv => ?_
        obtain ⟨p, _, rfl⟩ := List.mem_map.mp (pm.mem_iff.mp hv)
        rfl
      have hin : ∀ p ∈ out.map adr, p ∈ ps := fun p hp => pa.mem_iff.mp hp
      have es : (out.map adr).map (fun p => Tim.dec s.heap (.ref p)) = srt mss := by
        refine srt_of ?_ ?_
        · rw [← em]; exact pa.map _
        · rw [List.pairwise_map, List.pairwise_map]
          refine List.Pairwise.imp_of_mem (fun {x y} hx hy z => ?_) pw
          obtain ⟨p, hp, rfl⟩ := List.mem_map.mp (pm.mem_iff.mp hx)
          obtain ⟨p', hp', rfl⟩ := List.mem_map.mp (pm.mem_iff.mp hy)
          have z : HT.lexLt (Tim.dec _ (.ref p')) (Tim.dec _ (.ref p)) = false := z
          rw [dd p hp, dd p' hp'] at z
          show lexLe (Tim.dec s.heap (.ref p)) (Tim.dec s.heap (.ref p')) = true
          unfold lexLe
          rw [z]; rfl
      obtain ⟨e, he⟩ := sortedAll_at s.heap (ps.map Value.ref) out.toArray
      rw [eo] at he
      refine ⟨.ref (s.heap.objs.size + 1), upd H (s.heap.objs.size + 1) (.lst ((out.map adr).map V.ref)), I.laid (t' := s.toks) (o := .lst ((out.map adr).map V.ref)) (fun b o e => sortedAll_old e) (Nat.le_succ _) ⟨by rw [List.length_map, pa.length_eq]; exact hz, _, e, refs_vals _, ?_⟩, rfl, q _ _ (I.hok.fresh (Nat.le_succ _)) ?_⟩
      · rw [← eo] at he ⊢; exact he
      · rw [← es]; exact tups_of _ fun p hp => each p (hin p hp)
end L2
end
section
set_option maxHeartbeats 4000000
namespace L2
open PySem PySem.Spec PyProof.Rows
section
variable {prog : Program} {w : World} {A : Around} {E : Value → Shared → Prop} {s : Shared}
end
end L2
end
section
set_option maxHeartbeats 4000000
namespace L2
open PySem PySem.Spec PyProof.Rows
section
variable {prog : Program} {w : World} {A : Around} {E : Value → Shared → Prop} {s : Shared}
end
section
variable {X : Cx}
end
end L2
namespace VL
open PySem L2
section
variable {K : PySem.W.Frag} {X : Cx} {e o : Expr} {te : TE} {va : VT} {pos apos tp : Pos}
end
end VL
end
section
set_option maxHeartbeats 4000000
namespace L2
open PySem PySem.Spec PyProof.Rows
section
variable {prog : Program} {w : World} {κ : Type} [DecidableEq κ] {knd : HeapKind prog w κ} {A : Around} {E : Value → Shared → Prop} {s : Shared}
end
section
variable {X : Cx}
end
end L2
end
section
set_option maxHeartbeats 4000000
namespace L2
open PySem PySem.Spec PyProof.Rows
section
variable {X : Cx} {k1 k2 k3 e1 e2 e3 ie : Expr} {t1 t2 t3 ti : TE} {n1 n2 n3 : Int} {j1 j2 j3 : Nat} {p1 p2 p3 dpos pos : Pos}
theorem then_stand {M : Model} {A : Around} {E : Value → Shared → Prop} {s : Shared} {m : Sem Value} {q : Pos} {Q : Value → Shared → Prop} (h : wpAny M A m Q E s) : wpAny M A (do let x ← m; standAt q; pure x) Q E s :=
  wpAny_bind (wpAny_mono h (fun _ _ z => wpAny_bind (wpAny_standAt (wpAny_pure z))) fun _ _ z => z)
end
end L2
namespace VL
open PySem L2
section
variable {K : PySem.W.Frag} {X : Cx} {m : Bool} {e o ie e1 e2 e3 : Expr} {te ti t1 t2 t3 : TE} {va vi v1 v2 v3 : VT} {pos dpos p1 p2 p3 : Pos} {n1 n2 n3 : Int} {j1 j2 j3 : Nat} {S : List Sl} {Q : VR → List Sl → Prop}
end
end VL
end
section
set_option maxHeartbeats 4000000
namespace VL
open PySem L2
section
variable {K : PySem.W.Frag} {X : Cx} {m : Bool} {e : Expr} {es : List Expr} {tr : TA} {vr : VTA} {x : Str} {p0 p pos : Pos} {j k : Nat} {ps : List Str} {S : List Sl} {QN : List D → List Sl → Prop}
def vSortU (vr : VTA) : VTN := fun S Q => vr S fun rs S1 => ∃ r mss, rs = [r] ∧ get S1 r = some (eL mss) ∧ (∀ ms ∈ mss, ms ≠ []) ∧ Q ((srt mss).map eT) S1
theorem vn_sortU (hK : X.K = K) (hex : X.ex = []) (hg : Gl X "sorted") (hm : X.mg "sorted" = none) (hb : bootBuiltins "sorted" = some (.builtin "sorted")) (ha : VA K X false [e] tr vr) (he : starEach [e] X.env = [(false, eval e X.env)] := by rfl) :
    VN K X (.Call (.Name "sorted" p) [e] [] pos) (tCB (rSortU K) tr) (vSortU vr) :=
  ⟨by subst hK; exact pe_callB call_sortU hg hm hb ha.pe (by decide) (by decide) he rfl, fun H0 Z σ H S Q C k t hc => ha.snd H0 Z σ H S _ _ k t fun vs H1 rs S1 k1 st1 rrs zq1 => by
    obtain ⟨r, mss, e1, e2, h1, q⟩ := zq1
    subst e1
    obtain ⟨v, rfl, rv⟩ := rrs.one
    obtain ⟨a, ys, rfl, hq, rr⟩ := rv.elems k1 e2
    obtain ⟨ps, rfl, ht, _⟩ := reps_tups rr
    exact ⟨a, ps, mss, rfl, hq, ht, h1, fun l ps' hl ht' => hc l _ _ H1 _ S1 k1 st1 hl (upd_grow hl) upd_same (reps_new hl (reps_of_tups k1.tupN ht')) q⟩⟩
def kSortU (QN : List D → List Sl → Prop) : List VR → List Sl → Prop := fun rs S1 => ∃ r mss, rs = [r] ∧ get S1 r = some (eL mss) ∧ (∀ ms ∈ mss, ms ≠ []) ∧ QN ((srt mss).map eT) S1
theorem j_sortU (h : vr S (kSortU QN)) : vSortU vr S QN := h
theorem j_kSortU {r : VR} {mss : List (List Int)} (e : get S r = some (eL mss)) (h1 : ∀ ms ∈ mss, ms ≠ []) (h : QN ((srt mss).map eT) S) : kSortU QN [r] S := ⟨r, mss, rfl, e, h1, h⟩
variable {va : VT}
end
end VL
end
section
set_option maxHeartbeats 4000000
namespace L2
open PySem PySem.Spec PyProof.Rows
section
variable {prog : Program} {w : World} {A : Around} {E : Value → Shared → Prop} {s : Shared}
end
section
variable {X : Cx}
end
end L2
namespace VL
open PySem L2
section
variable {K : PySem.W.Frag} {X : Cx} {e o tg : Expr} {te : TE} {va : VT} {S : List Sl} {QN : List D → List Sl → Prop}
end
end VL
end
section
set_option maxHeartbeats 4000000
namespace VL
open PySem L2
section
variable {K : PySem.W.Frag} {X : Cx} {stm : Stmt} {ts : TS} {t : VTS}
end
end VL
end
section
set_option maxHeartbeats 4000000
namespace L2
open PySem PySem.Spec PyProof.Rows
section
variable {X : Cx}
end
end L2
namespace VL
open PySem L2
section
variable {K : PySem.W.Frag} {X : Cx} {o ie : Expr} {ti : TE} {vi : VT} {pos posS pc : Pos} {n : Int} {j : Nat}
end
end VL
end
section
set_option maxHeartbeats 4000000
namespace L2
open PySem PySem.Spec PyProof.Rows PySem.W
section
variable {kx vx t1 i1 t2 i2 : Expr} {f1 f2 : List Expr} {scope : Scope} {pos : Pos}
end
section
variable {X : Cx}
end
end L2
end
section
set_option maxHeartbeats 4000000
namespace VL
open PySem L2 PySem.W
section
variable {K : PySem.W.Frag} {X : Cx} {kx vx t1 i1 t2 i2 : Expr} {f1 f2 : List Expr} {scope : Scope} {pos : Pos}
end
section
variable {α β : Type} {n : Nat} {ix : List Nat} {g g2 : VG} {vt vt2 : VTT} {vi vi2 : VTN} {vk vv : VT} {S : List Sl}
end
end VL
end
section
set_option maxHeartbeats 4000000
namespace L2
open PySem PySem.Spec PyProof.Rows PySem.W
section
variable {X : Cx}
end
end L2
namespace VL
open PySem L2 PySem.W
section
variable {K : PySem.W.Frag} {X : Cx} {kx vx t1 i1 t2 i2 : Expr} {f1 f2 : List Expr} {scope : Scope} {pos : Pos}
end
end VL
end
section
set_option maxHeartbeats 4000000
namespace L2
open PySem PySem.Spec PyProof.Rows PySem.W
section
variable {X : Cx}
end
end L2
namespace VL
open PySem L2
section
variable {K : PySem.W.Frag} {X : Cx} {e : Expr} {tr : TA} {vr : VTA} {S : List Sl} {QN : List D → List Sl → Prop} {p pos : Pos}
end
end VL
end
section
set_option maxHeartbeats 4000000
namespace L2
open PySem PySem.Spec PyProof.Rows
section
variable {prog : Program} {w : World} {A : Around} {E : Value → Shared → Prop} {s : Shared}
end
section
variable {X : Cx}
end
end L2
end
section
set_option maxHeartbeats 4000000
namespace VL
open PySem L2
section
variable {K : PySem.W.Frag} {X : Cx} {c o tg : Expr} {a : List Stmt} {tc : TT} {vt : VTT} {ta : TS} {i j : Nat} {pos apos cpos ipos : Pos} {S : List Sl}
end
end VL
end
section
set_option maxHeartbeats 4000000
namespace L2
open PySem PySem.Spec PyProof.Rows
section
variable {prog : Program} {w : World} {A : Around} {E : Value → Shared → Prop} {s : Shared}
end
section
variable {X : Cx}
end
end L2
namespace VL
open PySem L2
section
variable {K : PySem.W.Frag} {X : Cx}
end
end VL
end
section
set_option maxHeartbeats 4000000
namespace L2
open PySem PySem.Spec PyProof.Rows
section
variable {X : Cx}
end
end L2
namespace VL
open PySem L2
section
variable {K : PySem.W.Frag} {X : Cx} {m : Bool} {pos : Pos} {S : List Sl}
end
end VL
end
section
set_option maxHeartbeats 4000000
namespace VL
open PySem L2
section
variable {K : PySem.W.Frag} {X : Cx} {c e tg : Expr} {a : List Stmt} {tc : TT} {vt : VTT} {ta : TS} {wi : TI} {vi : VTN} {j : Nat} {pos ipos : Pos} {S : List Sl}
def lendS : Sl → Sl
  | .own ds => .val (.lst ds)
  | .odi ks ds => .val (.dic ks ds)
  | .pen _ _ => .no
  | s => s
def lend (S : List Sl) : List Sl := S.map lendS
theorem wk_lend : ∀ S : List Sl, Wk S (lend S)
  | [] => .nil
  | s :: r => by
    cases s with
    | own ds => exact .fz (wk_lend r)
    | odi ks ds => exact .fd (wk_lend r)
    | pen ad ns => exact .drop (wk_lend r)
    | no => exact .keep (wk_lend r)
    | val d => exact .keep (wk_lend r)
    | fre d => exact .keep (wk_lend r)
def Idle (S : List Sl) : Prop := ∀ (i : Nat) (s : Sl), S[i]? = some s → s.mut = false
theorem idle_lend (S : List Sl) : Idle (lend S) := fun i s h => by
  unfold lend at h
  rw [List.getElem?_map] at h
  cases hs : S[i]? with
  | none => rw [hs] at h; cases h
  | some t =>
    rw [hs] at h
    obtain rfl := Option.some.inj h
    cases t <;> rfl
theorem Idle.set (h : Idle S) {j : Nat} {s : Sl} (hs : s.mut = false) : Idle (S.set j s) := fun i t e => by
  by_cases e1 : j = i
  · subst e1
    rw [List.getElem?_set_self'] at e
    cases hr : S[j]? with
    | none => rw [hr] at e; cases e
    | some z => rw [hr] at e; obtain rfl := Option.some.inj e; exact hs
  · rw [List.getElem?_set_ne e1] at e; exact h i t e
theorem Idle.mo (h : Idle S) {Z : AP} {σ : St} {b : Addr} : Mo Z σ S b ↔ Z b :=
  ⟨fun m => by
    rcases m with ⟨k, t, h1, h2, _⟩ | m
    · rw [h k t h1] at h2; cases h2
    · exact m, .inr⟩
theorem Idle.grow (h : Idle S) {H H' : Hp} {Z : AP} {σ σ' : St} {S' : List Sl} (st : Step Z σ S H σ' S' H') : ∀ b, H b ≠ none → H' b = H b := fun b hb => by
  by_cases z : Z b
  · exact st.2.2 b z hb
  · exact (st.1 b (fun m => z (h.mo.mp m)) hb).1
theorem OK.setNo {H0 H : Hp} {Z : AP} {σ : St} {v : L2.V} (k : OK K H0 Z σ H S) (hj : j < S.length) : OK K H0 Z (σ.set j (some v)) H (S.set j .no) ∧ Step Z σ S H (σ.set j (some v)) (S.set j .no) H := by
  have n : ∀ b, NM Z σ S b → NM Z (σ.set j (some v)) (S.set j .no) b := fun b x z => by
    rcases mo_put z with z | ⟨z, _⟩
    · exact x z
    · cases z
  exact ⟨k.put hj (fun b x _ => ⟨n b x, rfl⟩) (fun _ _ _ _ _ _ _ => rfl) trivial (fun _ _ _ _ _ _ z => nomatch z) (fun _ e => e) k.zl (fun _ z => nomatch z), fun b x _ => ⟨rfl, n b x⟩, fun _ e => e, fun _ _ _ => rfl⟩
end
end VL
end
section
set_option maxHeartbeats 4000000
namespace VL
open PySem L2
def At (P : AP) : FP := fun o => ∃ b, o = some b ∧ P b
abbrev ZP (Z P : AP) : AP := fun b => Z b ∨ P b
section
variable {K : PySem.W.Frag} {N N' : AP} {F : FP} {H H' H0 : Hp} {Z P : AP} {σ σ' : St} {S S' : List Sl}
mutual
theorem Rep.mark {v : L2.V} {d : D} : Rep K N F H v d → Rep K N (fun o => F o ∧ ∀ a, o = some a → N a ∧ IsM (H a)) H v d
  | .int i => .int i
  | .bl i => .bl i
  | .non => .non
  | .str i => .str i
  | .ty i => .ty i
  | .tup n h r => .tup n h (Reps.mark r)
  | .tupK h r => .tupK h (Reps.mark r)
  | .lst n f h r => .lst n ⟨f, fun a e => by cases e; exact ⟨n, by rw [h]; trivial⟩⟩ h (Reps.mark r)
  | .lstF n f h r => .lstF n ⟨f, fun a e => nomatch e⟩ h (Reps.mark r)
  | .lstK f h r => .lstK ⟨f, fun a e => nomatch e⟩ h (Reps.mark r)
  | .dic n f h e rk r => .dic n ⟨f, fun a e => by cases e; exact ⟨n, by rw [h]; trivial⟩⟩ h e (Reps.mark rk) (Reps.mark r)
  | .exc n h e => .exc n h e
theorem Reps.mark {vs : List L2.V} {ds : List D} : Reps K N F H vs ds → Reps K N (fun o => F o ∧ ∀ a, o = some a → N a ∧ IsM (H a)) H vs ds
  | .nil => .nil
  | .cons h t => .cons (Rep.mark h) (Reps.mark t)
end
theorem OK.growP (k : OK K H0 Z σ H S) (h : ∀ a, H a ≠ none → H' a = H a) (hP : ∀ b, P b → H b = none ∧ IsM (H' b)) : OK K H0 (ZP Z P) σ H' S := by
  have nm : ∀ a, NM Z σ S a → H a ≠ none → NM (ZP Z P) σ S a := fun a n e z => by
    rcases z with z | z | z
    · exact n (.inl z)
    · exact n (.inr z)
    · exact e (hP a z).1
  have hm : ∀ a, NM Z σ S a → H a ≠ none → NM (ZP Z P) σ S a ∧ H' a = H a := fun a n e => ⟨nm a n e, h a e⟩
  refine ⟨k.len, fun i o s e1 e2 => ?_, k.inj, fun a e => k.dom a (Classical.byContradiction fun z => by rw [h a z] at e; exact z e), fun a z => ?_, fun i s a h1 h2 h3 z => ?_⟩
  · have q := k.at_ i o s e1 e2
    cases s with
    | no => trivial
    | val d => obtain ⟨v, e, r⟩ := q; exact ⟨v, e, r.mono hm fun _ x => x⟩
    | fre d => obtain ⟨v, e, r⟩ := q; exact ⟨v, e, r.mono hm fun _ x => x⟩
    | own ds => obtain ⟨a, vs, e, e', e0, r⟩ := q; exact ⟨a, vs, e, by rw [h a (by simp [e'])]; exact e', e0, r.mono hm fun _ x => x⟩
    | pen ad ns => obtain ⟨a, e, e1, e'⟩ := q; exact ⟨a, e, e1, by rw [h a (by simp [e'])]; exact e'⟩
    | odi ks ds => obtain ⟨a, vs, e, ⟨ob, e'⟩, e0, ek, r⟩ := q; exact ⟨a, vs, e, ⟨ob, by rw [h a (by simp [e'])]; exact e'⟩, e0, ⟨ek.1, ek.2.mono hm fun _ x => x⟩, r.mono hm fun _ x => x⟩
  · rcases z with z | z
    · have e := k.zl a z
      rw [h a e.ne]; exact e
    · exact (hP a z).2
  · rcases z with z | z
    · exact k.nz i s a h1 h2 h3 z
    · exact (k.mo (.inl ⟨i, s, h1, h2, h3⟩)).ne (hP a z).1
theorem nm_less {a : Addr} (n : NM (ZP Z P) σ S a) : NM Z σ S a := fun z => n (z.elim .inl fun y => .inr (.inl y))
theorem OK.chP (k : OK K H0 (ZP Z P) σ H S) (h : ∀ a, H a ≠ none → ¬P a → H' a = H a) (hd : ∀ a, H' a = none → H a = none) (dj : ∀ b, P b → ¬Z b) : OK K H0 Z σ H' S := by
  have hm : ∀ a, NM (ZP Z P) σ S a → H a ≠ none → NM Z σ S a ∧ H' a = H a := fun a n e => ⟨nm_less n, h a e fun z => n (.inr (.inr z))⟩
  have np : ∀ (i : Nat) (s : Sl) (a : Addr), S[i]? = some s → s.mut = true → σ[i]? = some (some (L2.V.ref a)) → ¬P a := fun i s a h1 h2 h3 z => k.nz i s a h1 h2 h3 (.inr z)
  refine ⟨k.len, fun i o s e1 e2 => ?_, k.inj, fun a e => k.dom a (hd a e), fun a z => ?_, fun i s a h1 h2 h3 z => k.nz i s a h1 h2 h3 (.inl z)⟩
  · have q := k.at_ i o s e1 e2
    cases s with
    | no => trivial
    | val d => obtain ⟨v, e, r⟩ := q; exact ⟨v, e, r.mono hm fun _ x => x⟩
    | fre d => obtain ⟨v, e, r⟩ := q; exact ⟨v, e, r.mono hm fun _ x => x⟩
    | own ds => obtain ⟨a, vs, e, e', e0, r⟩ := q; exact ⟨a, vs, e, by rw [h a (by simp [e']) (np i _ a e2 rfl (by rw [e1, e]))]; exact e', e0, r.mono hm fun _ x => x⟩
    | pen ad ns => obtain ⟨a, e, e3, e'⟩ := q; exact ⟨a, e, e3, by rw [h a (by simp [e']) (np i _ a e2 rfl (by rw [e1, e]))]; exact e'⟩
    | odi ks ds => obtain ⟨a, vs, e, ⟨ob, e'⟩, e0, ek, r⟩ := q; exact ⟨a, vs, e, ⟨ob, by rw [h a (by simp [e']) (np i _ a e2 rfl (by rw [e1, e]))]; exact e'⟩, e0, ⟨ek.1, ek.2.mono hm fun _ x => x⟩, r.mono hm fun _ x => x⟩
  · have e := k.zl a (.inl z)
    by_cases p : P a
    · exact absurd z (dj a p)
    · rw [h a e.ne p]; exact e
def lendF : Sl → Sl
  | .fre d => .val d
  | s => lendS s
theorem idle_lendF (S : List Sl) : Idle (S.map lendF) := fun i s h => by
  rw [List.getElem?_map] at h
  cases hs : S[i]? with
  | none => rw [hs] at h; cases h
  | some t =>
    rw [hs] at h
    obtain rfl := Option.some.inj h
    cases t <;> rfl
theorem OK.lendF (k : OK K H0 Z σ H S) : OK K H Z σ H (S.map VL.lendF) := by
  have il := idle_lendF S
  have kl := (k.wk (wk_lend S)).1
  have inz := idle_lend S
  refine ⟨by rw [k.len, List.length_map], fun i o s e1 e2 => ?_, fun i j a s t h1 _ m => ?_, fun _ e => e, k.zl, fun i s a h1 m => ?_⟩
  · rw [List.getElem?_map] at e2
    cases hs : S[i]? with
    | none => rw [hs] at e2; cases e2
    | some t =>
      rw [hs] at e2
      obtain rfl := Option.some.inj e2
      have q := kl.at_ i o (lendS t) e1 (by unfold lend; rw [List.getElem?_map, hs]; rfl)
      have hm : ∀ a, NM Z σ (lend S) a → H a ≠ none → NM Z σ (S.map VL.lendF) a ∧ H a = H a := fun a n _ => ⟨fun z => n (.inr (il.mo.mp z)), rfl⟩
      cases t with
      | no => trivial
      | val d => obtain ⟨v, e, r⟩ := q; exact ⟨v, e, r.mono hm fun _ x => x⟩
      | fre d => obtain ⟨v, e, r⟩ := q; exact ⟨v, e, r.mono hm fun _ _ => trivial⟩
      | own ds => obtain ⟨v, e, r⟩ := q; exact ⟨v, e, r.mono hm fun _ x => x⟩
      | pen ad ns => trivial
      | odi ks ds => obtain ⟨v, e, r⟩ := q; exact ⟨v, e, r.mono hm fun _ x => x⟩
  · rw [il i s h1] at m; cases m
  · rw [il i s h1] at m; cases m
structure Grd (K : PySem.W.Frag) (H0 : Hp) (Z P : AP) (σ1 : St) (S1 : List Sl) (H1 : Hp) (σ : St) (H : Hp) (S : List Sl) (i : Nat) (nw : Prop) (v : L2.V) (d : D) : Prop where
  inn : nw → ∃ a vs ds, v = .ref a ∧ d = .lst ds ∧ P a ∧ H a = some (.lst vs) ∧ Reps K (fun b => (P b ∨ NM (ZP Z P) σ S b) ∧ b ≠ a) (At P) H vs ds
  ok : OK K H0 (ZP Z P) σ H S
  sv : σ[i]? = some (some v)
  sn : S[i]? = some .no
  rep : Rep K (fun b => P b ∨ NM (ZP Z P) σ S b) (At P) H v d
  dj : ∀ b, P b → ¬Z b
  yo : ∀ b, P b → H1 b = none
  st : Step Z σ1 S1 H1 σ S H
section
variable {σ1 : St} {S1 : List Sl} {H1 : Hp} {i : Nat} {nw : Prop} {v : L2.V} {d : D}
theorem Grd.step (g : Grd K H0 Z P σ1 S1 H1 σ H S i nw v d) (k : OK K H0 (ZP Z P) σ' H' S') (st : Step (ZP Z P) σ S H σ' S' H') (e1 : σ'[i]? = σ[i]?) (e2 : S'[i]? = some .no) : Grd K H0 Z P σ1 S1 H1 σ' H' S' i nw v d where
  inn := fun hn => by
    obtain ⟨a, vs, ds, e3, e4, hP, hl, r⟩ := g.inn hn
    refine ⟨a, vs, ds, e3, e4, hP, (st.2.2 a (.inr hP) (by rw [hl]; exact fun z => nomatch z)).trans hl, r.mono (fun b n e => ?_) fun _ x => x⟩
    rcases n with ⟨p | n, ne⟩
    · exact ⟨⟨.inl p, ne⟩, st.2.2 b (.inr p) e⟩
    · exact ⟨⟨.inr (st.1 b n e).2, ne⟩, (st.1 b n e).1⟩
  ok := k
  sv := e1.trans g.sv
  sn := e2
  rep := g.rep.mono (fun a n e => by
    rcases n with p | n
    · exact ⟨.inl p, st.2.2 a (.inr p) e⟩
    · exact ⟨.inr (st.1 a n e).2, (st.1 a n e).1⟩) fun _ x => x
  dj := g.dj
  yo := g.yo
  st := ⟨fun a n e => by
      obtain ⟨z1, z2⟩ := g.st.1 a n e
      obtain ⟨y1, y2⟩ := st.1 a (fun m => by
        rcases m with m | m | m
        · exact z2 (.inl m)
        · exact z2 (.inr m)
        · exact e (g.yo a m)) (by rw [z1]; exact e)
      exact ⟨y1.trans z1, nm_less y2⟩, fun a e => g.st.2.1 a (st.2.1 a e), fun a z e => by
      have z1 := g.st.2.2 a z e
      exact (st.2.2 a (.inl z) (by rw [z1]; exact e)).trans z1⟩
theorem Grd.look (g : Grd K H0 Z P σ1 S1 H1 σ H S i nw v d) : OK K H0 Z σ H ((lend S).set i (.val d)) := by
  have k0 : OK K H0 Z σ H S := g.ok.chP (fun _ _ _ => rfl) (fun _ e => e) g.dj
  have kl := (k0.wk (wk_lend S)).1
  have hi : i < (lend S).length := by unfold lend; rw [List.length_map]; exact (List.getElem?_eq_some_iff.mp g.sn).1
  have := (kl.setVal (i := i) (v := v) (d := d) hi (g.rep.mono (fun a n _ => ⟨fun z => by
    have z := (idle_lend S).mo.mp z
    rcases n with p | n
    · exact g.dj a p z
    · exact n (.inr (.inl z)), rfl⟩) fun _ _ => trivial)).1
  have e : σ.set i (some v) = σ := by
    apply List.ext_getElem?
    intro j
    rw [List.getElem?_set]
    by_cases h : i = j
    · subst h
      have hl := (List.getElem?_eq_some_iff.mp g.sv).1
      rw [if_pos rfl, if_pos hl, g.sv]
    · rw [if_neg h]
  rw [e] at this
  exact this
end
abbrev VTG := D → VEnds → List Sl → Prop
def SndGd (K : PySem.W.Frag) (i : Nat) (nw : Prop) (ts : TS) (t : VTG) : Prop := ∀ H0 Z P σ1 S1 H1 σ H S v d V E, Grd K H0 Z P σ1 S1 H1 σ H S i nw v d → t d V S → Lf K H0 Z σ1 S1 H1 V E → ts E σ H
structure GSs (K : PySem.W.Frag) (X : Cx) (i : Nat) (nw : Prop) (sts : List Stmt) (ts : TS) (t : VTG) : Prop where
  ps : PSs X sts ts
  snd : SndGd K i nw ts t
end
section
variable {K : PySem.W.Frag} {X : Cx} {i j : Nat} {nw : Prop} {e c o tg : Expr} {te : TE} {va : VT} {pos pos' ipos : Pos} {x : Str} {rest : List Stmt} {u : TS} {t : VTG} {w : VTS}
def vGrd (i : Nat) (va : VT) (t : VTG) : VTS := fun V S => i < S.length ∧ va (S.map lendF) fun r S' => S' = S.map lendF ∧ ∃ d, r = .d d ∧ t d V (S.set i .no)
theorem grd_in {H0 H H' : Hp} {Z : AP} {σ : St} {S : List Sl} {v : L2.V} {d : D} (k : OK K H0 Z σ H S) (hil : i < S.length) (gr : ∀ a, H a ≠ none → H' a = H a) (rr : Rep K (NM Z σ (S.map lendF)) (Fr H) H' v d)
    (inn : nw → ∃ a vs ds, v = .ref a ∧ d = .lst ds ∧ H a = none ∧ H' a = some (.lst vs) ∧ Reps K (fun b => NM Z σ (S.map lendF) b ∧ b ≠ a) (Fr H) H' vs ds) :
    Grd K H0 Z (fun b => H b = none ∧ IsM (H' b)) σ S H (σ.set i (some v)) H' (S.set i .no) i nw v d := by
  have hz : ∀ a, Z a → H a ≠ none := fun a z => (k.zl a z).ne
  obtain ⟨k2, st2⟩ := (k.growP (P := fun b => H b = none ∧ IsM (H' b)) gr fun _ p => p).setNo (v := v) hil
  have st1 := ((Step.grow (Z := Z) (σ := σ) (S := S) gr).trans ((k.grow gr).setNo (v := v) hil).2)
  have old : ∀ a, Mo (ZP Z fun b => H b = none ∧ IsM (H' b)) (σ.set i (some v)) (S.set i .no) a → (H a = none ∧ IsM (H' a)) ∨ H a ≠ none := fun a m => by
    rcases mo_put m with m | ⟨m, _⟩
    · rcases m with m | m | m
      · exact .inr (k.mo (.inl m)).ne
      · exact .inr (hz a m)
      · exact .inl m
    · cases m
  have fr : ∀ a, H a = none → (H a = none ∧ IsM (H' a)) ∨ NM (ZP Z fun b => H b = none ∧ IsM (H' b)) (σ.set i (some v)) (S.set i .no) a := fun a ha => by
    by_cases p : IsM (H' a)
    · exact .inl ⟨ha, p⟩
    · exact .inr fun m => (old a m).elim (fun y => p y.2) fun y => y ha
  have mk : ∀ a, ¬((H a = none ∧ IsM (H' a)) ∨ NM (ZP Z fun b => H b = none ∧ IsM (H' b)) (σ.set i (some v)) (S.set i .no) a) → IsM (H' a) := fun a n => Classical.byContradiction fun z => n (.inr fun m => z (k2.mo m))
  refine ⟨fun hn => ?_, k2, List.getElem?_set_self (by rw [k.len]; exact hil), List.getElem?_set_self hil, ?_, fun b p z => hz b z p.1, fun b p => p.1, st1⟩
  · obtain ⟨a, vs, ds, e1, e2, ha, hl, r⟩ := inn hn
    refine ⟨a, vs, ds, e1, e2, ⟨ha, by rw [hl]; trivial⟩, hl, ((r.mark.avoid (N' := fun b => ((H b = none ∧ IsM (H' b)) ∨ NM (ZP Z fun b => H b = none ∧ IsM (H' b)) (σ.set i (some v)) (S.set i .no) b) ∧ b ≠ a) (fun b n => ?_) fun b f => ?_).mono (fun _ n _ => ⟨n, rfl⟩) fun o f => ?_)⟩
    · by_cases e : b = a
      · rw [e, hl]; trivial
      · exact mk b fun z => n ⟨z, e⟩
    · obtain ⟨⟨c, ec, hc⟩, f2⟩ := f
      cases ec
      exact ⟨fr b hc, (f2 b rfl).1.2⟩
    · obtain ⟨⟨c, ec, hc⟩, f2⟩ := f
      exact ⟨c, ec, hc, (f2 c ec).2⟩
  · refine (rr.mark.avoid mk fun b f => ?_).mono (fun _ n _ => ⟨n, rfl⟩) fun o f => ?_
    · obtain ⟨⟨c, ec, hc⟩, f2⟩ := f
      cases ec
      exact fr b hc
    · obtain ⟨⟨c, ec, hc⟩, f2⟩ := f
      exact ⟨c, ec, hc, (f2 c ec).2⟩
theorem vss_grd (hN : X.N.Nodup) (hi : X.N[i]? = some x) (hx : Loc X.env.scope x) (h : VE K X true e te va) (g : GSs K X i False rest u t) (hs : swapsWith e (some (.Name x pos')) pos.line X.env = pure false := by rfl)
    (hf : X.fn x = true ∨ X.env.scope.names.lookup x = some .local := by first | exact .inl rfl | exact .inr rfl | assumption) : VSs K X (.Assign [.Name x pos'] e pos :: rest) (tSeq (tAsg te (gName i)) u) (vGrd i va t) :=
  ⟨pss_cons (ps_set hN hi hx h.pe hs hf) g.ps, fun H0 Z σ H S V E k zq l => by
    obtain ⟨hil, zq⟩ := zq
    refine h.snd H Z σ H (S.map lendF) _ _ k.lendF zq fun v H' r S' k' st' rr zq1 => ?_
    obtain ⟨e1, d, e2, q⟩ := zq1
    subst e1 e2
    exact g.snd H0 Z _ σ S H _ H' _ v d V E (grd_in k hil ((idle_lendF S).grow st') (Rep.mono (fun _ n _ => ⟨n, rfl⟩) (fun _ f => f rfl) rr) fun z => z.elim) q l⟩
def gIf (i : Nat) (vt : VTT) (t : VTG) : VTG := fun d V S => (vt ((lend S).set i (.val d)) fun b _ => b = false) ∧ t d V S
theorem gss_if {tc : TT} {vt : VTT} {a : List Stmt} {ta : TS} (ht : VTe K X c tc vt) (ha : PSs X a ta) (g : GSs K X i nw rest u t) : GSs K X i nw (.If c a [] ipos :: rest) (tSeq (tIfS tc ta tNext) u) (gIf i vt t) :=
  ⟨pss_cons (ps_if ht.pe ha pss_nil) g.ps, fun H0 Z P σ1 S1 H1 σ H S v d V E gd zq l => ht.snd H0 Z σ H _ _ _ gd.look zq.1 fun b H' S' k' st' hb => by
    have hb : b = false := hb
    subst hb
    have gr := ((idle_lend S).set (s := .val d) rfl).grow st'
    exact g.snd H0 Z P σ1 S1 H1 _ H' _ v d V E (gd.step (gd.ok.grow gr) (.grow gr) rfl gd.sn) zq.2 l⟩
end
end VL
end
section
set_option maxHeartbeats 4000000
namespace L2
open PySem PySem.Spec PyProof.Rows PySem.W
section
variable {X : Cx}
end
end L2
namespace VL
open PySem L2 PySem.W
section
variable {K : PySem.W.Frag} {X : Cx} {a b : Expr} {ta tb : TE} {pos : Pos}
end
end VL
end
section
set_option maxHeartbeats 4000000
namespace L2
open PySem PySem.Spec PyProof.Rows
section
variable {X : Cx}
end
end L2
namespace VL
open PySem L2
section
variable {K : PySem.W.Frag} {X : Cx} {a : Expr} {tr : TA} {vr : VTA} {S : List Sl} {QN : List D → List Sl → Prop} {p pos tp : Pos}
end
end VL
end
section
set_option maxHeartbeats 4000000
namespace L2
open PySem PySem.Spec PyProof.Rows
end L2
namespace L2
open PySem PySem.Spec PyProof.Rows
end L2
namespace VL
open PySem L2
section
variable {K : PySem.W.Frag} {X : Cx} {m : Bool} {o ie e : Expr} {ti te ta : TE} {vi va : VT} {pos posS apos : Pos} {S : List Sl}
end
section
variable {β : Type} {S : List Sl} {g2 : VG} {vt2 : VTT} {ve : VT}
end
end VL
end
section
set_option maxHeartbeats 4000000
namespace L2
open PySem PySem.Spec PyProof.Rows
end L2
namespace VL
open PySem L2
section
variable {K : PySem.W.Frag} {X : Cx} {m : Bool} {o ie : Expr} {to ti : TE} {vo vi : VT} {pos : Pos} {S : List Sl} {Q : VR → List Sl → Prop}
end
end VL
namespace VL
open PySem L2
section
variable {K : PySem.W.Frag} {X : Cx} {m : Bool} {a b : Expr} {ta tb : TE} {va vb : VT} {pos : Pos} {S : List Sl} {Q : VR → List Sl → Prop}
end
end VL
end
section
set_option maxHeartbeats 4000000
namespace VL
open PySem L2
section
variable {P : Program} {w : World} {K : PySem.W.Frag} {mg : Str → Option Value} {base : Heap}
end
section
variable {K : PySem.W.Frag} {X : Cx} {m : Bool} {e : Expr} {es : List Expr} {tr : TA} {vr : VTA} {x : Str} {p0 pos : Pos} {j k : Nat} {ps : List Str} {S : List Sl} {Q : VR → List Sl → Prop}
end
end VL
end
section
set_option maxHeartbeats 4000000
namespace L2
open PySem PySem.Spec PyProof.Rows
end L2
namespace VL
open PySem L2
section
variable {K : PySem.W.Frag} {X : Cx} {i j : Nat} {nw : Prop} {e e2 tg : Expr} {te te2 : TE} {va va2 : VT} {pos : Pos} {rest : List Stmt} {u : TS} {w : VTS}
end
end VL
end
section
set_option maxHeartbeats 4000000
namespace ST
open PySem PySem.SetTable
def adv (mask : Nat) (p : Probe) : Probe :=
  if p.more > 0 then { p with j := p.j + 1, more := p.more - 1 } else
  { p with j := (leap mask p.i p.perturb).1, more := runEnd mask (leap mask p.i p.perturb).1 - (leap mask p.i p.perturb).1, i := (leap mask p.i p.perturb).1, perturb := (leap mask p.i p.perturb).2 }
def at0 (mask i pt : Nat) : Probe := { j := i, more := runEnd mask i - i, i, perturb := pt, dummy := none }
def pth (mask b : Nat) : Nat → Probe
  | 0 => at0 mask (b % (mask + 1)) b
  | s + 1 => adv mask (pth mask b s)
def lp (mask b : Nat) : Nat → Nat × Nat
  | 0 => (b % (mask + 1), b)
  | n + 1 => leap mask (lp mask b n).1 (lp mask b n).2
theorem runEnd_le (mask i : Nat) : i ≤ runEnd mask i ∧ runEnd mask i ≤ i + 9 := by unfold runEnd; split <;> lia
theorem runEnd_top {mask i : Nat} (h : i ≤ mask) : runEnd mask i ≤ mask := by unfold runEnd; split <;> lia
theorem run_steps {mask b s i pt : Nat} (h : pth mask b s = at0 mask i pt) : ∀ k, k ≤ runEnd mask i - i → pth mask b (s + k) = { at0 mask i pt with j := i + k, more := runEnd mask i - i - k }
  | 0, _ => h
  | k + 1, hk => by
    have ih := run_steps h k (by lia)
    show adv mask (pth mask b (s + k)) = _
    rw [ih]
    unfold adv
    rw [if_pos (show runEnd mask i - i - k > 0 by lia)]
    simp only [at0, Probe.mk.injEq]
    exact ⟨by lia, by lia, trivial, trivial, trivial⟩
theorem leap_at {mask b s i pt : Nat} (h : pth mask b s = at0 mask i pt) : pth mask b (s + (runEnd mask i - i) + 1) = at0 mask (leap mask i pt).1 (leap mask i pt).2 := by
  have r := run_steps h _ (Nat.le_refl _)
  show adv mask (pth mask b (s + (runEnd mask i - i))) = _
  rw [r]
  unfold adv
  rw [if_neg (show ¬ runEnd mask i - i - (runEnd mask i - i) > 0 by lia)]
  rfl
theorem pth_lp (mask b : Nat) : ∀ L, ∃ s, s ≤ 10 * L ∧ pth mask b s = at0 mask (lp mask b L).1 (lp mask b L).2
  | 0 => ⟨0, Nat.le_refl _, rfl⟩
  | L + 1 => by
    obtain ⟨s, h1, h2⟩ := pth_lp mask b L
    have := runEnd_le mask (lp mask b L).1
    exact ⟨_, by lia, leap_at h2⟩
theorem lp_top (mask b : Nat) : ∀ L, (lp mask b L).1 ≤ mask
  | 0 => Nat.lt_succ_iff.mp (Nat.mod_lt _ (Nat.succ_pos _))
  | L + 1 => Nat.lt_succ_iff.mp (Nat.mod_lt _ (Nat.succ_pos _))
theorem lp_pt (mask b : Nat) : ∀ L, (lp mask b L).2 = b / 32 ^ L
  | 0 => by simp [lp]
  | L + 1 => by
    show (lp mask b L).2 / 32 = _
    rw [lp_pt mask b L, Nat.div_div_eq_div_mul, Nat.pow_succ]
theorem lp_pt0 {mask b L : Nat} (hb : b < 2 ^ 64) (hL : 13 ≤ L) : (lp mask b L).2 = 0 := by
  rw [lp_pt]
  refine Nat.div_eq_of_lt (Nat.lt_of_lt_of_le hb ?_)
  exact Nat.le_trans (show 2 ^ 64 ≤ 32 ^ 13 by decide) (Nat.pow_le_pow_right (by decide) hL)
def un : Nat → Nat → Nat
  | 0, x => x
  | n + 1, x => 5 * un n x + 1
theorem un_add (a x : Nat) : ∀ b, un (a + b) x = un b (un a x)
  | 0 => rfl
  | b + 1 => by show 5 * un (a + b) x + 1 = 5 * un b (un a x) + 1; rw [un_add a x b]
theorem un_pow : ∀ k, ∃ e c, e = 2 ^ k * (2 * c + 1) ∧ ∀ x, un (2 ^ k) x = (1 + 4 * e) * x + e
  | 0 => ⟨1, 0, rfl, fun x => by show 5 * x + 1 = _; lia⟩
  | k + 1 => by
    obtain ⟨e, c, h1, h2⟩ := un_pow k
    refine ⟨2 * e * (1 + 2 * e), c + e * (2 * c + 1), ?_, fun x => ?_⟩
    · rw [Nat.pow_succ]; subst h1; generalize 2 ^ k = m; grind
    · rw [Nat.pow_succ, show 2 ^ k * 2 = 2 ^ k + 2 ^ k by lia, un_add, h2, h2]
      grind
theorem cover : ∀ k x y, y < 2 ^ k → ∃ n, n < 2 ^ k ∧ un n x % 2 ^ k = y
  | 0, x, y, h => ⟨0, by decide, by simp at h ⊢; lia⟩
  | k + 1, x, y, h => by
    have pk : 0 < 2 ^ k := Nat.pow_pos (by decide)
    rw [Nat.pow_succ] at h ⊢
    obtain ⟨n, hn, e⟩ := cover k x (y % 2 ^ k) (Nat.mod_lt _ pk)
    obtain ⟨q, c, h1, h2⟩ := un_pow k
    generalize hz : un n x % (2 ^ k * 2) = z at *
    have zl : z < 2 ^ k * 2 := by rw [← hz]; exact Nat.mod_lt _ (by lia)
    have zm : z % 2 ^ k = y % 2 ^ k := by
      rw [← e, ← hz]
      exact Nat.mod_mul_right_mod _ _ _
    by_cases hy : z = y
    · exact ⟨n, by lia, by lia⟩
    · refine ⟨n + 2 ^ k, by lia, ?_⟩
      rw [un_add, h2]
      have s1 : (1 + 4 * q) * un n x + q = un n x + 2 ^ k + (2 ^ k * 2) * (c + 2 * (2 * c + 1) * un n x) := by
        rw [h1]
        generalize 2 ^ k = m
        generalize un n x = u
        grind
      rw [s1, Nat.add_mul_mod_self_left, Nat.add_mod, hz]
      have w1 : 2 ^ k % (2 ^ k * 2) = 2 ^ k := Nat.mod_eq_of_lt (by lia)
      rw [w1]
      have d1 := Nat.mod_add_div z (2 ^ k)
      have d2 := Nat.mod_add_div y (2 ^ k)
      have c1 : z / 2 ^ k < 2 := Nat.div_lt_of_lt_mul zl
      have c2 : y / 2 ^ k < 2 := Nat.div_lt_of_lt_mul h
      have two : ∀ a : Nat, a < 2 → a = 0 ∨ a = 1 := fun a h => by lia
      have c3 : z / 2 ^ k = 0 ∨ z / 2 ^ k = 1 := two _ c1
      have c4 : y / 2 ^ k = 0 ∨ y / 2 ^ k = 1 := two _ c2
      have ml : z % 2 ^ k < 2 ^ k := Nat.mod_lt _ pk
      rcases c3 with c3 | c3 <;> rcases c4 with c4 | c4 <;> rw [c3] at d1 <;> rw [c4] at d2
      · exact absurd (by lia) hy
      · rw [Nat.mod_eq_of_lt (show z + 2 ^ k < 2 ^ k * 2 by lia)]; lia
      · rw [show z + 2 ^ k = z % 2 ^ k + 2 ^ k * 2 by lia, Nat.add_mod_right, Nat.mod_eq_of_lt (show z % 2 ^ k < 2 ^ k * 2 by lia)]; lia
      · exact absurd (by lia) hy
theorem lp_un {mask b : Nat} (hb : b < 2 ^ 64) : ∀ n, (lp mask b (13 + n)).1 = un n (lp mask b 13).1 % (mask + 1)
  | 0 => (Nat.mod_eq_of_lt (Nat.lt_succ_iff.mpr (lp_top _ _ _))).symm
  | n + 1 => by
    show ((lp mask b (13 + n)).1 * 5 + 1 + (lp mask b (13 + n)).2 / 32) % (mask + 1) = (5 * un n (lp mask b 13).1 + 1) % (mask + 1)
    rw [lp_pt0 hb (by lia), lp_un hb n, Nat.zero_div, Nat.add_zero, Nat.add_mod, Nat.mul_mod, Nat.mod_mod, ← Nat.mul_mod, ← Nat.add_mod, Nat.mul_comm]
theorem lp_all {mask b k y : Nat} (hk : mask + 1 = 2 ^ k) (hb : b < 2 ^ 64) (hy : y ≤ mask) : ∃ L, L ≤ 13 + mask ∧ (lp mask b L).1 = y := by
  obtain ⟨n, hn, e⟩ := cover k (lp mask b 13).1 y (by lia)
  exact ⟨13 + n, by lia, by rw [lp_un hb, hk]; exact e⟩
theorem pth_all {mask b k y : Nat} (hk : mask + 1 = 2 ^ k) (hb : b < 2 ^ 64) (hy : y ≤ mask) : ∃ s, s ≤ 10 * (13 + mask) ∧ (pth mask b s).j = y := by
  obtain ⟨L, hL, e⟩ := lp_all hk hb hy
  obtain ⟨s, hs, e2⟩ := pth_lp mask b L
  exact ⟨s, by lia, by rw [e2]; exact e⟩
theorem bits_lt (h : Int) : bits h < 2 ^ 64 := by
  unfold bits
  have h1 := Int.emod_nonneg h (show (2 ^ 64 : Int) ≠ 0 by decide)
  have h2 := Int.emod_lt_of_pos h (show (0 : Int) < 2 ^ 64 by decide)
  lia
theorem pth_run (mask b : Nat) : ∀ s, ∃ i pt k, i ≤ mask ∧ k ≤ runEnd mask i - i ∧ pth mask b s = { at0 mask i pt with j := i + k, more := runEnd mask i - i - k }
  | 0 => ⟨_, b, 0, Nat.lt_succ_iff.mp (Nat.mod_lt b (Nat.succ_pos mask)), Nat.zero_le _, rfl⟩
  | s + 1 => by
    obtain ⟨i, pt, k, h1, h2, e⟩ := pth_run mask b s
    show ∃ _ _ _, _ ∧ _ ∧ adv mask (pth mask b s) = _
    rw [e]
    by_cases hm : runEnd mask i - i - k > 0
    · refine ⟨i, pt, k + 1, h1, by lia, ?_⟩
      unfold adv
      rw [if_pos (show runEnd mask i - i - k > 0 from hm)]
      simp only [at0, Probe.mk.injEq]
      exact ⟨by lia, by lia, trivial, trivial, trivial⟩
    · refine ⟨(leap mask i pt).1, (leap mask i pt).2, 0, Nat.lt_succ_iff.mp (Nat.mod_lt _ (Nat.succ_pos mask)), Nat.zero_le _, ?_⟩
      unfold adv
      rw [if_neg (show ¬ runEnd mask i - i - k > 0 from hm)]
      rfl
theorem pth_top (mask b s : Nat) : (pth mask b s).j ≤ mask := by
  obtain ⟨i, pt, k, h1, h2, e⟩ := pth_run mask b s
  rw [e]
  have := runEnd_top h1
  show i + k ≤ mask
  lia
theorem pth_dummy (mask b s : Nat) : (pth mask b s).dummy = none := by
  obtain ⟨i, pt, k, h1, h2, e⟩ := pth_run mask b s
  rw [e]; rfl
theorem below_go (xs : Array Nat) (j : Nat) (hr : xs.toList.Pairwise (· < ·)) : ∀ fuel lo hi, hi - lo ≤ fuel → lo ≤ hi → hi ≤ xs.size → (∀ i x, i < lo → xs[i]? = some x → x < j) → (∀ i x, hi ≤ i → xs[i]? = some x → j ≤ x) →
    below.go xs j fuel lo hi ≤ xs.size ∧ (∀ i x, i < below.go xs j fuel lo hi → xs[i]? = some x → x < j) ∧ ∀ i x, below.go xs j fuel lo hi ≤ i → xs[i]? = some x → j ≤ x
  | 0, lo, hi, h1, h2, h3, h4, h5 => by
    have e : lo = hi := by lia
    unfold below.go
    exact ⟨by lia, h4, by rw [e]; exact h5⟩
  | fuel + 1, lo, hi, h1, h2, h3, h4, h5 => by
    unfold below.go
    by_cases hl : lo < hi
    · rw [if_pos hl]
      have hm : (lo + hi) / 2 < xs.size := by lia
      have eg : xs.getD ((lo + hi) / 2) j = xs[(lo + hi) / 2] := by simp [Array.getD, hm]
      have up : ∀ i i' x x', i < i' → xs[i]? = some x → xs[i']? = some x' → x < x' := fun i i' x x' hi' e e' => by
        rw [List.pairwise_iff_getElem] at hr
        rw [Array.getElem?_eq_some_iff] at e e'
        obtain ⟨a1, a2⟩ := e
        obtain ⟨b1, b2⟩ := e'
        have := hr i i' (by simpa using a1) (by simpa using b1) hi'
        simp only [Array.getElem_toList] at this
        rw [a2, b2] at this
        exact this
      have em : xs[(lo + hi) / 2]? = some xs[(lo + hi) / 2] := Array.getElem?_eq_getElem hm
      by_cases hc : xs.getD ((lo + hi) / 2) j < j
      · rw [if_pos hc]
        rw [eg] at hc
        refine below_go xs j hr fuel ((lo + hi) / 2 + 1) hi (by lia) (by lia) h3 (fun i x hi' e => ?_) h5
        rcases Nat.lt_or_ge i ((lo + hi) / 2) with h | h
        · have := up _ _ _ _ h e em; lia
        · have : i = (lo + hi) / 2 := by lia
          subst this
          rw [em] at e; injection e with e; lia
      · rw [if_neg hc]
        rw [eg] at hc
        refine below_go xs j hr fuel lo ((lo + hi) / 2) (by lia) (by lia) (by lia) h4 (fun i x hi' e => ?_)
        rcases Nat.lt_or_ge ((lo + hi) / 2) i with h | h
        · have := up _ _ _ _ h em e; lia
        · have : i = (lo + hi) / 2 := by lia
          subst this
          rw [em] at e; injection e with e; lia
    · rw [if_neg hl]
      have el : lo = hi := by lia
      exact ⟨by lia, h4, by rw [el]; exact h5⟩
theorem below_spec {xs : Array Nat} (hr : xs.toList.Pairwise (· < ·)) (j : Nat) : below xs j ≤ xs.size ∧ (∀ i x, i < below xs j → xs[i]? = some x → x < j) ∧ ∀ i x, below xs j ≤ i → xs[i]? = some x → j ≤ x :=
  below_go xs j hr xs.size 0 xs.size (by lia) (Nat.zero_le _) (Nat.le_refl _) (fun i x h => absurd h (Nat.not_lt_zero _)) (fun i x h e => by rw [Array.getElem?_eq_none h] at e; cases e)
theorem below_at {xs : Array Nat} (hr : xs.toList.Pairwise (· < ·)) {i j : Nat} (e : xs[i]? = some j) : below xs j = i := by
  obtain ⟨h1, h2, h3⟩ := below_spec hr j
  rcases Nat.lt_trichotomy (below xs j) i with h | h | h
  · obtain ⟨hi, e'⟩ := Array.getElem?_eq_some_iff.mp e
    have hb : below xs j < xs.size := by lia
    have := h3 (below xs j) xs[below xs j] (Nat.le_refl _) (Array.getElem?_eq_getElem hb)
    rw [List.pairwise_iff_getElem] at hr
    have r := hr (below xs j) i (by simpa using hb) (by simpa using hi) h
    simp only [Array.getElem_toList] at r
    lia
  · exact h
  · have := h2 i j h e; lia
theorem slot_live {t : SetTable} (hr : t.place.toList.Pairwise (· < ·)) {i j : Nat} (e : t.place[i]? = some j) : t.slot j = .live i := by
  unfold slot
  simp only [below_at hr e, e, beq_self_eq_true, if_true]
theorem slot_cases {t : SetTable} (hd : t.dummies = #[]) (j : Nat) : (t.slot j = .empty ∧ j ∉ t.place.toList ∨ ∃ i, t.slot j = .live i ∧ t.place[i]? = some j) ∨ (t.slot j = .empty ∧ t.place[below t.place j]? ≠ some j) := by
  unfold slot
  by_cases h : t.place[below t.place j]? = some j
  · exact .inl (.inr ⟨below t.place j, by simp [h], h⟩)
  · refine .inr ⟨?_, h⟩
    have hb : (t.place[below t.place j]? == some j) = false := by simpa using h
    simp only [hb, Bool.false_eq_true, if_false]
    rw [hd]
    rfl
theorem slot_two {t : SetTable} (hr : t.place.toList.Pairwise (· < ·)) (hd : t.dummies = #[]) (j : Nat) : (t.slot j = .empty ∧ j ∉ t.place.toList) ∨ ∃ i, t.slot j = .live i ∧ t.place[i]? = some j := by
  rcases slot_cases hd j with h | ⟨h1, h2⟩
  · exact h
  · refine .inl ⟨h1, fun hm => h2 ?_⟩
    obtain ⟨i, hi, e⟩ := List.mem_iff_getElem.mp hm
    have e2 : t.place[i]? = some j := by
      rw [Array.getElem?_eq_some_iff]
      exact ⟨by simpa using hi, by simpa using e⟩
    rw [below_at hr e2, e2]
theorem insertAt_list {α : Type} (xs : Array α) (p : Nat) (x : α) : (insertAt xs p x).toList = xs.toList.take p ++ x :: xs.toList.drop p := by
  unfold insertAt
  simp [Array.toList_extract, List.extract]
  try rw [List.take_of_length_le (by simp)]
theorem nodup_len {α : Type} [DecidableEq α] : ∀ {xs g : List α}, xs.Nodup → (∀ x ∈ xs, x ∈ g) → xs.length ≤ g.length
  | [], _, _, _ => Nat.zero_le _
  | x :: r, g, nd, h => by
    rw [List.nodup_cons] at nd
    have hx := h x List.mem_cons_self
    have := nodup_len (xs := r) (g := g.erase x) nd.2 fun y hy => (List.mem_erase_of_ne (show y ≠ x from fun e => nd.1 (by subst e; exact hy))).mpr (h y (List.mem_cons_of_mem _ hy))
    rw [List.length_erase_of_mem hx] at this
    have : 0 < g.length := List.length_pos_of_mem hx
    simp only [List.length_cons]; lia
theorem free_place {mask : Nat} {g : List Nat} (h : g.length ≤ mask) : ∃ y, y ≤ mask ∧ y ∉ g := by
  refine Classical.byContradiction fun hn => ?_
  have := nodup_len (xs := List.range (mask + 1)) (g := g) List.nodup_range fun x hx => Classical.byContradiction fun hx' => hn ⟨x, Nat.lt_succ_iff.mp (List.mem_range.mp hx), hx'⟩
  rw [List.length_range] at this
  lia
def Rc (mask : Nat) (g : List Nat) (j : Nat) (h : Int) : Prop := ∃ s, (pth mask (bits h) s).j = j ∧ ∀ v, v < s → (pth mask (bits h) v).j ∈ g
theorem Rc.more {mask : Nat} {g g' : List Nat} {j : Nat} {h : Int} (r : Rc mask g j h) (e : ∀ x ∈ g, x ∈ g') : Rc mask g' j h := let ⟨s, h1, h2⟩ := r; ⟨s, h1, fun v hv => e _ (h2 v hv)⟩
structure Tb (t : SetTable) (hs : List Int) : Prop where
  pow : ∃ k, t.mask + 1 = 2 ^ k
  nd : t.dummies = #[]
  len : t.place.toList.length = hs.length
  ris : t.place.toList.Pairwise (· < ·)
  top : ∀ j ∈ t.place.toList, j ≤ t.mask
  rch : ∀ q ∈ t.place.toList.zip hs, Rc t.mask t.place.toList q.1 q.2
theorem Tb.fresh (finger moves : Nat) (led : Bool) : Tb (fresh finger moves led) [] := by
  exact { pow := ⟨3, rfl⟩, nd := rfl, len := rfl, ris := List.Pairwise.nil, top := fun j h => absurd h List.not_mem_nil, rch := fun q h => absurd h List.not_mem_nil }
theorem probe_go {t : SetTable} {hs : List Int} (T : Tb t hs) {f : Nat → Int} {h : Int} : ∀ (d s fuel : Nat), (pth t.mask (bits h) (s + d)).j ∉ t.place.toList → d < fuel →
    ∃ u, s ≤ u ∧ u ≤ s + d ∧ (∀ v, s ≤ v → v < u → ∃ i, t.place[i]? = some (pth t.mask (bits h) v).j ∧ f i ≠ h) ∧
      ((pth t.mask (bits h) u).j ∉ t.place.toList ∧ probe.go t f h fuel (pth t.mask (bits h) s) = some (.empty (pth t.mask (bits h) u).j none) ∨
       ∃ i, t.place[i]? = some (pth t.mask (bits h) u).j ∧ f i = h ∧ u < s + d ∧ probe.go t f h fuel (pth t.mask (bits h) s) = some (.candidate (pth t.mask (bits h) u).j i (pth t.mask (bits h) (u + 1))))
  | d, s, 0, _, hf => absurd hf (Nat.not_lt_zero _)
  | d, s, fuel + 1, he, hf => by
    have go1 : probe.go t f h (fuel + 1) (pth t.mask (bits h) s) = match t.slot (pth t.mask (bits h) s).j with
      | .empty => some (.empty (pth t.mask (bits h) s).j (pth t.mask (bits h) s).dummy)
      | .dummy => probe.go t f h fuel (t.advance { pth t.mask (bits h) s with dummy := some (pth t.mask (bits h) s).j })
      | .live i => if f i == h then some (.candidate (pth t.mask (bits h) s).j i (t.advance (pth t.mask (bits h) s))) else probe.go t f h fuel (t.advance (pth t.mask (bits h) s)) := rfl
    rcases slot_two T.ris T.nd (pth t.mask (bits h) s).j with ⟨h1, h2⟩ | ⟨i, h1, h2⟩
    · refine ⟨s, Nat.le_refl _, by lia, fun v a b => absurd a (by lia), .inl ⟨h2, ?_⟩⟩
      rw [go1, h1, pth_dummy]
    · have hd : d ≠ 0 := fun z => by
        subst z
        refine he ?_
        rw [Nat.add_zero]
        obtain ⟨hi, e⟩ := Array.getElem?_eq_some_iff.mp h2
        exact List.mem_iff_getElem.mpr ⟨i, by simpa using hi, by simpa using e⟩
      by_cases hh : f i = h
      · refine ⟨s, Nat.le_refl _, by lia, fun v a b => absurd a (by lia), .inr ⟨i, h2, hh, by lia, ?_⟩⟩
        rw [go1, h1]
        simp only [hh, beq_self_eq_true, if_true]
        rfl
      · obtain ⟨u, u1, u2, u3, u4⟩ := probe_go T (f := f) (d - 1) (s + 1) fuel (by rw [show s + 1 + (d - 1) = s + d by lia]; exact he) (by lia)
        have g2 : probe.go t f h (fuel + 1) (pth t.mask (bits h) s) = probe.go t f h fuel (pth t.mask (bits h) (s + 1)) := by
          rw [go1, h1]
          have hb : (f i == h) = false := by simpa using hh
          simp only [hb, Bool.false_eq_true, if_false]
          rfl
        refine ⟨u, by lia, by lia, fun v a b => ?_, ?_⟩
        · rcases Nat.eq_or_lt_of_le a with e | e
          · subst e; exact ⟨i, h2, hh⟩
          · exact u3 v e b
        · rw [g2]
          rcases u4 with u4 | ⟨i', a1, a2, a3, a4⟩
          · exact .inl u4
          · exact .inr ⟨i', a1, a2, by lia, a4⟩
end ST
end
section
set_option maxHeartbeats 4000000
namespace ST
open PySem PySem.SetTable
theorem has_none (j : Nat) : has #[] j = false := rfl
theorem put_eq {t : SetTable} (hd : t.dummies = #[]) (y : Nat) : t.put y = ({ t with place := insertAt t.place (below t.place y) y }, below t.place y) := by
  unfold put
  rw [hd, has_none]
  simp only [Bool.false_eq_true, if_false]
  try rw [← hd]
theorem zip_ins {α β : Type} : ∀ (p : Nat) (xs : List α) (ys : List β) (a : α) (b : β), xs.length = ys.length → (xs.take p ++ a :: xs.drop p).zip (ys.take p ++ b :: ys.drop p) = (xs.zip ys).take p ++ (a, b) :: (xs.zip ys).drop p
  | 0, xs, ys, a, b, _ => rfl
  | p + 1, [], [], a, b, _ => rfl
  | p + 1, x :: xs, y :: ys, a, b, h => by
    simp only [List.take_succ_cons, List.drop_succ_cons, List.cons_append, List.zip_cons_cons]
    rw [zip_ins p xs ys a b (by simpa using h)]
  | p + 1, [], y :: ys, a, b, h => by simp at h
  | p + 1, x :: xs, [], a, b, h => by simp at h
theorem ris_ins {l : List Nat} {y p : Nat} (hr : l.Pairwise (· < ·)) (h1 : ∀ i x, i < p → l[i]? = some x → x < y) (h2 : ∀ i x, p ≤ i → l[i]? = some x → y < x) : (l.take p ++ y :: l.drop p).Pairwise (· < ·) := by
  have lo : ∀ a ∈ l.take p, a < y := fun a ha => by
    obtain ⟨i, hi, e⟩ := List.mem_iff_getElem.mp ha
    rw [List.getElem_take] at e
    have hi' : i < p ∧ i < l.length := by rw [List.length_take] at hi; lia
    exact h1 i a hi'.1 (List.getElem?_eq_some_iff.mpr ⟨hi'.2, e⟩)
  have up : ∀ a ∈ l.drop p, y < a := fun a ha => by
    obtain ⟨i, hi, e⟩ := List.mem_iff_getElem.mp ha
    rw [List.getElem_drop] at e
    have hi' : p + i < l.length := by rw [List.length_drop] at hi; lia
    exact h2 (p + i) a (by lia) (List.getElem?_eq_some_iff.mpr ⟨hi', e⟩)
  rw [List.pairwise_append, List.pairwise_cons]
  have sp : (l.take p ++ l.drop p).Pairwise (· < ·) := by rw [List.take_append_drop]; exact hr
  rw [List.pairwise_append] at sp
  refine ⟨sp.1, ⟨up, sp.2.1⟩, fun a ha b hb => ?_⟩
  rcases List.mem_cons.mp hb with rfl | hb
  · exact lo a ha
  · exact sp.2.2 a ha b hb
theorem mem_ins {α : Type} {l : List α} {p : Nat} {a b : α} : a ∈ l.take p ++ b :: l.drop p ↔ a = b ∨ a ∈ l := by
  conv => rhs; rw [← List.take_append_drop p l]
  simp only [List.mem_append, List.mem_cons]
  constructor
  · rintro (h | h | h)
    · exact .inr (.inl h)
    · exact .inl h
    · exact .inr (.inr h)
  · rintro (h | h | h)
    · exact .inr (.inl h)
    · exact .inl h
    · exact .inr (.inr h)
theorem len_ins {α : Type} {l : List α} {p : Nat} {b : α} : (l.take p ++ b :: l.drop p).length = l.length + 1 := by
  conv => rhs; rw [← List.take_append_drop p l]
  simp only [List.length_append, List.length_cons]; lia
theorem Tb.put {t : SetTable} {hs : List Int} (T : Tb t hs) {h : Int} {u : Nat} (hn : (pth t.mask (bits h) u).j ∉ t.place.toList) (hv : ∀ v, v < u → (pth t.mask (bits h) v).j ∈ t.place.toList) :
    Tb { t with place := insertAt t.place (below t.place (pth t.mask (bits h) u).j) (pth t.mask (bits h) u).j } (hs.take (below t.place (pth t.mask (bits h) u).j) ++ h :: hs.drop (below t.place (pth t.mask (bits h) u).j)) := by
  generalize hy : (pth t.mask (bits h) u).j = y at *
  obtain ⟨b1, b2, b3⟩ := below_spec T.ris y
  generalize below t.place y = p at *
  have e : (insertAt t.place p y).toList = t.place.toList.take p ++ y :: t.place.toList.drop p := insertAt_list _ _ _
  refine ⟨T.pow, T.nd, ?_, ?_, fun j hj => ?_, fun q hq => ?_⟩
  · show (insertAt t.place p y).toList.length = _
    rw [e, len_ins, len_ins, T.len]
  · show (insertAt t.place p y).toList.Pairwise _
    rw [e]
    refine ris_ins T.ris (fun i x hi ex => b2 i x hi (by simpa using ex)) (fun i x hi ex => ?_)
    have := b3 i x hi (by simpa using ex)
    rcases Nat.eq_or_lt_of_le this with e2 | e2
    · subst e2; exact absurd (List.mem_of_getElem? ex) hn
    · exact e2
  · have hj : j ∈ (insertAt t.place p y).toList := hj
    rw [e, mem_ins] at hj
    rcases hj with rfl | hj
    · show j ≤ t.mask
      rw [← hy]; exact pth_top _ _ _
    · exact T.top j hj
  · have hq : q ∈ (insertAt t.place p y).toList.zip (hs.take p ++ h :: hs.drop p) := hq
    show Rc t.mask (insertAt t.place p y).toList q.1 q.2
    rw [e] at hq ⊢
    rw [zip_ins _ _ _ _ _ T.len, mem_ins] at hq
    rcases hq with rfl | hq
    · exact ⟨u, hy, fun v hv' => mem_ins.mpr (.inr (hv v hv'))⟩
    · exact (T.rch q hq).more fun x hx => mem_ins.mpr (.inr hx)
structure Ow (mask : Nat) (hs : List Int) (ow : Array (Option Nat)) : Prop where
  size : ow.size = mask + 1
  ex : ∀ i : Nat, i < hs.length → ∃ j : Nat, ow[j]? = some (some i)
  un : ∀ (j j' i : Nat), ow[j]? = some (some i) → ow[j']? = some (some i) → j = j'
  at_ : ∀ (j i : Nat), ow[j]? = some (some i) → ∃ h, hs[i]? = some h ∧ ∃ s, (pth mask (bits h) s).j = j ∧ ∀ v, v < s → ∃ i', ow[(pth mask (bits h) v).j]? = some (some i')
theorem ow_none {mask : Nat} : Ow mask [] (Array.replicate (mask + 1) none) := by
  have no : ∀ (j i : Nat), ¬ (Array.replicate (mask + 1) (Option.none (α := Nat)))[j]? = some (some i) := fun j i e => by
    rw [Array.getElem?_replicate] at e
    split at e <;> simp at e
  exact ⟨by simp, fun i hi => absurd hi (Nat.not_lt_zero _), fun j j' i e => absurd e (no j i), fun j i e => absurd e (no j i)⟩
theorem ow_free {mask : Nat} {hs : List Int} {ow : Array (Option Nat)} (O : Ow mask hs ow) (hl : hs.length ≤ mask) : ∃ y, y ≤ mask ∧ ow[y]? = some none := by
  refine Classical.byContradiction fun hn => ?_
  have all : ∀ j, j < mask + 1 → ∃ i, ow[j]? = some (some i) := fun j hj => by
    have hj' : j < ow.size := by rw [O.size]; exact hj
    have e : ow[j]? = some ow[j] := Array.getElem?_eq_getElem hj'
    cases hc : ow[j] with
    | none => exact absurd ⟨j, by lia, by rw [e, hc]⟩ hn
    | some i => exact ⟨i, by rw [e, hc]⟩
  let g : Nat → Nat := fun j => match ow[j]? with | some (some i) => i | _ => 0
  have gi : ∀ j, j < mask + 1 → ow[j]? = some (some (g j)) := fun j hj => by
    obtain ⟨i, e⟩ := all j hj
    show ow[j]? = some (some (match ow[j]? with | some (some i) => i | _ => 0))
    rw [e]
  have nd : ((List.range (mask + 1)).map g).Nodup := by
    rw [List.Nodup, List.pairwise_map]
    refine List.Pairwise.imp_of_mem (R := (· < ·)) (fun {a b} ha hb hab e => ?_) List.pairwise_lt_range
    have := O.un a b (g a) (gi a (List.mem_range.mp ha)) (by rw [e]; exact gi b (List.mem_range.mp hb))
    lia
  have := nodup_len (g := List.range hs.length) nd fun x hx => by
    obtain ⟨j, hj, rfl⟩ := List.mem_map.mp hx
    obtain ⟨h, e, _⟩ := O.at_ j _ (gi j (List.mem_range.mp hj))
    exact List.mem_range.mpr (List.getElem?_eq_some_iff.mp e).1
  rw [List.length_map, List.length_range, List.length_range] at this
  lia
theorem free_go {mask b : Nat} {ow : Array (Option Nat)} (hsz : ow.size = mask + 1) : ∀ (d L fuel s : Nat), ow[(lp mask b (L + d)).1]? = some none → d < fuel → pth mask b s = at0 mask (lp mask b L).1 (lp mask b L).2 → (∀ v, v < s → ∃ i', ow[(pth mask b v).j]? = some (some i')) →
    ∃ u, layClean.free mask ow fuel (lp mask b L).1 (lp mask b L).2 = some (pth mask b u).j ∧ ow[(pth mask b u).j]? = some none ∧ ∀ v, v < u → ∃ i', ow[(pth mask b v).j]? = some (some i')
  | d, L, 0, s, _, hf, _, _ => absurd hf (Nat.not_lt_zero _)
  | d, L, fuel + 1, s, he, hf, hp, hv => by
    have top := lp_top mask b L
    have rt := runEnd_top top
    have rl := runEnd_le mask (lp mask b L).1
    have step := run_steps hp
    have stepj : ∀ k, k ≤ runEnd mask (lp mask b L).1 - (lp mask b L).1 → (pth mask b (s + k)).j = (lp mask b L).1 + k := fun k hk => by rw [step k hk]
    unfold layClean.free
    cases hfd : (List.range (runEnd mask (lp mask b L).1 + 1 - (lp mask b L).1)).find? fun k => (ow.getD ((lp mask b L).1 + k) (some 0)).isNone with
    | some k =>
      obtain ⟨a1, a2⟩ := List.find?_eq_some_iff_append.mp hfd
      obtain ⟨as, bs, e, a3⟩ := a2
      have hk : k < runEnd mask (lp mask b L).1 + 1 - (lp mask b L).1 := List.mem_range.mp (by rw [e]; simp)
      have hk' : (lp mask b L).1 + k < ow.size := by lia
      have eg : ow.getD ((lp mask b L).1 + k) (some 0) = ow[(lp mask b L).1 + k] := by simp [Array.getD, hk']
      refine ⟨s + k, by rw [stepj k (by lia)], ?_, fun v hv' => ?_⟩
      · rw [stepj k (by lia), Array.getElem?_eq_getElem hk']
        rw [eg] at a1
        cases hc : ow[(lp mask b L).1 + k] with
        | none => rfl
        | some z => rw [hc] at a1; cases a1
      · rcases Nat.lt_or_ge v s with h | h
        · exact hv v h
        · have hm : v - s ∈ as := by
            have r1 : v - s ∈ List.range (runEnd mask (lp mask b L).1 + 1 - (lp mask b L).1) := List.mem_range.mpr (by lia)
            have pw := List.pairwise_lt_range (n := runEnd mask (lp mask b L).1 + 1 - (lp mask b L).1)
            rw [e] at r1 pw
            rcases List.mem_append.mp r1 with h1 | h1
            · exact h1
            · rw [List.pairwise_append, List.pairwise_cons] at pw
              rcases List.mem_cons.mp h1 with h2 | h2
              · lia
              · have := pw.2.1.1 _ h2; lia
          have nn := a3 _ hm
          have hk2 : (lp mask b L).1 + (v - s) < ow.size := by lia
          have eg2 : ow.getD ((lp mask b L).1 + (v - s)) (some 0) = ow[(lp mask b L).1 + (v - s)] := by simp [Array.getD, hk2]
          rw [eg2] at nn
          have ej := stepj (v - s) (by lia)
          rw [show s + (v - s) = v by lia] at ej
          rw [ej, Array.getElem?_eq_getElem hk2]
          cases hc : ow[(lp mask b L).1 + (v - s)] with
          | none => rw [hc] at nn; simp at nn
          | some z => exact ⟨z, rfl⟩
    | none =>
      rw [List.find?_eq_none] at hfd
      have full : ∀ k, k ≤ runEnd mask (lp mask b L).1 - (lp mask b L).1 → ∃ i', ow[(lp mask b L).1 + k]? = some (some i') := fun k hk => by
        have nn := hfd k (List.mem_range.mpr (by lia))
        have hk2 : (lp mask b L).1 + k < ow.size := by lia
        have eg2 : ow.getD ((lp mask b L).1 + k) (some 0) = ow[(lp mask b L).1 + k] := by simp [Array.getD, hk2]
        rw [eg2] at nn
        rw [Array.getElem?_eq_getElem hk2]
        cases hc : ow[(lp mask b L).1 + k] with
        | none => rw [hc] at nn; simp at nn
        | some z => exact ⟨z, rfl⟩
      have hd : d ≠ 0 := fun z => by
        subst z
        obtain ⟨i', e⟩ := full 0 (Nat.zero_le _)
        rw [Nat.add_zero] at he e
        rw [he] at e; cases e
      obtain ⟨u, u1, u2, u3⟩ := free_go hsz (d - 1) (L + 1) fuel (s + (runEnd mask (lp mask b L).1 - (lp mask b L).1) + 1) (by rw [show L + 1 + (d - 1) = L + d by lia]; exact he) (by lia) (leap_at hp) (fun v hv' => by
        rcases Nat.lt_or_ge v s with h | h
        · exact hv v h
        · have ej := stepj (v - s) (by lia)
          rw [show s + (v - s) = v by lia] at ej
          rw [ej]
          exact full _ (by lia))
      exact ⟨u, u1, u2, u3⟩
theorem Ow.lay {mask k : Nat} (hk : mask + 1 = 2 ^ k) {hs : List Int} {ow : Array (Option Nat)} (O : Ow mask hs ow) (hl : hs.length < mask) (h : Int) :
    ∃ j, layClean.free mask ow (turns mask) (bits h % (mask + 1)) (bits h) = some j ∧ Ow mask (hs ++ [h]) (ow.setIfInBounds j (some hs.length)) := by
  obtain ⟨y, y1, y2⟩ := ow_free O (by lia)
  obtain ⟨L, L1, L2⟩ := lp_all (b := bits h) hk (bits_lt h) y1
  obtain ⟨u, u1, u2, u3⟩ := free_go (b := bits h) O.size L 0 (turns mask) 0 (by rw [Nat.zero_add, L2]; exact y2) (by unfold turns; lia) rfl (fun v hv => absurd hv (Nat.not_lt_zero _))
  refine ⟨_, u1, ?_⟩
  generalize hj : (pth mask (bits h) u).j = j at *
  have jl : j < ow.size := (Array.getElem?_eq_some_iff.mp u2).1
  have old : ∀ a i, ow[a]? = some (some i) → (ow.setIfInBounds j (some hs.length))[a]? = some (some i) := fun a i e => by
    rw [Array.getElem?_setIfInBounds]
    by_cases ea : j = a
    · subst ea; rw [u2] at e; cases e
    · rw [if_neg ea]; exact e
  have new : (ow.setIfInBounds j (some hs.length))[j]? = some (some hs.length) := by
    rw [Array.getElem?_setIfInBounds, if_pos rfl, if_pos jl]
  have inv : ∀ a i, (ow.setIfInBounds j (some hs.length))[a]? = some (some i) → (a = j ∧ i = hs.length) ∨ ow[a]? = some (some i) := fun a i e => by
    rw [Array.getElem?_setIfInBounds] at e
    by_cases ea : j = a
    · rw [if_pos ea, if_pos jl] at e
      injection e with e; injection e with e
      exact .inl ⟨ea.symm, e.symm⟩
    · rw [if_neg ea] at e; exact .inr e
  have lt : ∀ a i, ow[a]? = some (some i) → i < hs.length := fun a i e => by
    obtain ⟨g, e2, _⟩ := O.at_ a i e
    exact (List.getElem?_eq_some_iff.mp e2).1
  refine ⟨by simp [O.size], fun i hi => ?_, fun a a' i e e' => ?_, fun a i e => ?_⟩
  · rw [List.length_append, List.length_singleton] at hi
    rcases Nat.lt_or_ge i hs.length with h1 | h1
    · obtain ⟨a, ea⟩ := O.ex i h1
      exact ⟨a, old a i ea⟩
    · have : i = hs.length := by lia
      subst this
      exact ⟨j, new⟩
  · rcases inv a i e with ⟨r1, r2⟩ | r
    · rcases inv a' i e' with ⟨q1, q2⟩ | q
      · rw [r1, q1]
      · have := lt _ _ q; lia
    · rcases inv a' i e' with ⟨q1, q2⟩ | q
      · have := lt _ _ r; lia
      · exact O.un a a' i r q
  · rcases inv a i e with ⟨r1, r2⟩ | r
    · subst r1; subst r2
      refine ⟨h, by simp, u, hj, fun v hv => ?_⟩
      obtain ⟨i', e'⟩ := u3 v hv
      exact ⟨i', old _ _ e'⟩
    · obtain ⟨g, e2, s, s1, s2⟩ := O.at_ a i r
      refine ⟨g, by rw [List.getElem?_append_left (lt _ _ r)]; exact e2, s, s1, fun v hv => ?_⟩
      obtain ⟨i', e'⟩ := s2 v hv
      exact ⟨i', old _ _ e'⟩
def layF (mask : Nat) (acc : Option (Array (Option Nat) × Nat)) (h : Int) : Option (Array (Option Nat) × Nat) := do
  let (owner, k) ← acc
  let j ← layClean.free mask owner (turns mask) (bits h % (mask + 1)) (bits h)
  pure (owner.setIfInBounds j (some k), k + 1)
theorem lay_fold {mask k : Nat} (hk : mask + 1 = 2 ^ k) : ∀ (gs hs : List Int) (ow : Array (Option Nat)), Ow mask hs ow → hs.length + gs.length ≤ mask → ∃ ow', gs.foldl (layF mask) (some (ow, hs.length)) = some (ow', (hs ++ gs).length) ∧ Ow mask (hs ++ gs) ow'
  | [], hs, ow, O, _ => ⟨ow, by simp, by simpa using O⟩
  | h :: gs, hs, ow, O, hl => by
    rw [List.length_cons] at hl
    obtain ⟨j, e1, O1⟩ := O.lay hk (by lia) h
    obtain ⟨ow', e2, O2⟩ := lay_fold hk gs (hs ++ [h]) _ O1 (by rw [List.length_append, List.length_singleton]; lia)
    refine ⟨ow', ?_, by simpa using O2⟩
    rw [List.foldl_cons, show layF mask (some (ow, hs.length)) h = some (ow.setIfInBounds j (some hs.length), hs.length + 1) by
      show (layClean.free mask ow (turns mask) (bits h % (mask + 1)) (bits h)).bind _ = _
      rw [e1]; rfl]
    rw [List.length_append, List.length_singleton] at e2
    rw [e2]
    simp
theorem layClean_eq {mask k : Nat} (hk : mask + 1 = 2 ^ k) (hs : Array Int) (hl : hs.size ≤ mask) : ∃ ow, layClean mask hs = some ow ∧ Ow mask hs.toList ow := by
  obtain ⟨ow, e, O⟩ := lay_fold hk hs.toList [] _ ow_none (by simpa using hl)
  refine ⟨ow, ?_, by simpa using O⟩
  show (hs.foldl (layF mask) (some (Array.replicate (mask + 1) none, 0))).map (·.1) = _
  rw [← Array.foldl_toList, show (some (Array.replicate (mask + 1) (Option.none (α := Nat)), 0)) = some (Array.replicate (mask + 1) none, ([] : List Int).length) from rfl, e]
  rfl
theorem laid_eq {mask k : Nat} (hk : mask + 1 = 2 ^ k) (finger moves : Nat) (led plain : Bool) (hs : Array Int) (hl : hs.size ≤ mask) :
    ∃ t ord, laid mask finger moves led plain hs = some (t, ord) ∧ t.mask = mask ∧ t.led = led ∧ t.plain = plain ∧ t.moves = moves ∧ ord.toList.Perm (List.range hs.size) ∧ Tb t (ord.toList.map fun i => hs.getD i 0) := by
  obtain ⟨ow, e, O⟩ := layClean_eq hk hs hl
  let live := (List.range (mask + 1)).filterMap fun j => (ow.getD j none).map (j, ·)
  have mem : ∀ j i, (j, i) ∈ live ↔ ow[j]? = some (some i) := fun j i => by
    show (j, i) ∈ List.filterMap _ _ ↔ _
    rw [List.mem_filterMap]
    constructor
    · rintro ⟨a, ha, hm⟩
      cases hc : ow.getD a none with
      | none => rw [hc] at hm; cases hm
      | some z =>
        rw [hc] at hm
        simp only [Option.map_some, Option.some.injEq, Prod.mk.injEq] at hm
        obtain ⟨rfl, rfl⟩ := hm
        have ha' : a < ow.size := by rw [O.size]; exact List.mem_range.mp ha
        rw [Array.getElem?_eq_getElem ha']
        rw [show ow.getD a none = ow[a] by simp [Array.getD, ha']] at hc
        rw [hc]
    · intro h
      obtain ⟨hj, hv⟩ := Array.getElem?_eq_some_iff.mp h
      refine ⟨j, List.mem_range.mpr (by rw [← O.size]; exact hj), ?_⟩
      rw [show ow.getD j none = ow[j] by simp [Array.getD, hj], hv]
      rfl
  have pw : live.Pairwise (fun a b => a.1 < b.1) := by
    show List.Pairwise _ (List.filterMap _ _)
    rw [List.pairwise_filterMap]
    refine List.pairwise_lt_range.imp fun {a b} hab x hx y hy => ?_
    cases h1 : ow.getD a none with
    | none => rw [h1] at hx; cases hx
    | some z =>
      cases h2 : ow.getD b none with
      | none => rw [h2] at hy; cases hy
      | some z' =>
        rw [h1] at hx; rw [h2] at hy
        simp only [Option.map_some, Option.some.injEq] at hx hy
        rw [← hx, ← hy]; exact hab
  have pl : (live.map (·.1)).toArray.toList = live.map (·.1) := by simp
  have ol : (live.map (·.2)).toArray.toList = live.map (·.2) := by simp
  refine ⟨{ mask, place := (live.map (·.1)).toArray, dummies := #[], finger, led, moves, plain }, (live.map (·.2)).toArray, ?_, rfl, rfl, rfl, rfl, ?_, ⟨⟨k, hk⟩, rfl, ?_, ?_, fun j hj => ?_, fun q hq => ?_⟩⟩
  · show (layClean mask hs).bind _ = _
    rw [e]; rfl
  · rw [ol]
    refine (List.perm_ext_iff_of_nodup ?_ List.nodup_range).mpr fun i => ?_
    · rw [List.Nodup, List.pairwise_map]
      refine List.Pairwise.imp_of_mem (fun {a b} ha hb hab e => ?_) pw
      have := O.un a.1 b.1 a.2 ((mem _ _).mp ha) (by rw [e]; exact (mem _ _).mp hb)
      lia
    · rw [List.mem_map, List.mem_range]
      constructor
      · rintro ⟨⟨j, i'⟩, hm, rfl⟩
        obtain ⟨g, e2, _⟩ := O.at_ j i' ((mem _ _).mp hm)
        have := (List.getElem?_eq_some_iff.mp e2).1
        simpa using this
      · intro hi
        obtain ⟨j, ej⟩ := O.ex i (by simpa using hi)
        exact ⟨(j, i), (mem _ _).mpr ej, rfl⟩
  · show (live.map (·.1)).toArray.toList.length = ((live.map (·.2)).toArray.toList.map _).length
    rw [pl, ol]; simp
  · show (live.map (·.1)).toArray.toList.Pairwise _
    rw [pl, List.pairwise_map]; exact pw
  · have hj : j ∈ (live.map (·.1)).toArray.toList := hj
    rw [pl] at hj
    obtain ⟨⟨j', i⟩, hm, rfl⟩ := List.mem_map.mp hj
    have := (Array.getElem?_eq_some_iff.mp ((mem _ _).mp hm)).1
    rw [O.size] at this
    show j' ≤ mask
    lia
  · have hq : q ∈ (live.map (·.1)).toArray.toList.zip ((live.map (·.2)).toArray.toList.map fun i => hs.getD i 0) := hq
    show Rc mask (live.map (·.1)).toArray.toList q.1 q.2
    rw [pl, ol, List.map_map, List.zip_map', List.mem_map] at hq
    rw [pl]
    obtain ⟨⟨j, i⟩, hm, rfl⟩ := hq
    obtain ⟨g, e2, s, s1, s2⟩ := O.at_ j i ((mem _ _).mp hm)
    have eg : hs.getD i 0 = g := by
      obtain ⟨hi, ei⟩ := List.getElem?_eq_some_iff.mp e2
      have hi' : i < hs.size := by simpa using hi
      simp only [Array.getD, hi', dif_pos]
      simpa using ei
    show Rc mask _ j (hs.getD i 0)
    rw [eg]
    refine ⟨s, s1, fun v hv => ?_⟩
    obtain ⟨i', e'⟩ := s2 v hv
    exact List.mem_map.mpr ⟨(_, i'), (mem _ _).mpr e', rfl⟩
end ST
end
section
set_option maxHeartbeats 4000000
namespace ST
open PySem PySem.Spec PySem.SetTable
structure SKind {prog : Program} {w : World} {K : Type} [DecidableEq K] (knd : HeapKind prog w K) : Prop where
  own : ∀ {A : Around} {E : Value → Shared → Prop} {s : Shared} {k : K} {a : Addr} {Q : Bool → Shared → Prop}, knd.is s.heap k a → Q false s → wpAny (model prog w) A (ofAClassStatement 8 (.ref a)) Q E s
  byv : ∀ {A : Around} {E : Value → Shared → Prop} {s : Shared} {k : K} {a : Addr} {Q : Bool → Shared → Prop}, knd.is s.heap k a → Q true s → wpAny (model prog w) A (hashByValue 8 (.ref a)) Q E s
  keep : ∀ {h h' : Heap} {k : K} {a : Addr}, knd.is h k a → (∀ b o items n, h.get? b = some o → o.data = .seq items n → h'.get? b = some o) → knd.is h' k a
section
variable {prog : Program} {w : World} {K : Type} [DecidableEq K] {knd : HeapKind prog w K} {A : Around} {E : Value → Shared → Prop} {s : Shared}
theorem seen_not (S : SKind knd) {k : K} {b : Addr} (hk : knd.is s.heap k b) {Q : Bool → Shared → Prop} (q : Q false s) : ∀ (ys : List Value), (∀ y ∈ ys, ∃ k' a', y = .ref a' ∧ knd.is s.heap k' a') → wpAny (model prog w) A (searchCouldBeSeen (.ref b) ys) Q E s := by
  intro ys hy
  unfold searchCouldBeSeen
  refine wpAny_bind ?_
  refine wpAny_forIn_list _ (fun rest r s' => r.1 = none ∧ s' = s ∧ ∀ y ∈ rest, ∃ k' a', y = .ref a' ∧ knd.is s.heap k' a') _ ?_ ?_ _ _ ⟨rfl, rfl, hy⟩
  · rintro y rest r s' ⟨hr, rfl, hall⟩
    obtain ⟨k', a', rfl, hk'⟩ := hall y List.mem_cons_self
    have nx : ∀ y ∈ rest, ∃ k' a', y = .ref a' ∧ knd.is s'.heap k' a' := fun u hu => hall u (List.mem_cons_of_mem _ hu)
    dsimp only
    split
    · exact wpAny_pure ⟨rfl, rfl, nx⟩
    · refine wpAny_bind (knd.quiet hk ?_)
      simp only [Bool.not_true, Bool.false_eq_true, if_false]
      refine wpAny_bind (knd.quiet hk' ?_)
      simp only [Bool.not_true, Bool.false_eq_true, if_false]
      refine wpAny_bind (S.own hk ?_)
      simp only [Bool.false_eq_true, if_false]
      refine wpAny_bind (S.own hk' ?_)
      simp only [Bool.false_eq_true, if_false]
      exact wpAny_pure ⟨rfl, rfl, nx⟩
  · rintro ⟨r1, r2⟩ s' ⟨hr, rfl, _⟩
    simp only at hr
    subst hr
    exact wpAny_pure q
def entS (knd : HeapKind prog w K) (x : K × Addr) : Int × Value := (knd.hash x.1, .ref x.2)
structure SetIs (knd : HeapKind prog w K) (led : Bool) (h : Heap) (a : Addr) (o : Obj) (es : Array (Int × Value)) (ep : Nat) (t : SetTable) (xs : List (K × Addr)) : Prop where
  ob : h.get? a = some o
  ex : o.ExactSet
  da : o.data = .set es ep t
  el : es.toList = xs.map (entS knd)
  tb : Tb t (es.toList.map (·.1))
  few : es.size * 5 < t.mask * 3
  big : t.mask + 1 ≤ 8 * (es.size + 1)
  pl : t.plain = true
  ld : t.led = led
  is : ∀ x ∈ xs, knd.is h x.1 x.2
  nd : (xs.map (·.1)).Nodup
structure SetW (led : Bool) (h : Heap) (a : Addr) (o : Obj) (es : Array (Int × Value)) (ep : Nat) (t : SetTable) : Prop where
  ob : h.get? a = some o
  ex : o.ExactSet
  da : o.data = .set es ep t
  tb : Tb t (es.toList.map (·.1))
  few : es.size * 5 < t.mask * 3
  pl : t.plain = true
  ld : t.led = led
variable {led : Bool} {h : Heap} {a : Addr} {o : Obj} {es : Array (Int × Value)} {ep : Nat} {t : SetTable} {xs : List (K × Addr)}
theorem SetIs.tab (S : SetIs knd led h a o es ep t xs) : SetW led h a o es ep t := ⟨S.ob, S.ex, S.da, S.tb, S.few, S.pl, S.ld⟩
theorem SetW.psize (S : SetW led h a o es ep t) : t.place.size = es.size := by
  have := S.tb.len
  rw [List.length_map] at this
  simpa using this
theorem SetW.fits (S : SetW led h a o es ep t) : t.fits es.size = true := by
  have h1 := S.psize
  have h2 := S.few
  unfold SetTable.fits SetTable.fill
  rw [S.tb.nd]
  simp only [Bool.and_eq_true, beq_iff_eq, decide_eq_true_eq, Array.size_empty]
  lia
theorem SetIs.size (S : SetIs knd led h a o es ep t xs) : es.size = xs.length := by
  rw [← Array.length_toList, S.el, List.length_map]
theorem SetIs.psize (S : SetIs knd led h a o es ep t xs) : t.place.size = es.size := S.tab.psize
theorem SetIs.fits (S : SetIs knd led h a o es ep t xs) : t.fits es.size = true := S.tab.fits
theorem SetIs.odd (S : SetIs knd led h a o es ep t xs) : t.gaveWay = false := by
  obtain ⟨k, hk⟩ := S.tb.pow
  have h2 := S.few
  unfold SetTable.gaveWay
  cases k with
  | zero => simp at hk; lia
  | succ k => rw [Nat.pow_succ] at hk; simp only [beq_eq_false_iff_ne, ne_eq]; lia
theorem SetIs.get (S : SetIs knd led h a o es ep t xs) {i j : Nat} (e : t.place[i]? = some j) : ∃ x, xs[i]? = some x ∧ es[i]? = some (entS knd x) := by
  obtain ⟨hi, _⟩ := Array.getElem?_eq_some_iff.mp e
  rw [S.psize, S.size] at hi
  refine ⟨xs[i], List.getElem?_eq_getElem hi, ?_⟩
  rw [← Array.getElem?_toList, S.el, List.getElem?_map, List.getElem?_eq_getElem hi]
  rfl
theorem pl_mem {pl : Array Nat} {i j : Nat} (e : pl[i]? = some j) : j ∈ pl.toList := by
  rw [← Array.getElem?_toList] at e
  exact List.mem_of_getElem? e
theorem pl_inj {pl : Array Nat} (hr : pl.toList.Pairwise (· < ·)) {i i' j : Nat} (e : pl[i]? = some j) (e' : pl[i']? = some j) : i = i' := by
  rw [← below_at hr e, ← below_at hr e']
theorem SetIs.absent (S : SetIs knd led h a o es ep t xs) {k : K} {u : Nat} (hu : (pth t.mask (bits (knd.hash k)) u).j ∉ t.place.toList) (hv : ∀ v, v < u → ∃ (i : Nat) (x : K × Addr), t.place[i]? = some (pth t.mask (bits (knd.hash k)) v).j ∧ xs[i]? = some x ∧ x.1 ≠ k) : k ∉ xs.map (·.1) := by
  intro hm
  obtain ⟨x, hx, rfl⟩ := List.mem_map.mp hm
  obtain ⟨i, hi, e⟩ := List.mem_iff_getElem.mp hx
  have hx? : xs[i]? = some x := List.getElem?_eq_some_iff.mpr ⟨hi, e⟩
  have hp : i < t.place.size := by rw [S.psize, S.size]; exact hi
  have pz : t.place[i]? = some t.place[i] := Array.getElem?_eq_getElem hp
  have zq : (t.place[i], knd.hash x.1) ∈ t.place.toList.zip (es.toList.map (·.1)) := by
    refine List.mem_iff_getElem?.mpr ⟨i, ?_⟩
    rw [List.getElem?_zip_eq_some]
    refine ⟨by rw [Array.getElem?_toList]; exact pz, ?_⟩
    rw [S.el, List.map_map, List.getElem?_map, hx?]
    rfl
  obtain ⟨r, r1, r2⟩ := S.tb.rch _ zq
  simp only at r1 r2
  rcases Nat.lt_trichotomy r u with h1 | h1 | h1
  · obtain ⟨i', x', e1, e2, e3⟩ := hv r h1
    rw [r1] at e1
    have := pl_inj S.tb.ris e1 pz
    subst this
    rw [hx?] at e2
    injection e2 with e2
    exact e3 (by rw [e2])
  · subst h1; rw [r1] at hu; exact hu (pl_mem pz)
  · exact hu (r2 u h1)
end
end ST
end
section
set_option maxHeartbeats 4000000
namespace ST
open PySem PySem.Spec PySem.SetTable
section
variable {prog : Program} {w : World} {K : Type} [DecidableEq K] {knd : HeapKind prog w K} {A : Around} {E : Value → Shared → Prop} {s : Shared} {led : Bool} {h : Heap} {a : Addr} {o : Obj} {es : Array (Int × Value)} {ep : Nat} {t : SetTable} {xs : List (K × Addr)}
theorem probe_at {t : SetTable} {hs : List Int} (T : Tb t hs) (f : Nat → Int) (h : Int) {d s : Nat} (he : (pth t.mask (bits h) (s + d)).j ∉ t.place.toList) (hf : d < 10 * turns t.mask) :
    ∃ u, s ≤ u ∧ u ≤ s + d ∧ (∀ v, s ≤ v → v < u → ∃ i, t.place[i]? = some (pth t.mask (bits h) v).j ∧ f i ≠ h) ∧
      ((pth t.mask (bits h) u).j ∉ t.place.toList ∧ t.probe f h (pth t.mask (bits h) s) = some (.empty (pth t.mask (bits h) u).j none) ∨
       ∃ i, t.place[i]? = some (pth t.mask (bits h) u).j ∧ f i = h ∧ u < s + d ∧ t.probe f h (pth t.mask (bits h) s) = some (.candidate (pth t.mask (bits h) u).j i (pth t.mask (bits h) (u + 1)))) :=
  probe_go T d s (10 * turns t.mask) he hf
theorem search_from (SK : SKind knd) (S : SetIs knd led s.heap a o es ep t xs) {k : K} {b : Addr} (hr : knd.room A) (hk : knd.is s.heap k b) {Q : SetFound → Shared → Prop}
    (q1 : ∀ u, (pth t.mask (bits (knd.hash k)) u).j ∉ t.place.toList → (∀ v, v < u → (pth t.mask (bits (knd.hash k)) v).j ∈ t.place.toList) → k ∉ xs.map (·.1) → Q (.free (pth t.mask (bits (knd.hash k)) u).j false) s)
    (q2 : k ∈ xs.map (·.1) → Q (.there none) s) :
    ∀ (d s0 fuel : Nat) (st : Option Probe), st.getD (t.probeStart (knd.hash k)) = pth t.mask (bits (knd.hash k)) s0 → (pth t.mask (bits (knd.hash k)) (s0 + d)).j ∉ t.place.toList → d < 10 * turns t.mask → d < fuel →
      (∀ v, v < s0 → ∃ (i : Nat) (x : K × Addr), t.place[i]? = some (pth t.mask (bits (knd.hash k)) v).j ∧ xs[i]? = some x ∧ x.1 ≠ k) →
      wpAny (model prog w) A (setSearchFrom a (.ref b) (knd.hash k) true fuel st) Q E s
  | d, s0, 0, st, _, _, _, hf, _ => absurd hf (Nat.not_lt_zero _)
  | d, s0, fuel + 1, st, hst, he, h10, hf, hv => by
    unfold setSearchFrom
    refine wpAny_bind (wpAny_setState_of S.ob S.da S.fits ?_)
    dsimp only
    rw [S.odd]
    simp only [Bool.false_eq_true, if_false]
    have fneq : ∀ i, (fun (i : Nat) => (es[i]?.map (·.1)).getD 0) i = (es[i]?.map (·.1)).getD 0 := fun i => rfl
    obtain ⟨u, u1, u2, u3, u4⟩ := probe_at S.tb (fun (i : Nat) => (es[i]?.map (·.1)).getD 0) (knd.hash k) he h10
    rw [hst]
    have seen : ∀ v, v < u → ∃ (i : Nat) (x : K × Addr), t.place[i]? = some (pth t.mask (bits (knd.hash k)) v).j ∧ xs[i]? = some x ∧ x.1 ≠ k := fun v hvu => by
      rcases Nat.lt_or_ge v s0 with h | h
      · exact hv v h
      · obtain ⟨i, e1, e2⟩ := u3 v h hvu
        obtain ⟨x, x1, x2⟩ := S.get e1
        refine ⟨i, x, e1, x1, fun z => e2 ?_⟩
        show (es[i]?.map (·.1)).getD 0 = _
        rw [x2, ← z]
        rfl
    rcases u4 with ⟨n1, n2⟩ | ⟨i, c1, c2, c3, c4⟩
    · erw [n2]
      dsimp only
      refine wpAny_pure ?_
      exact q1 u n1 (fun v hvu => let ⟨i, x, e1, _⟩ := seen v hvu; pl_mem e1) (S.absent n1 seen)
    · erw [c4]
      dsimp only
      obtain ⟨x, x1, x2⟩ := S.get c1
      have xi := S.is x (List.mem_of_getElem? x1)
      have c2 : (es[i]?.map (·.1)).getD 0 = knd.hash k := c2
      have slt : t.slot (pth t.mask (bits (knd.hash k)) u).j = .live i := slot_live S.tb.ris c1
      have sm : t.sameMemory t.moves t.mask = some true := by unfold SetTable.sameMemory; simp
      have next : x.1 ≠ k → wpAny (model prog w) A (setSearchFrom a (.ref b) (knd.hash k) true fuel (some (pth t.mask (bits (knd.hash k)) (u + 1)))) Q E s := fun hx => by
        refine search_from SK S hr hk q1 q2 (s0 + d - (u + 1)) (u + 1) fuel _ rfl ?_ (by lia) (by lia) (fun v hvu => ?_)
        · rw [show u + 1 + (s0 + d - (u + 1)) = s0 + d by lia]; exact he
        · rcases Nat.lt_or_ge v u with h | h
          · exact seen v h
          · have : v = u := by lia
            subst this
            exact ⟨i, x, c1, x1, hx⟩
      rw [x2]
      dsimp only [entS]
      split
      · refine wpAny_bind (seen_not SK hk ?_ _ fun y hy => ?_)
        · simp only [Bool.false_eq_true, if_false]
          refine wpAny_bind (wpAny_holding (knd.eqBool hr xi hk ?_))
          refine wpAny_bind (wpAny_setState_of S.ob S.da S.fits ?_)
          by_cases hx : x.1 = k
          · rw [decide_eq_true hx]
            simp only [Bool.and_self, if_true]
            exact wpAny_pure (q2 (hx ▸ List.mem_map.mpr ⟨x, List.mem_of_getElem? x1, rfl⟩))
          · rw [decide_eq_false hx]
            simp only [Bool.and_false, Bool.false_eq_true, if_false]
            rw [sm]
            dsimp only
            rw [if_pos rfl, slt]
            dsimp only
            rw [x2]
            dsimp only [entS]
            refine wpAny_bind (wpAny_isSame_ref_self ?_)
            refine wpAny_bind (wpAny_pure ?_)
            simp only [if_true]
            exact next hx
        · obtain ⟨e, he', rfl⟩ := List.mem_map.mp hy
          have he2 : e ∈ es.toList := by
            have : e ∈ Array.filter (fun x => x.fst == knd.hash k) es := by simpa using he'
            exact (Array.mem_filter.mp this).1.val
          rw [S.el] at he2
          obtain ⟨z, hz, rfl⟩ := List.mem_map.mp he2
          exact ⟨z.1, z.2, rfl, S.is z hz⟩
      · refine wpAny_bind (wpAny_holding (knd.eqBool hr xi hk ?_))
        refine wpAny_bind (wpAny_setState_of S.ob S.da S.fits ?_)
        by_cases hx : x.1 = k
        · rw [decide_eq_true hx]
          simp only [Bool.and_self, if_true]
          exact wpAny_pure (q2 (hx ▸ List.mem_map.mpr ⟨x, List.mem_of_getElem? x1, rfl⟩))
        · rw [decide_eq_false hx]
          simp only [Bool.and_false, Bool.false_eq_true, if_false]
          rw [sm]
          dsimp only
          rw [if_pos rfl, slt]
          dsimp only
          rw [x2]
          dsimp only [entS]
          refine wpAny_bind (wpAny_isSame_ref_self ?_)
          refine wpAny_bind (wpAny_pure ?_)
          simp only [if_true]
          exact next hx
end
end ST
end
section
set_option maxHeartbeats 4000000
namespace ST
open PySem PySem.Spec PySem.SetTable
theorem above_go (n : Nat) : ∀ (fuel size : Nat), (∃ k, size = 2 ^ k) → n < size * 2 ^ fuel → (∃ k, sizeAbove.go n fuel size = 2 ^ k) ∧ n < sizeAbove.go n fuel size ∧ (sizeAbove.go n fuel size = size ∨ sizeAbove.go n fuel size ≤ 2 * n)
  | 0, size, hk, h => by
    unfold sizeAbove.go
    exact ⟨hk, by simpa using h, .inl rfl⟩
  | fuel + 1, size, hk, h => by
    unfold sizeAbove.go
    by_cases hs : size ≤ n
    · rw [if_pos hs]
      obtain ⟨k, hk⟩ := hk
      obtain ⟨a1, a2, a3⟩ := above_go n fuel (size * 2) ⟨k + 1, by rw [hk, Nat.pow_succ]⟩ (by rw [Nat.pow_succ] at h; rw [Nat.mul_assoc, Nat.mul_comm 2]; exact h)
      exact ⟨a1, a2, .inr (by lia)⟩
    · rw [if_neg hs]
      exact ⟨hk, by lia, .inl rfl⟩
theorem above_spec {n : Nat} (h : n < 2 ^ 60) : (∃ k, sizeAbove n = 2 ^ k) ∧ n < sizeAbove n ∧ (sizeAbove n = 8 ∨ sizeAbove n ≤ 2 * n) :=
  above_go n 64 8 ⟨3, rfl⟩ (Nat.lt_of_lt_of_le h (by decide))
section
variable {prog : Program} {w : World} {K : Type} [DecidableEq K] {knd : HeapKind prog w K} {A : Around} {E : Value → Shared → Prop} {s : Shared} {led : Bool} {h : Heap} {a : Addr} {o : Obj} {es : Array (Int × Value)} {ep : Nat} {t : SetTable} {xs : List (K × Addr)}
theorem stored {h : Heap} {a : Addr} {o : Obj} {es es' : Array (Int × Value)} {ep : Nat} {t t' : SetTable} (ho : h.get? a = some o) (hd : o.data = .set es ep t) : (h.update a (Obj.putSet es' t')).get? a = some { o with data := .set es' (ep + 1) t' } := by
  have := Heap.get?_update_self (Obj.putSet es' t') ho (by rw [putSet_of es' t' hd]; rfl)
  rw [putSet_of es' t' hd] at this; exact this
theorem keepU (SK : SKind knd) {h : Heap} {a : Addr} {o : Obj} {es : Array (Int × Value)} {ep : Nat} {t : SetTable} (f : Obj → Obj) (ho : h.get? a = some o) (hd : o.data = .set es ep t) {k : K} {b : Addr} (hk : knd.is h k b) : knd.is (h.update a f) k b :=
  SK.keep hk fun c oc items n hc hs => by
    have : c ≠ a := fun e => by subst e; rw [ho] at hc; injection hc with hc; rw [← hc, hd] at hs; cases hs
    exact (Heap.get?_update_other _ _ this.symm).trans hc
theorem filterMap_ord {α : Type} (xs : List α) : ∀ (l : List Nat), (∀ i ∈ l, i < xs.length) → ∀ {β : Type} (f : α → β), ((l.filterMap (xs[·]?)).map f) = l.filterMap ((xs.map f)[·]?)
  | [], _, _, f => rfl
  | i :: l, h, β, f => by
    have hi := h i List.mem_cons_self
    rw [List.filterMap_cons, List.filterMap_cons]
    rw [List.getElem?_eq_getElem hi, List.getElem?_map, List.getElem?_eq_getElem hi]
    simp only [Option.map_some, List.map_cons]
    rw [filterMap_ord xs l (fun i hi => h i (List.mem_cons_of_mem _ hi)) f]
theorem ord_len {α : Type} (xs : List α) : ∀ (l : List Nat), (∀ i ∈ l, i < xs.length) → (l.filterMap (xs[·]?)).length = l.length
  | [], _ => rfl
  | i :: l, h => by
    have hi := h i List.mem_cons_self
    rw [List.filterMap_cons, List.getElem?_eq_getElem hi]
    simp only [List.length_cons]
    rw [ord_len xs l fun i hi => h i (List.mem_cons_of_mem _ hi)]
theorem ord_hash (hs : List Int) : ∀ (l : List Nat), (∀ i ∈ l, i < hs.length) → l.filterMap (hs[·]?) = l.map fun i => hs.toArray.getD i 0
  | [], _ => rfl
  | i :: l, h => by
    have hi := h i List.mem_cons_self
    rw [List.filterMap_cons, List.getElem?_eq_getElem hi, List.map_cons, ord_hash hs l fun i hi => h i (List.mem_cons_of_mem _ hi)]
    simp [Array.getD, hi]
theorem ord_id {α : Type} (xs : List α) : (List.range xs.length).filterMap (xs[·]?) = xs := by
  refine List.ext_getElem? fun i => ?_
  rw [show (List.range xs.length).filterMap (xs[·]?) = xs from ?_]
  induction xs with
  | nil => rfl
  | cons x xs ih =>
    rw [List.length_cons, List.range_succ_eq_map, List.filterMap_cons]
    simp only [List.getElem?_cons_zero, List.filterMap_map]
    congr 1
theorem ord_perm {α : Type} {xs : List α} {l : List Nat} (h : l.Perm (List.range xs.length)) : (l.filterMap (xs[·]?)).Perm xs := by
  have := h.filterMap (xs[·]?)
  rwa [ord_id] at this
theorem relay (SK : SKind knd) (ho : s.heap.get? a = some o) (hex : o.ExactSet) (hd : o.data = .set es ep t) (el : es.toList = xs.map (entS knd)) (tb : Tb t (es.toList.map (·.1))) (lt : es.size ≤ t.mask) (hp : t.plain = true) (hled : t.led = led) (his : ∀ x ∈ xs, knd.is s.heap x.1 x.2) (hnd : (xs.map (·.1)).Nodup)
    (h0 : 0 < es.size) (h1 : es.size ≤ 1001) {Q : Unit → Shared → Prop} (q : ∀ h' o' es' ep' t' xs', Heap.SameBut a s.heap h' → SetIs knd led h' a o' es' ep' t' xs' → xs'.Perm xs → Q () { s with heap := h' }) : wpAny (model prog w) A (setRelay a (grown es.size)) Q E s := by
  have sz : es.size = xs.length := by rw [← Array.length_toList, el, List.length_map]
  have psz : t.place.size = es.size := by
    have := tb.len
    rw [List.length_map] at this
    simpa using this
  have fits : t.fits es.size = true := by
    unfold SetTable.fits SetTable.fill
    rw [tb.nd]
    simp only [Bool.and_eq_true, beq_iff_eq, decide_eq_true_eq, Array.size_empty]
    lia
  have gr : grown es.size = es.size * 4 := by unfold grown; rw [if_neg (by lia)]
  obtain ⟨⟨k, a1⟩, a2, a3⟩ := above_spec (n := grown es.size) (Nat.lt_of_le_of_lt (show grown es.size ≤ 4004 by lia) (by decide))
  have hk : sizeAbove (grown es.size) - 1 + 1 = 2 ^ k := by lia
  unfold setRelay
  refine wpAny_bind (wpAny_setState_of ho hd fits ?_)
  dsimp only
  rw [if_neg (by rw [sizeLine_eq]; lia)]
  have hsz : (es.map (·.1)).size = es.size := by simp
  obtain ⟨t', ord, e1, e2, e3, e4, e5, e6, e7⟩ := laid_eq hk t.finger (t.movedTo (sizeAbove (grown es.size) - 1)) t.led t.plain (es.map (·.1)) (by rw [hsz]; lia)
  rw [hsz] at e6
  have mem : ∀ i ∈ ord.toList, i < es.size := fun i hi => List.mem_range.mp (e6.mem_iff.mp hi)
  have eo : (ord.filterMap (es[·]?)).toList = ord.toList.filterMap (es.toList[·]?) := by
    rw [Array.toList_filterMap]
    congr 1
    funext i
    simp
  have elx : (ord.filterMap (es[·]?)).toList = (ord.toList.filterMap (xs[·]?)).map (entS knd) := by
    rw [eo, el, filterMap_ord xs _ fun i hi => by rw [← sz]; exact mem i hi]
  have esz : (ord.filterMap (es[·]?)).size = es.size := by
    rw [← Array.length_toList, eo, ord_len _ _ fun i hi => by simpa using mem i hi, e6.length_eq, List.length_range]
  have er : t.relaid (es.map (·.1)) (grown es.size) = some (t', ord) := e1
  have hh : (ord.filterMap (es[·]?)).toList.map (·.1) = ord.toList.map fun i => (es.map (·.1)).getD i 0 := by
    rw [eo, filterMap_ord es.toList _ fun i hi => by simpa using mem i hi]
    rw [ord_hash _ _ fun i hi => by simpa using mem i hi]
    congr 1
    funext i
    congr 1
    apply Array.ext'
    simp
  have pm : (ord.toList.filterMap (xs[·]?)).Perm xs := ord_perm (by rw [← sz]; exact e6)
  have st := stored (es' := ord.filterMap (es[·]?)) (t' := t') ho hd
  have fin : wpAny (model prog w) A (storeSet a (ord.filterMap (es[·]?)) t') Q E s := by
    refine wpAny_storeSet_of ho hd ?_ (by rw [esz, sizeLine_eq]; lia)
    refine q _ _ _ _ _ _ (Heap.SameBut.update _ _ _) ⟨st, hex, rfl, elx, by rw [hh]; exact e7, by rw [esz, e2]; lia, by rw [esz, e2]; lia, by rw [e4]; exact hp, by rw [e3]; exact hled, fun x hx => keepU SK _ ho hd (his x (pm.mem_iff.mp hx)), ?_⟩ pm
    exact (pm.map _).nodup_iff.mpr hnd
  rw [er]
  refine wpAny_bind ?_
  have hne : ((ord.filterMap (es[·]?)).size != es.size) = false := by rw [esz]; exact bne_self_eq_false _
  show wpAny (model prog w) A (if ((ord.filterMap (es[·]?)).size != es.size) = true then (do unsupported "internal:set-table-lost-an-element"; pure (ord.filterMap (es[·]?), t')) else pure (ord.filterMap (es[·]?), t')) _ E s
  rw [hne, if_neg Bool.false_ne_true]
  exact wpAny_pure fin
end
end ST
end
section
set_option maxHeartbeats 4000000
namespace ST
open PySem PySem.Spec PySem.SetTable
section
variable {prog : Program} {w : World} {K : Type} [DecidableEq K] {knd : HeapKind prog w K} {A : Around} {E : Value → Shared → Prop} {s : Shared} {led : Bool} {h : Heap} {a : Addr} {o : Obj} {es : Array (Int × Value)} {ep : Nat} {t : SetTable} {xs : List (K × Addr)}
def put1 (xs : List (K × Addr)) (k : K) (b : Addr) : List (K × Addr) := if k ∈ xs.map (·.1) then xs else xs ++ [(k, b)]
theorem add_hashed (SK : SKind knd) (S : SetIs knd led s.heap a o es ep t xs) {k : K} {b : Addr} (hr : knd.room A) (hk : knd.is s.heap k b) (hl : xs.length ≤ 1000) {Q : Bool → Shared → Prop}
    (q : ∀ r h' o' es' ep' t' xs', Heap.SameBut a s.heap h' → SetIs knd led h' a o' es' ep' t' xs' → xs'.Perm (put1 xs k b) → Q r { s with heap := h' }) : wpAny (model prog w) A (setAddHashed a (.ref b) (knd.hash k)) Q E s := by
  have sz := S.size
  have big := S.big
  unfold setAddHashed setAddHashedIn
  refine wpAny_holding (wpAny_bind (wpAny_setState_of S.ob S.da S.fits ?_))
  dsimp only
  rw [show byScan (.ref b) es = false from rfl, if_neg Bool.false_ne_true]
  unfold setSearch
  obtain ⟨kk, hkk⟩ := S.tb.pow
  have few := S.few
  obtain ⟨y, y1, y2⟩ := free_place (mask := t.mask) (g := t.place.toList) (by have := S.psize; simp; lia)
  obtain ⟨d, d1, d2⟩ := pth_all (b := bits (knd.hash k)) hkk (bits_lt _) y1
  refine wpAny_bind (search_from SK S hr hk (fun u u1 u2 u3 => ?_) (fun hm => ?_) d 0 100000 none rfl (by rw [Nat.zero_add, d2]; exact y2) (by unfold turns; lia) (by lia) (fun v hv => absurd hv (Nat.not_lt_zero _)))
  · dsimp only
    refine wpAny_bind (wpAny_setState_of S.ob S.da S.fits ?_)
    dsimp only
    rw [put_eq S.tb.nd]
    dsimp only
    have T1 := S.tb.put (h := knd.hash k) u1 u2
    generalize hp : below t.place (pth t.mask (bits (knd.hash k)) u).j = p at *
    rw [if_pos S.pl]
    refine wpAny_bind (SK.byv hk ?_)
    simp only [if_true]
    have e1 : (insertAt es p (knd.hash k, Value.ref b)).toList = es.toList.take p ++ (knd.hash k, .ref b) :: es.toList.drop p := insertAt_list _ _ _
    have sz1 : (insertAt es p (knd.hash k, Value.ref b)).size = es.size + 1 := by rw [← Array.length_toList, e1, len_ins]; simp
    have el1 : (insertAt es p (knd.hash k, Value.ref b)).toList = (xs.take p ++ (k, b) :: xs.drop p).map (entS knd) := by
      rw [e1, S.el, List.map_append, List.map_cons, List.map_take, List.map_drop]; rfl
    have hs1 : (insertAt es p (knd.hash k, Value.ref b)).toList.map (·.1) = (es.toList.map (·.1)).take p ++ knd.hash k :: (es.toList.map (·.1)).drop p := by
      rw [e1, List.map_append, List.map_cons, List.map_take, List.map_drop]
    have pm1 : (xs.take p ++ (k, b) :: xs.drop p).Perm (put1 xs k b) := by
      unfold put1
      rw [if_neg u3]
      have h1 : (xs.take p ++ (k, b) :: xs.drop p).Perm ((k, b) :: (xs.take p ++ xs.drop p)) := List.perm_middle
      rw [List.take_append_drop] at h1
      exact h1.trans (List.perm_append_singleton (k, b) xs).symm
    have nd1 : ((xs.take p ++ (k, b) :: xs.drop p).map (·.1)).Nodup := by
      refine (pm1.map _).nodup_iff.mpr ?_
      unfold put1
      rw [if_neg u3, List.map_append, List.nodup_append]
      exact ⟨S.nd, by simp, fun x hx z hz e => u3 (by simp at hz; rw [← hz, ← e]; exact hx)⟩
    have is1 : ∀ x ∈ xs.take p ++ (k, b) :: xs.drop p, knd.is s.heap x.1 x.2 := fun x hx => by
      rcases mem_ins.mp hx with rfl | hx
      · exact hk
      · exact S.is x hx
    refine wpAny_bind (wpAny_storeSet_of S.ob S.da ?_ (by rw [sz1, sizeLine_eq]; lia))
    have st := stored (es' := insertAt es p (knd.hash k, Value.ref b)) (t' := { t with place := insertAt t.place p (pth t.mask (bits (knd.hash k)) u).j }) S.ob S.da
    have ps1 : (insertAt t.place p (pth t.mask (bits (knd.hash k)) u).j).size = es.size + 1 := by
      rw [← Array.length_toList, insertAt_list, len_ins]; have := S.psize; simp; lia
    have is2 : ∀ x ∈ xs.take p ++ (k, b) :: xs.drop p, knd.is (s.heap.update a (Obj.putSet (insertAt es p (knd.hash k, Value.ref b)) { t with place := insertAt t.place p (pth t.mask (bits (knd.hash k)) u).j })) x.1 x.2 := fun x hx => keepU SK _ S.ob S.da (is1 x hx)
    simp only [Bool.not_false, Bool.true_and]
    by_cases hf : ({ t with place := insertAt t.place p (pth t.mask (bits (knd.hash k)) u).j } : SetTable).tooFull = true
    · rw [if_pos hf]
      refine wpAny_bind ?_
      rw [← sz1]
      refine relay (s := { s with heap := s.heap.update a (Obj.putSet (insertAt es p (knd.hash k, Value.ref b)) { t with place := insertAt t.place p (pth t.mask (bits (knd.hash k)) u).j }) }) SK st S.ex rfl el1 (by rw [hs1]; exact T1) (by rw [sz1]; show es.size + 1 ≤ t.mask; lia) S.pl S.ld is2 nd1 (by rw [sz1]; lia) (by rw [sz1]; lia) fun h' o' es' ep' t' xs' sb S' pm' => ?_
      exact wpAny_pure (q true h' o' es' ep' t' xs' ((Heap.SameBut.update _ _ _).trans sb) S' (pm'.trans pm1))
    · rw [if_neg hf]
      refine wpAny_pure (q true _ _ _ _ _ _ (Heap.SameBut.update _ _ _) ⟨st, S.ex, rfl, el1, by rw [hs1]; exact T1, ?_, ?_, S.pl, S.ld, is2, nd1⟩ pm1)
      · unfold SetTable.tooFull SetTable.fill at hf
        simp only [decide_eq_true_eq, ps1, S.tb.nd, Array.size_empty] at hf
        rw [sz1]
        show (es.size + 1) * 5 < t.mask * 3
        lia
      · rw [sz1]
        show t.mask + 1 ≤ _
        lia
  · dsimp only
    refine wpAny_pure ?_
    have := q false s.heap o es ep t xs (Heap.SameBut.refl _ _) S (by unfold put1; rw [if_pos hm])
    exact this
end
end ST
end
section
set_option maxHeartbeats 4000000
namespace ST
open PySem PySem.Spec PySem.SetTable PyProof.Rows
section
variable {prog : Program} {w : World}
theorem int_own (n : Nat) {A : Around} {E : Value → Shared → Prop} {s : Shared} {i : Int} {tk : Tok} {Q : Bool → Shared → Prop} (q : Q false s) : wpAny (model prog w) A (ofAClassStatement n (.int i tk)) Q E s := by
  cases n <;> exact wpAny_pure q
theorem int_byv (n : Nat) {A : Around} {E : Value → Shared → Prop} {s : Shared} {i : Int} {tk : Tok} {Q : Bool → Shared → Prop} (q : Q true s) : wpAny (model prog w) A (hashByValue n (.int i tk)) Q E s := by
  cases n <;> exact wpAny_pure q
theorem items_int : ∀ {ks : List Int} {vs : List Value}, ItemsAre (intKind prog w) ks vs → ∀ v ∈ vs, ∃ i tk, v = .int i tk
  | _, _, .nil, v, h => absurd h List.not_mem_nil
  | _, _, .cons (k := k) (v := u) h1 hr, v, h => by
    rcases List.mem_cons.mp h with rfl | h
    · have : Value.isInt k v = true := h1
      obtain ⟨t, e⟩ := Value.isInt_shape this
      exact ⟨k, t, e⟩
    · exact items_int hr v h
theorem skT : SKind (tupleKind (intKind prog w)) where
  own := fun {A E s k a Q} hk q => by
    have hT := IsTupleKey.typeIs (s := s) hk
    obtain ⟨o, items, n, ho, hc, hd, hi⟩ := hk
    unfold ofAClassStatement
    refine wpAny_bind (wpAny_typeOf hT ?_)
    dsimp only
    rw [if_pos (show (("tuple" : String) == "tuple") = true from rfl)]
    refine wpAny_bind (wpAny_pure ?_)
    simp only [Bool.not_true, Bool.false_eq_true, if_false]
    refine wpAny_bind (wpAny_seqItems ho hd ?_)
    dsimp only
    refine wpAny_bind ?_
    rw [← Array.forIn_toList]
    refine wpAny_forIn_list _ (fun rest r s' => r.1 = none ∧ s' = s ∧ ∀ v ∈ rest, ∃ i tk, v = Value.int i tk) _ ?_ ?_ _ _ ⟨rfl, rfl, items_int hi⟩
    · rintro v rest r s' ⟨hr, rfl, hall⟩
      obtain ⟨i, tk, rfl⟩ := hall v List.mem_cons_self
      refine wpAny_bind (int_own _ ?_)
      simp only [Bool.false_eq_true, if_false]
      exact wpAny_pure ⟨rfl, rfl, fun u hu => hall u (List.mem_cons_of_mem _ hu)⟩
    · rintro ⟨r1, r2⟩ s' ⟨hr, rfl, _⟩
      simp only at hr
      subst hr
      exact wpAny_pure q
  byv := fun {A E s k a Q} hk q => by
    have hT := IsTupleKey.typeIs (s := s) hk
    obtain ⟨o, items, n, ho, hc, hd, hi⟩ := hk
    unfold hashByValue
    refine wpAny_bind (wpAny_specialOf hT F.slot_tuple_hash.lookup ?_)
    show wpAny _ _ (seqItems? (.ref a) >>= _) _ _ _
    refine wpAny_bind (wpAny_seqItems ho hd ?_)
    simp only [Option.getD_some]
    refine wpAny_bind ?_
    rw [← Array.forIn_toList]
    refine wpAny_forIn_list _ (fun rest r s' => r.1 = none ∧ s' = s ∧ ∀ v ∈ rest, ∃ i tk, v = Value.int i tk) _ ?_ ?_ _ _ ⟨rfl, rfl, items_int hi⟩
    · rintro v rest r s' ⟨hr, rfl, hall⟩
      obtain ⟨i, tk, rfl⟩ := hall v List.mem_cons_self
      refine wpAny_bind (int_byv _ ?_)
      simp only [Bool.not_true, Bool.false_eq_true, if_false]
      exact wpAny_pure ⟨rfl, rfl, fun u hu => hall u (List.mem_cons_of_mem _ hu)⟩
    · rintro ⟨r1, r2⟩ s' ⟨hr, rfl, _⟩
      simp only at hr
      subst hr
      exact wpAny_pure q
  keep := fun {h h' k a} hk f => by
    obtain ⟨o, items, n, ho, hc, hd, hi⟩ := hk
    exact ⟨o, items, n, f a o items n ho hd, hc, hd, hi⟩
end
section
variable {prog : Program} {w : World} {K : Type} [DecidableEq K] {knd : HeapKind prog w K} {A : Around} {R : Result → Shared → Prop} {I a : Addr} {fp wr : List Addr} {G : Array GenState → Array GenState → Prop} {n : Nat} {P : Nat → Value → Prop} {St : Nat → Shared → Prop} {led : Bool}
def Got (ks : List K) (xs : List (K × Addr)) : Prop := ∀ k, k ∈ xs.map (·.1) ↔ k ∈ ks
theorem Got.put {ks : List K} {xs xs' : List (K × Addr)} {k : K} {b : Addr} (g : Got ks xs) (p : xs'.Perm (put1 xs k b)) : Got (ks ++ [k]) xs' := fun c => by
  rw [(p.map _).mem_iff, List.mem_append, List.mem_singleton]
  unfold put1
  by_cases h : k ∈ xs.map (·.1)
  · rw [if_pos h, g c]
    exact ⟨.inl, fun z => z.elim id fun e => by rw [e]; exact (g k).mp h⟩
  · rw [if_neg h, List.map_append, List.mem_append, g c]; simp
theorem upd_loop (SK : SKind knd) (W : WalksS prog w A.in1 I fp wr G n P St) (haf : a ∉ fp) {h0 : Heap} (hnew : ∀ b ∈ a :: wr, h0.get? b = none) {ks : List K} (hkn : ks.length = n) {Z : K × Addr → Prop} (hP : ∀ i v, P i v → ∃ k b, ks[i]? = some k ∧ v = .ref b ∧ knd.is h0 k b ∧ Z (k, b)) (hn : n ≤ 1000) (hr : knd.room A.in1) :
    ∀ (m i : Nat) (s : Shared) (o : Obj) (es : Array (Int × Value)) (ep : Nat) (t : SetTable) (xs : List (K × Addr)), n - i = m → i ≤ n → St i s → (∀ b o, h0.get? b = some o → s.heap.get? b = some o) → SetIs knd led s.heap a o es ep t xs → Got (ks.take i) xs → (∀ x ∈ xs, knd.is h0 x.1 x.2 ∧ Z x) →
      (∀ s' o es ep t xs, Moved (a :: wr) G s s' → SetIs knd led s'.heap a o es ep t xs → Got ks xs → (∀ x ∈ xs, Z x) → R (.ok (.ret .none)) s') →
      codeAny (model prog w) A (.builtin "set.update.loop" ⟨[.ref a, .ref I], []⟩) R s := by
  have haw : a ∉ wr := fun z => haf (W.sub _ z)
  have sub : ∀ b ∈ wr, b ∈ a :: wr := fun b hb => List.mem_cons_of_mem _ hb
  have oldM : ∀ {s s' : Shared}, Moved (a :: wr) G s s' → (∀ b o, h0.get? b = some o → s.heap.get? b = some o) → ∀ b o, h0.get? b = some o → s'.heap.get? b = some o := fun mv old b o e =>
    mv.heap b o (fun z => by rw [hnew b z] at e; cases e) (old b o e)
  have isH : ∀ {h : Heap} {x : K × Addr}, (∀ b o, h0.get? b = some o → h.get? b = some o) → knd.is h0 x.1 x.2 → knd.is h x.1 x.2 := fun old hx => SK.keep hx fun b o _ _ e _ => old b o e
  intro m
  induction m with
  | zero =>
    intro i s o es ep t xs hm hi st old S g gi fin
    obtain rfl : i = n := by lia
    refine codeAny_builtin F.entry_set_update_loop ?_
    rw [Around.under_plainId F.plain_set_update_loop _]
    show wpAny _ A.in1 (pyNext (.ref I) >>= _) _ _ s
    refine wpAny_bind (W.done s _ _ st fun s' mv => wpAny_pure ?_)
    have mv' := mv.mono sub
    exact fin s' o es ep t xs mv' ⟨mv.heap a o haw S.ob, S.ex, S.da, S.el, S.tb, S.few, S.big, S.pl, S.ld, fun x hx => isH (oldM mv' old) (gi x hx).1, S.nd⟩ (by rw [← hkn, List.take_length] at g; exact g) fun x hx => (gi x hx).2
  | succ m ih =>
    intro i s o es ep t xs hm hi st old S g gi fin
    have lt : i < n := by lia
    refine codeAny_builtin F.entry_set_update_loop ?_
    rw [Around.under_plainId F.plain_set_update_loop _]
    show wpAny _ A.in1 (pyNext (.ref I) >>= _) _ _ s
    refine wpAny_bind (W.item i s _ _ lt st fun v s' hv st' mv => ?_)
    have mv' := mv.mono sub
    obtain ⟨k, b, hk, rfl, hkb, hz⟩ := hP i v hv
    have old' := oldM mv' old
    have S' : SetIs knd led s'.heap a o es ep t xs := ⟨mv.heap a o haw S.ob, S.ex, S.da, S.el, S.tb, S.few, S.big, S.pl, S.ld, fun x hx => isH old' (gi x hx).1, S.nd⟩
    have hkb' : knd.is s'.heap k b := isH (x := (k, b)) old' hkb
    have xl : xs.length ≤ i := by
      have := nodup_len (g := ks.take i) S.nd fun c hc => (g c).mp hc
      rw [List.length_map, List.length_take] at this
      lia
    show wpAny _ A.in1 (holding [Value.ref b] (setAdd a (.ref b)) >>= _) _ _ s'
    refine wpAny_bind (wpAny_holding ?_)
    unfold setAdd
    refine wpAny_holding (wpAny_bind (knd.pyHash hr hkb' ?_))
    refine add_hashed (s := { s' with toks := s'.toks + knd.draws k }) SK S' hr hkb' (by lia) fun r h' o' es' ep' t' xs' sb S2 pm => ?_
    have step : Moved (a :: wr) G s' { s' with heap := h', toks := s'.toks + knd.draws k } := (Moved.refl W.grefl).then_heap (Nat.le_add_right _ _) fun c oc hc e => (sb.2 c (fun z => hc (by rw [z]; exact List.mem_cons_self))).trans e
    have mv2 := Moved.trans W.gtrans mv' step
    refine wpAny_pure ⟨plainId_quiet F.plain_set_update_loop _, ih (i + 1) _ o' es' ep' t' xs' (by lia) lt (W.frame _ s' _ _ st' (Nat.le_add_right _ _) fun c hc oc e => ?_) (oldM mv2 old) S2 ?_ (fun x hx => ?_) fun s2 o2 es2 ep2 t2 xs2 mv3 S3 g3 z3 => ?_⟩
    · exact (sb.2 c (fun z => haf (by rw [← z]; exact hc))).trans e
    · rw [List.take_succ, hk]
      exact g.put pm
    · have := pm.mem_iff.mp hx
      unfold put1 at this
      by_cases hin : k ∈ xs.map (·.1)
      · rw [if_pos hin] at this; exact gi x this
      · rw [if_neg hin] at this
        rcases List.mem_append.mp this with h1 | h1
        · exact gi x h1
        · rw [List.mem_singleton.mp h1]; exact ⟨hkb, hz⟩
    · exact fin s2 o2 es2 ep2 t2 xs2 (Moved.trans W.gtrans mv2 mv3) S3 g3 z3
end
end ST
end
section
set_option maxHeartbeats 4000000
namespace ST
open PySem PySem.Spec PySem.SetTable PyProof.Rows L2
def ledOf (w : World) : Bool := !(w.params.followText "set-order")
section
variable {prog : Program} {w : World} {A : Around} {E : Value → Shared → Prop} {s : Shared}
def noSet (led : Bool) : Obj := { cls := .type "set", dict := none, data := .set #[] 0 (.fresh 0 0 led) }
theorem set_made (v : Value) {Q1 : Value → Shared → Prop} (h : Q1 (.ref s.heap.objs.size) { s with heap := s.heap.push (noSet (ledOf w)) }) :
    codeAny (model prog w) A (.call (.builtin "set.__new__") ⟨[.type "set", v], []⟩) (wants Q1 E) s := by
  apply codeAny_of_tree
  change wpAny _ _ (checkBuiltinCall "set.__new__" ⟨[.type "set", v], []⟩ >>= fun _ => again (.builtin "set.__new__" ⟨[.type "set", v], []⟩)) _ _ _
  apply wpAny_bind
  rw [F.newCall_set_1]
  apply wpAny_pure
  apply wpAny_pure
  constructor
  · exact plainId_quiet F.plain_set_new _
  apply codeAny_builtin F.entry_set_new
  rw [Around.under_plainId F.plain_set_new]
  have self := sub_set_self
  simp only [Builtin.«set.__new__», Builtin.Frozenset.newClass]
  obtain ⟨hp, g, d, tk, os⟩ := s
  wp_walk
  apply wpAny_askSetting
  apply wpAny_pure
  simp only [newObj]
  exact wpAny_bind (wpAny_alloc (wpAny_pure (wpAny_pure h)))
end
section
variable {prog : Program} {w : World} {K : Type} [DecidableEq K] {knd : HeapKind prog w K} {A : Around} {E : Value → Shared → Prop} {s : Shared}
theorem SetIs.new {h : Heap} {a : Addr} {led : Bool} (e : h.get? a = some (noSet led)) : SetIs knd led h a (noSet led) #[] 0 (.fresh 0 0 led) [] :=
  ⟨e, ⟨rfl, rfl, rfl⟩, rfl, rfl, Tb.fresh _ _ _, show 0 * 5 < 7 * 3 by decide, show 7 + 1 ≤ 8 * (0 + 1) by decide, rfl, rfl, fun x hx => absurd hx List.not_mem_nil, List.nodup_nil⟩
theorem set_list_init (SK : SKind knd) {l S : Addr} {items : Array Value} {ks : List K} {Z : K × Addr → Prop} {led : Bool} {R : Result → Shared → Prop} (hh : A.handled = none) (hr : knd.room A.in1.in1) (hl : s.heap.IsList l items) {h0 : Heap} (h0s : ∀ b o, h0.get? b = some o → s.heap.get? b = some o) (h0n : ∀ b, h0.objs.size ≤ b → h0.get? b = none) (hSn : h0.objs.size ≤ S) (hsz : h0.objs.size ≤ s.heap.objs.size)
    (hlen : ks.length = items.size) (hi : ∀ (i : Nat) (v : Value), items[i]? = some v → ∃ (k : K) (b : Addr), ks[i]? = some k ∧ v = .ref b ∧ knd.is h0 k b ∧ Z (k, b)) (hb : items.size ≤ 1000) (hS : s.heap.get? S = some (noSet led)) (hlS : l ≠ S)
    (h : ∀ s' o es ep t xs, Moved [S, s.heap.objs.size] (fun a b => b = a) { s with heap := s.heap.push { cls := .type "list_iterator", data := .fields #[.ref l, .int 0 0] } } s' → SetIs knd led s'.heap S o es ep t xs → Got ks xs → (∀ x ∈ xs, Z x) → R (.ok (.ret .none)) s') :
    wpAny (model prog w) A.in1 (Builtin.«set.__init__» ⟨[.ref S, .ref l], []⟩) (fun fin s' => match fin with | .done f => R (.ok f) s' | .again c' => c'.quiet = true ∧ codeAny (model prog w) A c' R s') (fun e s' => R (.error e) s') s := by
  have ty : s.TypeIs (.ref S) "set" := ⟨_, hS, rfl⟩
  have tt : s.TypeIs (.ref l) "list" := hl.typeIs
  have n1 : isSubtype (.type "list") (.type "set") = pure false := by rw [isSubtype_type]; kernel_rfl
  have n2 : isSubtype (.type "list") (.type "frozenset") = pure false := by rw [isSubtype_type]; kernel_rfl
  simp only [Builtin.«set.__init__», noKeywords, Builtin.Frozenset.updateFrom]
  wp_walk using wpAny_pyIter_list hl
  have llt : l < s.heap.objs.size := by obtain ⟨o, e, _⟩ := hl; exact Heap.lt_size e
  have Slt := Heap.lt_size hS
  have W := Walks.list (prog := prog) (w := w) (A := A.in1.in1) (by simp [hh]) s.heap.objs.size l (Nat.ne_of_lt llt) items
  refine upd_loop SK W.toS (a := S) ?_ (h0 := h0) (fun b hb' => ?_) hlen hi hb hr _ 0 _ (noSet led) #[] 0 _ [] rfl (Nat.zero_le _) ⟨⟨_, Heap.get?_push_size _ rfl, rfl, rfl⟩, hl.push _⟩ (fun b o e => Heap.get?_push_of_some _ (h0s b o e)) (SetIs.new (Heap.get?_push_of_some _ hS)) (fun k => by simp) (fun x hx => absurd hx List.not_mem_nil) fun s' o es ep t xs mv S' g z => wpAny_pure (wpAny_pure (h s' o es ep t xs mv S' g z))
  · intro z
    rcases List.mem_cons.mp z with e | e
    · exact absurd e (Nat.ne_of_lt Slt)
    · exact hlS (List.mem_singleton.mp e).symm
  · rcases List.mem_cons.mp hb' with e | e
    · rw [e]; exact h0n _ hSn
    · rw [List.mem_singleton.mp e]; exact h0n _ hsz
theorem set_list (SK : SKind knd) {l : Addr} {items : Array Value} {ks : List K} {Z : K × Addr → Prop} {Q : Value → Shared → Prop} (hh : A.handled = none) (hr : knd.room A.in1.in1.in1) (hl : s.heap.IsList l items)
    (hlen : ks.length = items.size) (hi : ∀ (i : Nat) (v : Value), items[i]? = some v → ∃ (k : K) (b : Addr), ks[i]? = some k ∧ v = .ref b ∧ knd.is s.heap k b ∧ Z (k, b)) (hb : items.size ≤ 1000)
    (h : ∀ (h' : Heap) (tk : Nat) o es ep t xs, (∀ b o, s.heap.get? b = some o → h'.get? b = some o) → SetIs knd (ledOf w) h' s.heap.objs.size o es ep t xs → Got ks xs → (∀ x ∈ xs, Z x) → Q (.ref s.heap.objs.size) { s with heap := h', toks := tk }) :
    wpAny (model prog w) A (call (.type "set") [.ref l]) Q E s := by
  refine type_called F.called_set (F.typeCall_set_1 _) (set_made (Q1 := fun v s1 => v = .ref s.heap.objs.size ∧ s1 = { s with heap := s.heap.push (noSet (ledOf w)) }) _ ⟨rfl, rfl⟩) ?_
  rintro v s1 ⟨rfl, rfl⟩
  have e0 : (s.heap.push (noSet (ledOf w))).get? s.heap.objs.size = some (noSet (ledOf w)) := Heap.get?_push_size _ rfl
  have llt : l < s.heap.objs.size := by obtain ⟨o, e, _⟩ := hl; exact Heap.lt_size e
  refine ⟨⟨_, e0, rfl⟩, codeAny_call_builtin F.called_set.init.plain F.entry_set_init (check_set_init_1 ⟨_, e0, rfl⟩ ?_)⟩
  refine set_list_init (A := A.in1) (h0 := s.heap) SK hh hr (hl.push _) (fun b o e => Heap.get?_push_of_some _ e) (fun b hb' => ?_) (Nat.le_refl _) (by show _ ≤ (s.heap.push _).objs.size; rw [Heap.size_push]; lia) hlen hi hb e0 (Nat.ne_of_lt llt) fun s' o es ep t xs mv S' g z => ⟨rfl, ?_⟩
  · cases hq : s.heap.get? b with
    | none => rfl
    | some o => exact absurd (Heap.lt_size hq) (Nat.not_lt.mpr hb')
  rw [mv.eq_with] at S' ⊢
  refine h s'.heap s'.toks o es ep t xs (fun b o e => ?_) S' g z
  have lt := Heap.lt_size e
  refine mv.heap b o ?_ (Heap.get?_push_of_some _ (Heap.get?_push_of_some _ e))
  simp only [List.mem_cons, List.not_mem_nil, or_false, Heap.size_push]
  exact fun z => z.elim (fun q => Nat.ne_of_lt lt q) fun q => Nat.ne_of_lt (Nat.lt_succ_of_lt lt) q
end
end ST
end
section
set_option maxHeartbeats 4000000
namespace ST
open PySem PySem.Spec PySem.SetTable PyProof.Rows L2
section
variable {prog : Program} {w : World} {K : Type} [DecidableEq K] {knd : HeapKind prog w K} {A : Around} {E : Value → Shared → Prop} {s : Shared} {a it : Addr} {o : Obj} {es : Array (Int × Value)} {ep : Nat} {t : SetTable} {xs : List (K × Addr)}
end
end ST
end
section
set_option maxHeartbeats 4000000
namespace ST
open PySem PySem.Spec PySem.SetTable PyProof.Rows L2
section
variable {prog : Program} {w : World} {K : Type} [DecidableEq K] {knd : HeapKind prog w K} {A : Around} {E : Value → Shared → Prop} {s : Shared} {a it : Addr} {o : Obj} {es : Array (Int × Value)} {ep : Nat} {t : SetTable} {xs : List (K × Addr)} {h0 : Heap}
end
end ST
end
section
set_option maxHeartbeats 4000000
namespace L2
open PySem PySem.Spec PyProof.Rows ST
def entT (x : List Int × Addr) : Int × Value := (reduceHash (Builtin.Tuple.tupleHashOf (x.1.map hashInt)), .ref x.2)
def SeTP (w : World) (a : Addr) (xs : List (List Int × Addr)) (h : Heap) : Prop := ∃ o es ep t, SetW (ledOf w) h a o es ep t ∧ es.toList = xs.map entT ∧ (xs.map (·.1)).Nodup ∧ xs.length ≤ 1000
def SeTO (w : World) (a : Addr) (xs : List (List Int × Addr)) : HO := .ext (SeTP w a xs)
theorem SeTP.ok {P : Program} {w w' : World} {H : Hp} {h : Heap} {a : Addr} {xs : List (List Int × Addr)} (d : SeTP w' a xs h) : ObjOk P w H h a (SeTO w' a xs) :=
  ⟨d, let ⟨o, _, _, _, S, _⟩ := d; ⟨o, S.ob⟩, fun h1 h2 ⟨o, es, ep, t, S, r⟩ k => ⟨o, es, ep, t, ⟨k o S.ob, S.ex, S.da, S.tb, S.few, S.pl, S.ld⟩, r⟩⟩
theorem seT_of {X : Cx} {pins : List (Addr × Obj)} {σ : St} {H : Hp} {s : Shared} {a : Addr} {xs : List (List Int × Addr)} (I : Inv X pins σ H s) (e : H a = some (SeTO X.w a xs)) : SeTP X.w a xs s.heap :=
  (show ObjOk X.prog X.w H s.heap a (.ext (SeTP X.w a xs)) from I.hok a _ e).1
theorem tups_at {K : PySem.W.Frag} {H : Hp} : ∀ {ps : List Addr} {mss : List (List Int)}, Tups K H ps mss → ∀ (i : Nat) (p : Addr), ps[i]? = some p → ∃ ms, mss[i]? = some ms ∧ SqT K H p (ms.map V.int)
  | _, _, .nil, i, p, h => by simp at h
  | _, _, .cons h t, 0, p, e => by simp at e; subst e; exact ⟨_, rfl, h⟩
  | _, _, .cons h t, i + 1, p, e => by
    simp only [List.getElem?_cons_succ] at e ⊢
    exact tups_at t i p e
def rSeT (X : Cx) : List V → Hp → VK → Prop := fun xs H Q => ∃ (l : Addr) (ps : List Addr) (mss : List (List Int)), xs = [.ref l] ∧ SqL X.K H l (ps.map V.ref) ∧ Tups X.K H ps mss ∧ mss.length ≤ 1000 ∧
  ∀ (a : Addr) (zs : List (List Int × Addr)), H a = none → (∀ m, m ∈ zs.map (·.1) ↔ m ∈ mss) → (zs.map (·.1)).Nodup → (∀ z ∈ zs, SqT X.K H z.2 (z.1.map V.int)) → Q (.ref a) (upd H a (SeTO X.w a zs))
theorem call_seT {X : Cx} (hc : X.calm = true) (hu : X.A.units + 64 < cLine) : CallR X (.type "set") (rSeT X) := by
  intro pins s σ H xs us Q I r h
  obtain ⟨l, ps, mss, rfl, hl, ht, hn, q⟩ := h
  obtain ⟨u, rfl, rx⟩ := vals1 r
  cases rx
  obtain ⟨vs, rv, pl, hz⟩ := I.list hl
  have hlen : ps.length = mss.length := Paired.length ht
  have evs := vals_refs rv
  subst evs
  refine ST.set_list (knd := tupleKind (intKind X.prog X.w)) skT (Z := fun z => SqT X.K H z.2 (z.1.map V.int)) (ks := mss) (I.ok.hd hc) ?_ pl.isList (by simp [hlen]) (fun i v e => ?_) (by simp; lia) fun h' tk o es ep t zs old S g z => ?_
  · show X.A.in1.in1.in1.units < cLine
    simp only [Around.in1]
    lia
  · rw [List.getElem?_toArray, List.getElem?_map] at e
    cases hp : ps[i]? with
    | none => rw [hp] at e; cases e
    | some p =>
      rw [hp] at e
      cases e
      obtain ⟨ms, e1, e2⟩ := tups_at ht i p hp
      exact ⟨ms, p, e1, rfl, key_sq I e2, e2⟩
  · have zl : zs.length ≤ 1000 := by
      have := nodup_len (g := mss) S.nd fun c hc => (g c).mp hc
      rw [List.length_map] at this
      lia
    exact ⟨.ref s.heap.objs.size, _, I.laid (t' := tk) old (Nat.le_refl _) (SeTP.ok ⟨o, es, ep, t, S.tab, S.el, S.nd, zl⟩), rfl, q _ zs (I.hok.fresh (Nat.le_refl _)) g S.nd z⟩
def rLenST (X : Cx) : List V → Hp → VK → Prop := fun xs H Q => ∃ a zs, xs = [.ref a] ∧ H a = some (SeTO X.w a zs) ∧ Q (.int zs.length) H
theorem call_lenST {X : Cx} : CallR X (.builtin "len") (rLenST X) := by
  intro pins s σ H xs us Q I r ⟨a, zs, e, ha, q⟩
  subst e
  obtain ⟨u, rfl, rx⟩ := vals1 r
  cases rx
  obtain ⟨o, es, ep, t, S, e1, e2, e3⟩ := seT_of I ha
  have sz : es.size = zs.length := by rw [← Array.length_toList, e1, List.length_map]
  rw [← sz] at q
  refine call_len_set S.ob S.ex S.da S.fits (by lia) ⟨.int es.size, H, I.tok _, ⟨_, rfl⟩, q⟩
end L2
end
section
set_option maxHeartbeats 4000000
namespace VL
open PySem L2 ST
def oncs : List (List Int) → List (List Int)
  | [] => []
  | x :: r => if x ∈ r then oncs r else x :: oncs r
theorem oncs_mem {c : List Int} : ∀ l, c ∈ oncs l ↔ c ∈ l
  | [] => Iff.rfl
  | x :: r => by
    unfold oncs
    by_cases h : x ∈ r
    · rw [if_pos h, oncs_mem r, List.mem_cons]
      exact ⟨.inr, fun z => z.elim (fun e => e ▸ h) id⟩
    · rw [if_neg h, List.mem_cons, List.mem_cons, oncs_mem r]
theorem oncs_nodup : ∀ l, (oncs l).Nodup
  | [] => List.nodup_nil
  | x :: r => by
    unfold oncs
    by_cases h : x ∈ r
    · rw [if_pos h]; exact oncs_nodup r
    · rw [if_neg h]; exact List.nodup_cons.mpr ⟨fun z => h ((oncs_mem r).mp z), oncs_nodup r⟩
theorem oncs_perm {mss ys : List (List Int)} (nd : ys.Nodup) (h : ∀ m, m ∈ ys ↔ m ∈ mss) : ys.Perm (oncs mss) :=
  (List.perm_ext_iff_of_nodup nd (oncs_nodup _)).mpr fun c => (h c).trans (oncs_mem mss).symm
theorem oncs_id {mss : List (List Int)} (nd : mss.Nodup) : oncs mss = mss := by
  induction mss with
  | nil => rfl
  | cons x r ih =>
    rw [List.nodup_cons] at nd
    unfold oncs
    rw [if_neg nd.1, ih nd.2]
theorem oncs_le : ∀ l, (oncs l).length ≤ l.length
  | [] => Nat.le_refl _
  | x :: r => by
    unfold oncs
    have := oncs_le r
    split <;> simp <;> lia
theorem oncs_lt : ∀ {l : List (List Int)}, ¬ l.Nodup → (oncs l).length < l.length
  | [], h => absurd List.nodup_nil h
  | x :: r, h => by
    unfold oncs
    by_cases hx : x ∈ r
    · rw [if_pos hx]; have := oncs_le r; simp; lia
    · rw [if_neg hx]
      have : ¬ r.Nodup := fun z => h (List.nodup_cons.mpr ⟨hx, z⟩)
      have := oncs_lt this
      simp; lia
section
variable {K : PySem.W.Frag} {X : Cx} {m : Bool} {e : Expr} {tr : TA} {vr : VTA} {pos p1 p2 pos2 : Pos} {S : List Sl} {Q : VR → List Sl → Prop} {QN : List D → List Sl → Prop}
def vLenSeT (vr : VTA) : VT := fun S Q => vr S fun rs S1 => ∃ r mss, rs = [r] ∧ get S1 r = some (eL mss) ∧ mss.length ≤ 1000 ∧ Q (.d (.int (oncs mss).length)) S1
theorem ve_lenSeT (hK : X.K = K) (hcm : X.calm = true) (hu : X.A.units + 64 < cLine) (hg1 : Gl X "len") (hm1 : X.mg "len" = none) (hg2 : Gl X "set") (hm2 : X.mg "set" = none) (ha : VA K X false [e] tr vr) (he : starEach [e] X.env = [(false, eval e X.env)] := by rfl) :
    VE K X m (.Call (.Name "len" p1) [.Call (.Name "set" p2) [e] [] pos2] [] pos) (tCB (rLenST X) (tCons (tCB (rSeT X) tr) tNil)) (vLenSeT vr) :=
  ⟨pe_callB call_lenST hg1 hm1 bt_len (pa_cons (pe_callTy (call_seT hcm hu) hg2 hm2 bt_set ha.pe (by decide) (by decide) he rfl) pa_nil), fun H0 Z σ H S Q C k t hc => ha.snd H0 Z σ H S _ _ k t fun vs H1 rs S1 k1 st1 rrs zq1 => by
    obtain ⟨r, mss, e1, e2, hl, q⟩ := zq1
    subst e1 hK
    obtain ⟨v, rfl, rv⟩ := rrs.one
    obtain ⟨l, ys, rfl, hq, rr⟩ := rv.elems k1 e2
    obtain ⟨ps, rfl, ht, _⟩ := reps_tups rr
    refine ⟨l, ps, mss, rfl, hq, ht, hl, fun a zs hn hm hnd hz => ?_⟩
    have g := upd_grow (o := SeTO X.w a zs) hn
    have el : zs.length = (oncs mss).length := by rw [← (oncs_perm hnd hm).length_eq, List.length_map]
    rw [← el] at q
    exact ⟨a, zs, rfl, upd_same, hc _ _ (.d (.int zs.length)) S1 (k1.grow g) (st1.trans (.grow g)) (Rep.int _) q⟩⟩
def kLenSeT (Q : VR → List Sl → Prop) : List VR → List Sl → Prop := fun rs S1 => ∃ r mss, rs = [r] ∧ get S1 r = some (eL mss) ∧ mss.length ≤ 1000 ∧ Q (.d (.int (oncs mss).length)) S1
theorem j_lenSeT (h : vr S (kLenSeT Q)) : vLenSeT vr S Q := h
theorem j_kLenSeT {r : VR} {mss : List (List Int)} (e : get S r = some (eL mss)) (hl : mss.length ≤ 1000) (h : Q (.d (.int (oncs mss).length)) S) : kLenSeT Q [r] S := ⟨r, mss, rfl, e, hl, h⟩
end
end VL
end
section
set_option maxHeartbeats 4000000
namespace L2
open PySem PySem.Spec PyProof.Rows
end L2
namespace VL
open PySem L2
section
variable {K : PySem.W.Frag} {X : Cx} {m : Bool} {e : Expr} {te : TE} {va : VT} {pos p2 : Pos} {S : List Sl} {Q : VR → List Sl → Prop} {vl vh : VO}
end
end VL
end
section
set_option maxHeartbeats 4000000
namespace ST
open PySem PySem.Spec PySem.SetTable PyProof.Rows L2
section
variable {prog : Program} {w : World} {A : Around} {E : Value → Shared → Prop} {s : Shared} {led : Bool} {a : Addr} {o : Obj} {es : Array (Int × Value)} {ep : Nat} {t : SetTable}
end
end ST
end
section
set_option maxHeartbeats 4000000
namespace ST
open PySem PySem.Spec PySem.SetTable PyProof.Rows L2
section
variable {prog : Program} {w : World} {A : Around} {R : Result → Shared → Prop} {I a : Addr} {fp wr : List Addr} {G : Array GenState → Array GenState → Prop} {n : Nat} {P : Nat → Value → Prop} {St : Nat → Shared → Prop} {led : Bool}
end
section
variable {prog : Program} {w : World} {A : Around} {E : Value → Shared → Prop} {s : Shared}
end
end ST
namespace L2
open PySem PySem.Spec PyProof.Rows ST
end L2
namespace VL
open PySem L2 ST
section
variable {K : PySem.W.Frag} {X : Cx} {m : Bool} {e : Expr} {tr : TA} {vr : VTA} {pos p1 p2 pos2 : Pos} {S : List Sl} {QN : List D → List Sl → Prop}
end
end VL
end
section
set_option maxHeartbeats 4000000
namespace ST
open PySem PySem.Spec PySem.SetTable PyProof.Rows L2
section
variable {prog : Program} {w : World} {K : Type} [DecidableEq K] {knd : HeapKind prog w K} {A : Around} {E : Value → Shared → Prop} {s : Shared}
end
end ST
namespace L2
open PySem PySem.Spec PyProof.Rows ST
end L2
namespace VL
open PySem L2 ST
section
variable {K : PySem.W.Frag} {X : Cx} {m : Bool} {e : Expr} {tr : TA} {vr : VTA} {pos p1 p2 pos2 : Pos} {S : List Sl} {Q : VR → List Sl → Prop} {QN : List D → List Sl → Prop}
end
end VL
end
section
set_option maxHeartbeats 4000000
namespace L2
open PySem PySem.Spec PyProof.Rows PySem.W
section
variable {X : Cx}
def rMulS : R2 := fun x y H Q => ∃ z b, x = .str z ∧ y = .int (if b = true then 1 else 0) ∧ Q (.str (if b = true then z else Str.empty)) H
theorem op_mulS : OpR X (binaryOp .Mult) rMulS := by
  intro pins s σ H x y v u Q I rx ry h
  obtain ⟨z, b, rfl, rfl, q⟩ := h
  obtain ⟨t, rfl⟩ := rx
  obtain ⟨t', rfl⟩ := ry
  cases b with
  | false => exact P.mul_str_none (by decide) (by decide) ⟨.str Str.empty, H, I.tok _, ⟨_, rfl⟩, q⟩
  | true => exact P.mul_str (by decide) (fun _ z => by simp at z) (fun _ z => by simp at z) (show EP X pins σ Q _ _ from ⟨.str z, H, I, ⟨_, rfl⟩, q⟩)
def rCatS : R2 := fun x y H Q => ∃ z z', x = .str z ∧ y = .str z' ∧ ((z.length == 0) = true ∧ Q (.str z') H ∨ (z.length == 0) = false ∧ (z'.length == 0) = true ∧ Q (.str z) H)
theorem op_catS : OpR X (binaryOp .Add) rCatS := by
  intro pins s σ H x y v u Q I rx ry h
  obtain ⟨z, z', rfl, rfl, q⟩ := h
  obtain ⟨t, rfl⟩ := rx
  obtain ⟨t', rfl⟩ := ry
  refine P.add_str ?_
  rcases q with ⟨e, q⟩ | ⟨e, e', q⟩
  · rw [if_pos e]; exact (show EP X pins σ Q _ _ from ⟨.str z', H, I, ⟨_, rfl⟩, q⟩)
  · rw [if_neg (by rw [e]; exact Bool.false_ne_true), if_pos e']; exact (show EP X pins σ Q _ _ from ⟨.str z, H, I, ⟨_, rfl⟩, q⟩)
end
section
variable {X : Cx} {k1 k2 e1 e2 : Expr} {a1 a2 t1 t2 : TE} {pos : Pos}
def tDict2 (a1 t1 a2 t2 : TE) : TE := fun σ H Q => a1 σ H fun x H1 => t1 σ H1 fun _ H2 => a2 σ H2 fun y H3 => t2 σ H3 fun _ H4 => (∃ i j, x = .int i ∧ y = .int j) ∧ ∀ p o, H4 p = none → o.cls = .type "dict" → Q (.ref p) (upd H4 p (.frz o (.own p)))
theorem pe_dict2 (g1 : PE X k1 a1) (h1 : PE X e1 t1) (g2 : PE X k2 a2) (h2 : PE X e2 t2) : PE X (.Dict [some k1, some k2] [e1, e2] pos) (tDict2 a1 t1 a2 t2) := by
  intro pins s σ H Q I h
  have np : H s.heap.objs.size = none := I.hok.fresh (Nat.le_refl _)
  have I0 : Inv X pins σ H { s with heap := s.heap.push { cls := .type "dict", data := .dict #[] } } := I.kept (t' := s.toks) fun b u q => Heap.get?_push_of_some _ q
  obtain ⟨_, f1, f2, f3, f4, f5⟩ := I.fpOk (H' := H) (b := s.heap.objs.size) (Nat.le_refl _) np
  have I1 : Inv X (pins ++ [(s.heap.objs.size, { cls := .type "dict", data := .dict #[] })]) σ H { s with heap := s.heap.push { cls := .type "dict", data := .dict #[] } } := I0.pins_of fun p hp => by
    rcases List.mem_append.mp hp with hp | hp
    · exact I0.pin p (List.mem_append_right _ hp)
    · cases List.mem_singleton.mp hp
      exact ⟨Heap.get?_push_size _ rfl, np, f1, f2, fun v z => by cases z⟩
  refine wpAny_Dict_pairs (knd := intKind X.prog X.w) (pairs := [(eval k1 X.env, do let x ← eval e1 X.env; standAt pos; pure x), (eval k2 X.env, do let x ← eval e2 X.env; standAt pos; pure x)]) rfl (by simp) (by simp) ?_
  refine evalPairs_cons (thn (g1 _ _ σ H _ I1 h) fun a1 s1 ⟨w1, K1, I2, r1, q1⟩ => then_stand (thn (h1 _ s1 σ K1 _ I2 q1) fun b1 s2 ⟨v1, H1, I3, rv1, q2⟩ => ?_))
  refine evalPairs_cons (thn (g2 _ _ σ H1 _ I3 q2) fun a2 s3 ⟨w2, K2, I4, r2, q3⟩ => then_stand (thn (h2 _ s3 σ K2 _ I4 q3) fun b2 s4 ⟨v2, H2, I5, rv2, q4⟩ => evalPairs_nil ?_))
  obtain ⟨⟨i, j, rfl, rfl⟩, q⟩ := q4
  obtain ⟨u1, rfl⟩ := r1
  obtain ⟨u2, rfl⟩ := r2
  obtain ⟨g7, gn7, _⟩ := I5.pin (s.heap.objs.size, _) (List.mem_append_right _ (List.mem_append_right _ List.mem_cons_self))
  refine ⟨[(i, b1), (j, b2)], ⟨intKind_is _ _ _ _, rfl, intKind_is _ _ _ _, rfl, trivial⟩, ⟨_, #[], 0, g7, ⟨rfl, rfl, rfl⟩, rfl, fun e he => by simp at he, .nil, List.nodup_nil⟩, fun h' D sb => ?_⟩
  have I8 : Inv X pins σ H2 s4 := I5.unpinned
  have I9 : Inv X pins σ H2 { s4 with heap := h', toks := s4.toks + [(Value.int i u1, b1), (Value.int j u2, b2)].length } := I8.turned (fun b o hn e => (sb.2 b hn).trans e) gn7 f1 f3 f4 f5
  obtain ⟨ob, es, ep, go, gx, gd, gk, gp, gnn⟩ := id D
  have I10 := I9.trackN (o := .frz ob (.own s.heap.objs.size)) gn7 (by
      cases z : X.s₀.heap.get? s.heap.objs.size with
      | none => rfl
      | some o => exact absurd (Heap.lt_size z) (Nat.not_lt.mpr I.sz)) f1 f4 f5 ⟨go, ob, go⟩
  exact ⟨.ref _, _, I10, rfl, q _ ob gn7 gx.1⟩
end
end L2
namespace L2
open PySem PySem.Spec PyProof.Rows PySem.W
section
variable {X : Cx} {i : Nat} {CB : Addr} {cb en : Str} {b0 : Stmt} {suite body : List Stmt} {h0 : ExceptHandler} {th ts us : TS} {st : Stmt} {np hp tp : Pos}
theorem ps_tryN (hb : PSs X body ts) (hxe : ∀ e s, ¬X.xe e s) : PS X (.Try body [h0] [] [] tp) ts := by
  intro pins s σ H D I h
  refine wpAny_Try_except (wpAny_mono (hb pins s σ H D I h) (fun f s1 q => ?_) fun e s z => (hxe e s z).elim)
  cases f with
  | next => obtain ⟨σ', H', I', q'⟩ := q; exact pss_nil pins s1 σ' H' D I' q'
  | brk => exact q
  | cont => exact q
  | ret u => exact q
theorem ps_alt (h1 : PS X st ts) (h2 : PS X st us) : PS X st (fun D σ H => ts D σ H ∨ us D σ H) := fun pins s σ H D I h => h.elim (h1 pins s σ H D I) (h2 pins s σ H D I)
abbrev Cx.inTry (X : Cx) (pn : List (Addr × Obj)) (xe : Value → Shared → Prop) : Cx := { X with pn := pn, xe := xe }
theorem Inv.inTry {pins : List (Addr × Obj)} {σ : St} {H : Hp} {s : Shared} {xe : Value → Shared → Prop} (I : Inv X pins σ H s) : Inv (X.inTry (X.pn ++ pins) xe) [] σ H s :=
  ⟨⟨I.ok.mod, I.ok.kind, I.ok.glob, I.ok.blt, I.ok.above, I.ok.inj, I.ok.has, I.ok.cab, I.ok.hd, I.ok.frames, I.ok.stk, I.ok.exf, I.ok.bs, I.ok.bsz, I.ok.noex, I.ok.exfs, I.ok.funs, I.ok.frf⟩, I.os, I.bare, I.base, I.loc, I.cell, I.free, I.freeC, fun p hp => I.pin p (by simpa using hp), I.hok, I.len⟩
theorem Inv.outTry {pins pins' : List (Addr × Obj)} {σ : St} {H : Hp} {s : Shared} {xe : Value → Shared → Prop} (ok : X.Ok) (I : Inv (X.inTry (X.pn ++ pins) xe) pins' σ H s) : Inv X pins σ H s :=
  ⟨ok, I.os, I.bare, I.base, I.loc, I.cell, I.free, I.freeC, fun p hp => I.pin p (List.mem_append_left _ hp), I.hok, I.len⟩
def Hands (X : Cx) (Hin : Hp) (E : XK) : Prop := ∀ pins σ H s e s', Inv X pins σ H s → CX1 X.prog X.w X.stack H s (fun c _ H' => (∀ b, Hin b ≠ none → H' b = Hin b) ∧ E c none H') e s' → X.xe e s'
def noE : Ends := { nx := fun _ _ => False, rt := fun _ _ => False }
def tTryX (K : Frag) (CB : Addr) (tb : Hp → XK → TS) (i : Nat) (th : TS) : TS := fun D σ H => tb H (fun c _ H' => ∃ C, c = .ref C ∧ exmOne K (.ref C) (.ref CB) = some true ∧
  ∀ (σ1 : St) (y : Addr) (o : Obj), σ1.length = σ.length → H' y = none → o.cls = .ref C → th (unE D i) (σ1.set i (some (.ref y))) (upd H' y (.frz o (.own y)))) noE σ H
theorem ps_tryX {tb : Hp → XK → TS} (hb : ∀ pn xe Hin E, Hands (X.inTry pn xe) Hin E → PSs (X.inTry pn xe) body (tb Hin E)) (hcb : X.mg cb = some (.ref CB))
    (hs : ∀ y, PSs (X.caught y) (b0 :: suite) th) (hxe : ∀ e s, ¬X.xe e s) (hex0 : X.ex = []) (hst : X.stack = X.env :: X.outer) (hfr : X.env.frame = some X.env.locals) (hN : X.N.Nodup) (hi : X.N[i]? = some en) (hloc : X.env.scope.names.lookup en = some .local)
    (hgc : Gl X cb := by rfl) (hdc : (cb == ("__debug__" : Str)) = false := by decide) :
    PS X (.Try body [.ExceptHandler (some (.Name cb np)) (some en) (b0 :: suite) hp] [] [] tp) (tTryX X.K CB tb i th) := by
  intro pins s σ H D I h
  unfold tTryX at h
  refine wpAny_Try_except ?_
  generalize hq : (fun e s₁ => wpAny (model X.prog X.w) X.A (noteFrame e X.env) (fun _ s₂ => wpAny (model X.prog X.w) X.A (setFlight e none) (fun _ s₃ => wpAny (model X.prog X.w) X.A (handleBy e X.env [.ExceptHandler (some (.Name cb np)) (some en) (b0 :: suite) hp]) (SP X pins D) X.xe s₃) X.xe s₂) X.xe s₁) = xe
  refine wpAny_mono (hb (X.pn ++ pins) xe H _ ?_ [] s σ H _ I.inTry h) (fun f s1 q => ?_) fun _ _ z => z
  rotate_left
  · cases f with
    | next => obtain ⟨_, _, _, z⟩ := q; exact z.elim
    | brk => obtain ⟨_, _, _, z⟩ := q; exact z.elim
    | cont => obtain ⟨_, _, _, z⟩ := q; exact z.elim
    | ret u => obtain ⟨_, _, _, _, _, z⟩ := q; exact z.elim
  · intro pins1 σ1 H1 s1 e s' J hc
    have I1 := J.outTry I.ok
    obtain ⟨y, cls, a0, B, H', rfl, Fl, fro, C, rfl, hex, fin⟩ := hc
    have hl1 : σ1.length = σ.length := I1.len.trans I.len.symm
    have Fl : Flies X.prog X.w X.stack H1 s1 y (.ref C) a0 B H' s' := Fl
    show xe _ _
    rw [← hq]
    have fr : X.A.frames = some (X.env :: X.outer) := hst ▸ I.ok.frames
    have fly0 := Fl.fly
    rw [hst] at fly0
    refine wpAny_looks_onW fr hfr fly0 fun h4 held up4 => ?_
    refine wpAny_landsW held fun h5 fly5 up5 => ?_
    have F5 : Flies X.prog X.w X.stack H1 s1 y (.ref C) a0 B H' { s' with heap := h5, toks := s'.toks } := Fl.on I1 (by rw [hst]; exact fly5) (up4.trans up5)
    have I5 := I1.lands F5
    obtain ⟨o5, ho5, hc5⟩ := fly5.there
    refine wpAny_handleBy_cons (codeAny_handlers_test (ld_glob (I5.caught y) hgc hcb ?_ hdc)) (by intro q; cases q)
    refine exm_one (h := h5) I5.kIn (hc5 ▸ (Looks.ld ho5).andThen .now) hex _ _ _ _ (fun _ _ e => e) ?_
    refine codeAny_handlers_suite_as ?_
    refine lands_againW fly5 fun h6 fly6 up6 => ?_
    have F6 : Flies X.prog X.w X.stack H1 s1 y (.ref C) a0 B H' { s' with heap := h6, toks := s'.toks } := Fl.on I1 (by rw [hst]; exact fly6) ((up4.trans up5).trans up6)
    have I6 := I1.lands F6
    obtain ⟨o6, ho6, hc6⟩ := fly6.there
    have here : ∀ b o, s1.heap.get? b = some o → b ≠ y := fun b o e z => by rw [z, Fl.new] at e; cases e
    have I7 : Inv (X.caught y) pins σ1 (upd H' y (.frz o6 (.own y))) { s' with heap := h6, toks := s'.toks } := by
      refine (I6.caught y).trackN F6.noX ?_ ?_ ?_ ?_ ⟨ho6, o6, ho6⟩
      · cases z : X.s₀.heap.get? y with
        | none => rfl
        | some o =>
          obtain ⟨o', e'⟩ := I1.base.there y o z (by rw [hex0]; intro q; cases q)
          exact absurd rfl (here y o' e')
      · obtain ⟨m, ⟨o, es, ep, e, _⟩, _⟩ := I1.loc
        exact (here _ o e).symm
      · intro n c e
        obtain ⟨v, o, e', _⟩ := I1.cell n c e
        exact here c o e'
      · intro p hp
        exact here p.1 p.2 (I1.pin p hp).1
    refine store_ok (X := X.caught y) I7 hN hi (.inl hloc) (show RelV (.ref y) (.ref y) from rfl) (fun s8 I8 => ?_) (.inr hloc)
    refine wpAny_mono (hs y pins s8 _ _ (unE D i) I8 (fin σ1 y o6 hl1 F6.noX hc6)) (fun fl s9 q9 => ?_) fun e s z => (hxe e s z).elim
    have let_go : ∀ {σ' : St} {H9 : Hp} {R : Unit → Shared → Prop}, Inv (X.caught y) pins σ' H9 s9 → (∀ s', Inv X pins (σ'.set i none) H9 s' → R () s') → wpAny (model X.prog X.w) X.A (do bindName X.env en .none; unbindBehindTheSuite X.env en hp) R X.xe s9 := fun {σ' H9 R} J g => by
      have J0 := J.uncaught I.ok
      refine wpAny_bind (wpAny_bindName (store_ok J0 hN hi (.inl hloc) (show RelV .non .none from rfl) (fun s10 I10 => ?_) (.inr hloc)))
      refine wpAny_onRaise (drop_ok I10 hN hi hloc (List.getElem?_set_self (by rw [J0.len]; exact (List.getElem?_eq_some_iff.mp hi).1)) fun s11 I11 => ?_)
      rw [List.set_set] at I11
      exact g s11 I11
    cases fl with
    | next => obtain ⟨σ', H9, J, q⟩ := q9; exact let_go J fun s' I' => ⟨_, _, I', q⟩
    | brk => obtain ⟨σ', H9, J, q⟩ := q9; exact let_go J fun s' I' => ⟨_, _, I', q⟩
    | cont => obtain ⟨σ', H9, J, q⟩ := q9; exact let_go J fun s' I' => ⟨_, _, I', q⟩
    | ret u => obtain ⟨v, σ', H9, J, r, q⟩ := q9; exact let_go J fun s' I' => ⟨v, _, _, I', r, q⟩
end
end L2
end
section
set_option maxHeartbeats 4000000
namespace L2
open PySem PySem.Spec PyProof.Rows PySem.W
def rIsi1g (K : PySem.W.Frag) : List V → Hp → VK → Prop := fun xs H Q => rIsi K xs H Q ∨ ∃ y o c b, xs = [.ref y, .ty c] ∧ H y = some (.frz o (.own y)) ∧ o.cls = .type "dict" ∧ kitOne [] (.type "dict") (.type c) = some b ∧ Q (.bl b) H
theorem call_isi1g {X : Cx} : CallR X (.builtin "isinstance") (rIsi1g X.K) := by
  intro pins s σ H xs us Q I r h
  rcases h with h | ⟨y, o, c, b, rfl, hy, hc, hk, q⟩
  · exact call_isi pins s σ H xs us Q I r h
  · obtain ⟨u, w', rfl, rx, rc⟩ := vals2 r
    cases rx
    obtain rfl : w' = Value.type c := rc
    exact kia_one kitx_dict I.kIn ⟨o, (show ObjOk X.prog X.w H s.heap y (.frz o (.own y)) from I.hok y _ hy).1, hc⟩ (show kitOne X.K _ _ = _ by rw [kitOne_K]; exact hk) (fun z => nomatch z) fun tk => ⟨.bl b, H, I.tok tk, rfl, q⟩
end L2
namespace VL
open PySem L2 PySem.W
section
variable {K : PySem.W.Frag} {X : Cx} {m : Bool} {pos : Pos}
def wMulS : D → D → (D → Prop) → Prop := fun d1 d2 q => ∃ z b, d1 = .str z ∧ d2 = .int (if b = true then 1 else 0) ∧ q (.str (if b = true then z else Str.empty))
theorem l_mulS : Lift2 K rMulS wMulS := by
  rintro x y H d1 d2 q Cc r1 r2 ⟨z, b, rfl, rfl, h⟩ hc
  cases r1; cases r2
  exact ⟨z, b, rfl, rfl, hc _ _ h fun _ _ => .str _⟩
def wCatS : D → D → (D → Prop) → Prop := fun d1 d2 q => ∃ z z', d1 = .str z ∧ d2 = .str z' ∧ ((z.length == 0) = true ∧ q (.str z') ∨ (z.length == 0) = false ∧ (z'.length == 0) = true ∧ q (.str z))
theorem l_catS : Lift2 K rCatS wCatS := by
  rintro x y H d1 d2 q Cc r1 r2 ⟨z, z', rfl, rfl, h⟩ hc
  cases r1; cases r2
  rcases h with ⟨e, h⟩ | ⟨e, e', h⟩
  · exact ⟨z, z', rfl, rfl, .inl ⟨e, hc _ _ h fun _ _ => .str _⟩⟩
  · exact ⟨z, z', rfl, rfl, .inr ⟨e, e', hc _ _ h fun _ _ => .str _⟩⟩
def wIsi1g : List D → (D → Prop) → Prop := fun ds q => wIsi ds q ∨ ∃ c b, ds = [.exc (.type "dict"), .ty c] ∧ kitOne [] (.type "dict") (.type c) = some b ∧ q (.bl b)
theorem l_isi1g : LiftC K (rIsi1g K) wIsi1g := by
  intro xs H ds q C r h hc
  rcases h with h | ⟨c, b, rfl, hk, h⟩
  · exact .inl (l_isi _ _ _ _ _ r h hc)
  · obtain ⟨v, u, rfl, rv, ru⟩ := rep2 r
    cases ru
    cases rv with | exc n hh he => exact .inr ⟨_, _, c, b, rfl, hh, he, hk, hc _ _ h fun _ _ => .bl _⟩
theorem c_isi1g (hK : X.K = K) : CallR X (.builtin "isinstance") (rIsi1g K) := by subst hK; exact call_isi1g
def vDict2 (a1 v1 a2 v2 : VT) : VT := fun S Q => a1 S fun r1 S1 => v1 S1 fun _ S2 => a2 S2 fun r2 S3 => v2 S3 fun _ S4 => (∃ i j, r1 = .d (.int i) ∧ r2 = .d (.int j)) ∧ Q (.d (.exc (.type "dict"))) S4
theorem ve_dict2 {k1 k2 e1 e2 : Expr} {a1 t1 a2 t2 : TE} {b1 v1 b2 v2 : VT} (g1 : VE K X false k1 a1 b1) (h1 : VE K X false e1 t1 v1) (g2 : VE K X false k2 a2 b2) (h2 : VE K X false e2 t2 v2) : VE K X m (.Dict [some k1, some k2] [e1, e2] pos) (tDict2 a1 t1 a2 t2) (vDict2 b1 v1 b2 v2) :=
  ⟨pe_dict2 g1.pe h1.pe g2.pe h2.pe, fun H0 Z σ H S Q C k t hc => g1.snd H0 Z σ H S _ _ k t fun x1 H1 r1 S1 k1 st1 rr1 t1 => h1.snd H0 Z σ H1 S1 _ _ k1 t1 fun x2 H2 r2 S2 k2 st2 rr2 t2 => g2.snd H0 Z σ H2 S2 _ _ k2 t2 fun x3 H3 r3 S3 k3 st3 rr3 t3 =>
    h2.snd H0 Z σ H3 S3 _ _ k3 t3 fun x4 H4 r4 S4 k4 st4 rr4 zq => by
      obtain ⟨⟨i, j, rfl, rfl⟩, q⟩ := zq
      cases (show Rep K _ _ H1 x1 (.int i) from rr1)
      cases (show Rep K _ _ H3 x3 (.int j) from rr3)
      refine ⟨⟨i, j, rfl, rfl⟩, fun p o hp ho => ?_⟩
      have g := upd_grow (o := .frz o (.own p)) hp
      exact hc _ _ (.d (.exc (.type "dict"))) S4 (k4.grow g) ((((st1.trans st2).trans st3).trans st4).trans (.grow g)) (show Rep K _ _ _ _ _ from Rep.exc (k4.nm hp) upd_same ho) q⟩
end
section
variable {K : PySem.W.Frag} {X : Cx} {ts us : TS} {t u : VTS} {st : Stmt} {body : List Stmt} {h0 : ExceptHandler} {tp : Pos}
theorem vs_tryN (h : VSs K X body ts t) (hxe : ∀ e s, ¬X.xe e s) : VS K X (.Try body [h0] [] [] tp) ts t := ⟨ps_tryN h.ps hxe, h.snd⟩
def vAltS (t u : VTS) : VTS := fun V S => t V S ∨ u V S
theorem vs_alt (h1 : VS K X st ts t) (h2 : VS K X st us u) : VS K X st (fun D σ H => ts D σ H ∨ us D σ H) (vAltS t u) :=
  ⟨ps_alt h1.ps h2.ps, fun H0 Z σ H S V E k zq l => zq.elim (fun z => .inl (h1.snd H0 Z σ H S V E k z l)) fun z => .inr (h2.snd H0 Z σ H S V E k z l)⟩
end
section
variable {K : PySem.W.Frag} {X : Cx} {Hin : Hp} {E : XK} {A B : List Stmt} {ts us : TS} {t u : (Addr → Prop) → List Sl → Prop} {pos : Pos}
theorem vx_ifE {c : Expr} {tc : TT} {wc : VTT} (hc : VTe K X c tc wc) (ha : VXs K X Hin E A ts t) (hb : VXs K X Hin E B us u) : VXs K X Hin E [.If c A B pos] (tSeq (tIfS tc ts us) tNever) (fun Wc S => wc S fun b S1 => if b = true then t Wc S1 else u Wc S1) :=
  ⟨pss_cons (ps_if hc.pe ha.ps hb.ps) pss_never, fun Wc hE H0 Z σ H S D k f h => hc.snd H0 Z σ H S _ _ k h fun b H1 S1 k1 st1 q => by
    cases b with
    | true => rw [if_pos rfl] at q ⊢; exact ha.snd Wc hE H0 Z σ H1 S1 _ k1 (f.step st1) q
    | false => rw [if_neg Bool.false_ne_true] at q ⊢; exact hb.snd Wc hE H0 Z σ H1 S1 _ k1 (f.step st1) q⟩
theorem vx_alt {sts : List Stmt} (h1 : VXs K X Hin E sts ts t) (h2 : VXs K X Hin E sts us u) : VXs K X Hin E sts (fun D σ H => ts D σ H ∨ us D σ H) (fun Wc S => t Wc S ∨ u Wc S) :=
  ⟨fun pins s σ H D I h => h.elim (h1.ps pins s σ H D I) (h2.ps pins s σ H D I), fun Wc hE H0 Z σ H S D k f zq => zq.elim (fun z => .inl (h1.snd Wc hE H0 Z σ H S D k f z)) fun z => .inr (h2.snd Wc hE H0 Z σ H S D k f z)⟩
theorem vx_asg1 {k j i : Nat} {x n : Str} {ps : List Str} {bad : List D → Addr → Prop} {e : Expr} {es : List Expr} {rest : List Stmt} {tr : TA} {vr : VTA} {p0 cpos pos' : Pos} (T : Hands X Hin E) (F : HasX X.prog X.w X.K X.mg X.base k x ps bad) (hK : X.K = K) (hr : Room j X.A) (ha : VA K X false (e :: es) tr vr)
    (hN : X.N.Nodup) (hi : X.N[i]? = some n) (hx : Loc X.env.scope n)
    (hk : k ≤ j := by decide) (hg : Gl X x := by rfl) (hdb : (x == ("__debug__" : Str)) = false := by decide) (he : starEach (e :: es) X.env = (false, eval e X.env) :: starEach es X.env := by rfl)
    (hpl : (backTo cpos (starEach es X.env)).any (·.1) = false := by rfl) (hs : swapsWith (.Call (.Name x p0) (e :: es) [] cpos) (some (.Name n pos')) pos.line X.env = pure false := by rfl)
    (hf : X.fn n = true ∨ X.env.scope.names.lookup n = some .local := by first | exact .inl rfl | exact .inr rfl | assumption) :
    VXs K X Hin E (.Assign [.Name n pos'] (.Call (.Name x p0) (e :: es) [] cpos) pos :: rest) (tSeq (tAsg (tCall (spX K bad) [] (fun c _ H' => (∀ b, Hin b ≠ none → H' b = Hin b) ∧ E c none H') tr) (gName i)) tNever)
      (fun Wc S => vr S fun rs S1 => ∃ ds C, gets S1 rs = some ds ∧ bad ds C ∧ Wc C) := by
  subst hK
  obtain ⟨f, fd, F, hm, kp, hb⟩ := F
  refine ⟨pss_cons (ps_set hN hi hx (pe_call F (hr.mono hk) hg hm kp hb .nil (fun pins σ H s e s' I h => T pins σ H s e s' I h) ha.pe hdb he hpl) hs hf) pss_never, fun Wc hE H0 Z σ H S D k f h => ?_⟩
  refine ha.snd H0 Z σ H S _ _ k h fun vs H1 rs S1 k1 st1 rrs ⟨ds, C, e, hb, hw⟩ => ?_
  have f1 := f.step st1
  refine ⟨ds, C, by rw [List.append_nil]; exact rrs.gets k1 e, hb, fun H' g => ?_⟩
  have fr : ∀ b, Hin b ≠ none → H' b = Hin b := fun b e => by
    have q := (f1 b e).1
    rw [← q]
    exact g b (by rw [q]; exact e)
  exact ⟨fr, hE C hw H' fr⟩
theorem vx_asgT {k j i : Nat} {x n : Str} {ps : List Str} {bad : List D → Addr → Prop} {e e2 : Expr} {es : List Expr} {tr : TA} {vr : VTA} {te2 : TE} {p0 cpos pos' tpos : Pos} {x1} (T : Hands X Hin E) (F : HasX X.prog X.w X.K X.mg X.base k x ps bad) (hK : X.K = K) (hr : Room j X.A) (ha : VA K X false (e :: es) tr vr) (h2 : PE X e2 te2)
    (hN : X.N.Nodup) (hi : X.N[i]? = some n) (hx : Loc X.env.scope n)
    (hk : k ≤ j := by decide) (hg : Gl X x := by rfl) (hdb : (x == ("__debug__" : Str)) = false := by decide) (he : starEach (e :: es) X.env = (false, eval e X.env) :: starEach es X.env := by rfl)
    (hpl : (backTo cpos (starEach es X.env)).any (·.1) = false := by rfl) (hs : swapsWith (.Tuple [.Call (.Name x p0) (e :: es) [] cpos, e2] x1 tpos) (some (.Name n pos')) pos.line X.env = pure false := by rfl)
    (hf : X.fn n = true ∨ X.env.scope.names.lookup n = some .local := by first | exact .inl rfl | exact .inr rfl | assumption)
    (hs1 : starEach [.Call (.Name x p0) (e :: es) [] cpos, e2] X.env = (false, eval (.Call (.Name x p0) (e :: es) [] cpos) X.env) :: starEach [e2] X.env := by rfl) (hs2 : starEach [e2] X.env = (false, eval e2 X.env) :: starEach [] X.env := by rfl) :
    VXs K X Hin E [.Assign [.Name n pos'] (.Tuple [.Call (.Name x p0) (e :: es) [] cpos, e2] x1 tpos) pos] (tSeq (tAsg (tTup (tCons (tCall (spX K bad) [] (fun c _ H' => (∀ b, Hin b ≠ none → H' b = Hin b) ∧ E c none H') tr) (tCons te2 tNil))) (gName i)) tNever)
      (fun Wc S => vr S fun rs S1 => ∃ ds C, gets S1 rs = some ds ∧ bad ds C ∧ Wc C) := by
  subst hK
  obtain ⟨f, fd, F, hm, kp, hb⟩ := F
  refine ⟨pss_cons (ps_set hN hi hx (pe_tup (pa_cons (pe_call F (hr.mono hk) hg hm kp hb .nil (fun pins σ H s e s' I h => T pins σ H s e s' I h) ha.pe hdb he hpl) (pa_cons h2 pa_nil hs2) hs1)) hs hf) pss_never, fun Wc hE H0 Z σ H S D k f h => ?_⟩
  refine ha.snd H0 Z σ H S _ _ k h fun vs H1 rs S1 k1 st1 rrs ⟨ds, C, e, hb, hw⟩ => ?_
  have f1 := f.step st1
  refine ⟨ds, C, by rw [List.append_nil]; exact rrs.gets k1 e, hb, fun H' g => ?_⟩
  have fr : ∀ b, Hin b ≠ none → H' b = Hin b := fun b e => by
    have q := (f1 b e).1
    rw [← q]
    exact g b (by rw [q]; exact e)
  exact ⟨fr, hE C hw H' fr⟩
end
section
variable {K : PySem.W.Frag} {X : Cx} {i : Nat} {CB : Addr} {cb en : Str} {b0 : Stmt} {suite body : List Stmt} {th : TS} {vh : VTS} {t : (Addr → Prop) → List Sl → Prop} {np hp tp : Pos}
def allNo (S : List Sl) : List Sl := S.map fun _ => .no
theorem allNo_at {S : List Sl} {i : Nat} {s : Sl} (h : (allNo S)[i]? = some s) : s = .no := by
  unfold allNo at h
  rw [List.getElem?_map] at h
  cases e : S[i]? with
  | none => rw [e] at h; cases h
  | some x => rw [e] at h; exact (Option.some.inj h).symm
theorem OK.allNo {H0 H H' : Hp} {Z : AP} {σ σ1 : St} {S : List Sl} (k : OK K H0 Z σ H S) (hl : σ1.length = σ.length) (g : ∀ a, H a ≠ none → H' a = H a) : OK K H0 Z σ1 H' (allNo S) ∧ Step Z σ S H σ1 (allNo S) H' := by
  have nn : ∀ a, H' a = none → H a = none := fun a e => Classical.byContradiction fun z => by rw [g a z] at e; exact z e
  refine ⟨⟨by rw [hl, k.len]; unfold VL.allNo; rw [List.length_map], fun i o s _ e => by rw [allNo_at e]; trivial, fun i j a s t h1 _ m => by (rw [allNo_at h1] at m; cases m), fun a e => k.dom a (nn a e), fun a z => by rw [g a (k.zl a z).ne]; exact k.zl a z, fun i s a h1 m => by (rw [allNo_at h1] at m; cases m)⟩, fun a n e => ⟨g a e, ?_⟩, nn, fun a _ e => g a e⟩
  rintro (⟨i, s, h1, h2, _⟩ | z)
  · rw [allNo_at h1] at h2; cases h2
  · exact n (.inr z)
def vTryX (K : Frag) (CB : Addr) (t : (Addr → Prop) → List Sl → Prop) (i : Nat) (vh : VTS) : VTS := fun V S => i < S.length ∧ t (fun C => exmOne K (.ref C) (.ref CB) = some true ∧ vh (unV V i) ((allNo S).set i (.val (.exc (.ref C))))) (S.map lendF)
theorem vs_tryX {tb : Hp → XK → TS} (hb : ∀ pn xe Hin E, Hands (X.inTry pn xe) Hin E → VXs K (X.inTry pn xe) Hin E body (tb Hin E) t) (hK : X.K = K) (hcb : X.mg cb = some (.ref CB)) (hs : ∀ y, VSs K (X.caught y) (b0 :: suite) th vh) (hxe : ∀ e s, ¬X.xe e s) (hex0 : X.ex = [])
    (hst : X.stack = X.env :: X.outer) (hfr : X.env.frame = some X.env.locals) (hN : X.N.Nodup) (hi : X.N[i]? = some en) (hloc : X.env.scope.names.lookup en = some .local) (hgc : Gl X cb := by rfl) (hdc : (cb == ("__debug__" : Str)) = false := by decide) :
    VS K X (.Try body [.ExceptHandler (some (.Name cb np)) (some en) (b0 :: suite) hp] [] [] tp) (tTryX K CB tb i th) (vTryX K CB t i vh) := by
  subst hK
  refine ⟨ps_tryX (fun pn xe Hin E T => (hb pn xe Hin E T).ps) hcb (fun y => (hs y).ps) hxe hex0 hst hfr hN hi hloc hgc hdc, fun H0 Z σ H S V D k zq l => ?_⟩
  obtain ⟨hil, zq⟩ := zq
  have kl := k.lendF
  have il := idle_lendF S
  have k2 : OK X.K H (fun _ => False) σ H (S.map lendF) := by
    have hm : ∀ a, NM Z σ (S.map lendF) a → H a ≠ none → NM (fun _ => False) σ (S.map lendF) a ∧ H a = H a := fun a n _ => ⟨fun z => (il.mo.mp z).elim, rfl⟩
    refine ⟨kl.len, fun i o s e1 e2 => ?_, kl.inj, kl.dom, fun _ z => z.elim, fun _ _ _ _ _ _ z => z⟩
    have q := kl.at_ i o s e1 e2
    have hi := il i s e2
    cases s with
    | no => trivial
    | val d => obtain ⟨v, e, r⟩ := q; exact ⟨v, e, r.mono hm fun _ x => x⟩
    | fre d => obtain ⟨v, e, r⟩ := q; exact ⟨v, e, r.mono hm fun _ x => x⟩
    | own ds => cases hi
    | pen ad ns => cases hi
    | odi ks ds => cases hi
  refine (hb [] (fun _ _ => True) H _ (fun _ _ _ _ _ _ _ _ => trivial)).snd _ ?_ H (fun _ => False) σ H _ _ k2 (fun a _ => ⟨rfl, fun z => (il.mo.mp z).elim⟩) zq
  rintro C ⟨hex, q⟩ H' g
  refine ⟨C, rfl, hex, fun σ1 y o hl hy hc => ?_⟩
  obtain ⟨k3, st3⟩ := k.allNo (σ1 := σ1) hl g
  have g2 := upd_grow (o := .frz o (.own y)) hy
  obtain ⟨k4, st4⟩ := (k3.grow g2).setVal (i := i) (v := .ref y) (by unfold VL.allNo; rw [List.length_map]; exact hil) (Rep.exc (c := .ref C) (k3.nm hy) upd_same hc)
  exact (hs 0).snd H0 Z _ _ _ _ _ k4 q ((l.step ((st3.trans (.grow g2)).trans st4)).letGo)
end
section
variable {K : PySem.W.Frag} {X : Cx} {i : Nat} {nw : Prop} {e oi : Expr} {te : TE} {va : VT} {pos : Pos} {rest : List Stmt} {u : TS} {w : VTS}
def gIxApp (va : VT) (w : VTS) : VTG := fun d V S => ∃ ds r, d = .tup (.lst ds :: r) ∧ ds.length ≤ 1000000 ∧ (va (lend S) fun _ _ => True) ∧ w V S
theorem gss_ixApp {apos cpos epos spos p0 : Pos} {j0 : Nat} (hK : X.K = K) (hoi : PE X oi (tVar i)) (h : VE K X false e te va) (g : VSs K X rest u w)
    (hbase : attributeBase (.Subscript oi (.Constant (.int 0) j0 p0) spos) "append" X.env (eval (.Subscript oi (.Constant (.int 0) j0 p0) spos) X.env) = eval (.Subscript oi (.Constant (.int 0) j0 p0) spos) X.env := by rfl)
    (hfew : ((backTo cpos (starEach (e :: []) X.env)).all (fun x => !x.1) && (backToKw cpos (keywordEach [] X.env)).all (fun x => x.1.isSome)
      && decide ((e :: []).length + ([] : List Keyword).length + (if ([] : List Keyword).isEmpty then 0 else 1) < 30)) = true := by rfl)
    (hline : (apos.endLine == cpos.line) = true := by rfl) (hs : starEach (e :: []) X.env = (false, eval e X.env) :: starEach [] X.env := by rfl) (hplain : (backTo cpos (starEach [] X.env)).any (·.1) = false := by rfl)
    (hsw : swapsWith (.Call (.Attribute (.Subscript oi (.Constant (.int 0) j0 p0) spos) "append" apos) [e] [] cpos) none epos.line X.env = pure false := by rfl) :
    GSs K X i nw (.Expr (.Call (.Attribute (.Subscript oi (.Constant (.int 0) j0 p0) spos) "append" apos) [e] [] cpos) epos :: rest) (tSeq (tDrop (tBM K "list" rAppend (tOp (rIx K) (tVar i) (tC (.int 0))) (tCons te tNil))) u) (gIxApp va w) :=
  ⟨pss_cons (ps_expr (by subst hK; exact pe_bm PySem.F.plainAttrs_list PySem.F.slot_list_append PySem.F.type_list_append mt_append (pe_ix ix_seq hoi pe_int fun _ _ => rfl) (pa_cons h.pe pa_nil hs) hbase hfew hline hs hplain) hsw) g.ps, fun H0 Z P σ1 S1 H1 σ H S v d V E gd zq l => by
    obtain ⟨ds, r, rfl, hl, hva, hw⟩ := zq
    have rep := gd.rep
    have kZ : ∀ H', (∀ b, H b ≠ none → ¬P b → H' b = H b) → (∀ b, H' b = none → H b = none) → OK K H0 Z σ H' S := fun H' h1 h2 => gd.ok.chP h1 h2 gd.dj
    obtain ⟨p, vs, rfl, hq, rr⟩ := Rep.sqT rep
    cases rr with
    | @cons v0 _ vs' _ r0 rt =>
    have inner : ∃ b us, v0 = .ref b ∧ P b ∧ H b = some (.lst us) ∧ us.length ≤ 1000000 := by
      cases r0 with
      | lst n f hh rr => obtain ⟨c, ec, hc⟩ := f; cases ec; exact ⟨_, _, rfl, hc, hh, by rw [rr.length]; exact hl⟩
      | lstF n f hh rr => obtain ⟨c, ec, hc⟩ := f; cases ec
      | lstK f hh rr => obtain ⟨c, ec, hc⟩ := f; cases ec
    obtain ⟨b, us, rfl, hPb, hbl, hul⟩ := inner
    refine ⟨.ref p, gd.sv, .inr (.inl ⟨p, _, 0, .ref b, rfl, rfl, hq, (by simp [atI, ixN]), .inl ⟨rfl, us, .inl (.inl hbl)⟩, ?_⟩)⟩
    have k0 := ((kZ H (fun _ _ _ => rfl) fun _ e => e).wk (wk_lend S)).1
    refine h.snd H0 Z _ H _ _ _ k0 hva fun z H4 r4 S4 k4 st4 _ _ => ?_
    have g4 := (idle_lend S).grow st4
    have hbl4 : H4 b = some (.lst us) := (g4 b (by rw [hbl]; exact Option.some_ne_none _)).trans hbl
    refine ⟨b, us, z, rfl, rfl, hbl4, by rw [sizeLine_eq]; lia, ?_⟩
    have h1 : ∀ c, H c ≠ none → ¬P c → upd H4 b (.lst (us ++ [z])) c = H c := fun c hc hp => by
      have hcb : c ≠ b := fun z => hp (by rw [z]; exact hPb)
      rw [upd_ne hcb]
      exact g4 c hc
    have h2 : ∀ c, upd H4 b (.lst (us ++ [z])) c = none → H c = none := fun c hc => by
      by_cases hcb : c = b
      · subst hcb
        rw [upd_same] at hc; cases hc
      · rw [upd_ne hcb] at hc
        exact Classical.byContradiction fun z => by rw [g4 c z] at hc; exact z hc
    have stp : Step Z σ1 S1 H1 σ S (upd H4 b (.lst (us ++ [z]))) := ⟨fun c n z => by
        obtain ⟨y1, y2⟩ := gd.st.1 c n z
        exact ⟨(h1 c (by rw [y1]; exact z) fun p => z (gd.yo c p)).trans y1, y2⟩, fun c z => gd.st.2.1 c (h2 c z), fun c z y => by
        have y1 := gd.st.2.2 c z y
        exact (h1 c (by rw [y1]; exact y) fun p => gd.dj c p z).trans y1⟩
    exact g.snd H0 Z _ _ _ V E (kZ _ h1 h2) hw (l.step stp)⟩
end
section
variable {S : List Sl} {Q : VR → List Sl → Prop}
theorem j_tryX {K : PySem.W.Frag} {CB : Addr} {t : (Addr → Prop) → List Sl → Prop} {i : Nat} {vh : VTS} {V : VEnds} (C : Addr) (hi : i < S.length) (hex : PySem.W.exmOne K (.ref C) (.ref CB) = some true) (ht : ∀ Wc : Addr → Prop, Wc C → t Wc (S.map lendF)) (hh : vh (unV V i) ((allNo S).set i (.val (.exc (.ref C))))) : vTryX K CB t i vh V S := ⟨hi, ht _ ⟨hex, hh⟩⟩
theorem j_intB {k : Bool} {q : D → Prop} (h : q (.int (if k then 1 else 0))) : wInt [.bl k] q := .inr ⟨k, rfl, h⟩
theorem j_mulS {z : Str} (b : Bool) {n : Int} {q : D → Prop} (h : q (.str (if b = true then z else Str.empty))) (hn : n = if b = true then 1 else 0 := by rfl) : wMulS (.str z) (.int n) q := by subst hn; exact ⟨z, b, rfl, rfl, h⟩
theorem j_catSl {z z' : Str} {q : D → Prop} (e : (z.length == 0) = true) (h : q (.str z')) : wCatS (.str z) (.str z') q := ⟨z, z', rfl, rfl, .inl ⟨e, h⟩⟩
theorem j_catSr {z z' : Str} {q : D → Prop} (e : (z.length == 0) = false) (e' : (z'.length == 0) = true) (h : q (.str z)) : wCatS (.str z) (.str z') q := ⟨z, z', rfl, rfl, .inr ⟨e, e', h⟩⟩
theorem j_isi1g {ds : List D} {q : D → Prop} (h : wIsi ds q) : wIsi1g ds q := .inl h
theorem j_isiDct {c : String} {b : Bool} {q : D → Prop} (hk : PySem.W.kitOne [] (.type "dict") (.type c) = some b) (h : q (.bl b)) : wIsi1g [.exc (.type "dict"), .ty c] q := .inr ⟨c, b, rfl, hk, h⟩
theorem j_isiDT {q : D → Prop} (h : q (.bl false)) : wIsi1g [.exc (.type "dict"), .ty "tuple"] q := j_isiDct (by decide +kernel) h
@[irreducible] def kDi4 (r1 r2 : VR) (Q : VR → List Sl → Prop) : VR → List Sl → Prop := fun _ S4 => (∃ i j, r1 = .d (.int i) ∧ r2 = .d (.int j)) ∧ Q (.d (.exc (.type "dict"))) S4
@[irreducible] def kDi3 (r1 : VR) (v2 : VT) (Q : VR → List Sl → Prop) : VR → List Sl → Prop := fun r2 S3 => v2 S3 (kDi4 r1 r2 Q)
@[irreducible] def kDi2 (r1 : VR) (a2 v2 : VT) (Q : VR → List Sl → Prop) : VR → List Sl → Prop := fun _ S2 => a2 S2 (kDi3 r1 v2 Q)
@[irreducible] def kDi1 (v1 a2 v2 : VT) (Q : VR → List Sl → Prop) : VR → List Sl → Prop := fun r1 S1 => v1 S1 (kDi2 r1 a2 v2 Q)
theorem j_di {a1 v1 a2 v2 : VT} (h : a1 S (kDi1 v1 a2 v2 Q)) : vDict2 a1 v1 a2 v2 S Q := by unfold kDi1 kDi2 kDi3 kDi4 at h; exact h
theorem j_di1 {v1 a2 v2 : VT} {r : VR} (h : v1 S (kDi2 r a2 v2 Q)) : kDi1 v1 a2 v2 Q r S := by unfold kDi1; exact h
theorem j_di2 {a2 v2 : VT} {r r' : VR} (h : a2 S (kDi3 r v2 Q)) : kDi2 r a2 v2 Q r' S := by unfold kDi2; exact h
theorem j_di3 {v2 : VT} {r r' : VR} (h : v2 S (kDi4 r r' Q)) : kDi3 r v2 Q r' S := by unfold kDi3; exact h
theorem j_di4 {i j : Int} {r : VR} (h : Q (.d (.exc (.type "dict"))) S) : kDi4 (.d (.int i)) (.d (.int j)) Q r S := by unfold kDi4; exact ⟨⟨i, j, rfl, rfl⟩, h⟩
end
end VL
end
set_option maxHeartbeats 4000000
local macro_rules | `(tactic| walk_at "rd1") => `(tactic| first
  | ((with_reducible refine' VL.j_var ?h ?_); (case h => exact rfl))
  | with_reducible refine VL.j_sortU ?_
  | with_reducible refine VL.j_lenSeT ?_
  | ((with_reducible refine' VL.j_varF ?h ?_); (case h => exact Or.inl rfl))
  | with_reducible refine VL.j_isiDT ?_
  | with_reducible refine VL.j_isi1g ?_
  | with_reducible refine VL.j_di ?_
  | with_reducible refine VL.j_di1 ?_
  | with_reducible refine VL.j_di2 ?_
  | with_reducible refine VL.j_di3 ?_
  | with_reducible refine VL.j_di4 ?_
  | with_reducible refine VL.j_c ?_
  | with_reducible refine VL.j_2 ?_
  | with_reducible refine VL.j_2a ?_
  | ((with_reducible refine' VL.j_2b ?h1 ?h2 ?_); (case h1 => exact rfl); (case h2 => exact rfl))
  | with_reducible refine VL.j_wI0 ?_
  | with_reducible refine VL.j_eqI ?_
  | ((with_reducible refine' VL.j_wI ?h ?_); (case h => first | exact (by decide) | exact .inl ⟨by decide, by decide⟩ | exact .inr ⟨by decide, by decide⟩ | (show (0 : Int) < _; lia) | (show (0 : Int) ≤ _; lia) | exact ⟨by decide, by decide, by decide⟩ | exact ⟨by lia, by lia, by lia⟩ | exact ⟨by lia, by lia⟩ | exact .inl ⟨by lia, by lia⟩ | exact .inr ⟨by lia, by lia⟩))
  | with_reducible refine VL.j_test ?_
  | with_reducible refine VL.j_kTest ?_
  | with_reducible refine VL.i_seq ?_
  | with_reducible refine VL.i_asg ?_
  | with_reducible refine VL.i_kAsg ?_
  | ((with_reducible refine' VL.i_gN ?h ?_); (case h => exact rfl); (try dsimp only [List.set_cons_zero, List.set_cons_succ]))
  | with_reducible refine VL.i_kSeq ?_
  | with_reducible refine VL.i_ifS ?_
  | with_reducible refine VL.i_kIfT ?_
  | with_reducible refine VL.i_kIfF ?_
  | with_reducible refine VL.i_ret ?_
  | ((with_reducible refine' VL.i_kRet ?h ?_); (case h => exact rfl))
  | with_reducible refine VL.i_drop ?_
  | with_reducible refine VL.i_kDrop ?_
  | with_reducible refine VL.i_next ?_
  | with_reducible refine VL.j_flat ?_
  | ((with_reducible refine' VL.j_kFlat ?h ?_); (case h => first | exact rfl | simp only [VL.flat, VL.flats, VL.flats_ints, VL.eT, VL.flats_eT, Bool.and_self]))
  | with_reducible refine VL.j_kFlatO ?_
  | with_reducible refine VL.j_ix ?_
  | with_reducible refine VL.j_ix1 ?_
  | ((with_reducible refine' VL.j_ixL ?h1 ?h2 ?h3 ?_); (case h1 => exact rfl); (case h2 => exact rfl); (case h3 => exact rfl))
  | ((with_reducible refine' VL.j_ixT ?h1 ?h2 ?h3 ?_); (case h1 => exact rfl); (case h2 => exact rfl); (case h3 => first | exact rfl | exact VL.at_0))
  | with_reducible refine VL.j_nil ?_
  | with_reducible refine VL.j_cons ?_
  | with_reducible refine VL.j_kCons ?_
  | with_reducible refine VL.j_tup ?_
  | ((with_reducible refine' VL.j_kTup ?h1 ?h2 ?_); (case h1 => exact rfl); (case h2 => exact rfl))
  | with_reducible refine VL.j_lst ?_
  | ((with_reducible refine' VL.j_kLst ?h1 ?h2 ?_); (case h1 => exact rfl); (case h2 => exact rfl))
  | with_reducible refine VL.j_new ?_
  | with_reducible refine VL.j_kNew ?_
  | with_reducible refine VL.j_cb ?_
  | ((with_reducible refine' VL.j_kCB ?h ?_); (case h => exact rfl))
  | with_reducible refine VL.j_lenL ?_
  | with_reducible refine VL.j_lenT ?_
  | with_reducible refine VL.j_fn ?_
  | with_reducible refine VL.j_fnN ?_
  | ((with_reducible refine' VL.j_kFnN ?h ?_); (case h => exact rfl))
  | with_reducible refine VL.j_fnI ?_
  | ((with_reducible refine' VL.j_kFnI ?h1 ?h2 ?h3 ?_); (case h1 => exact rfl); (case h2 => exact rfl); (case h3 => exact rfl))
  | with_reducible refine VL.i_setN ?_
  | ((with_reducible refine' VL.i_kSetN ?h ?_); (case h => exact rfl); (try dsimp only [List.set_cons_zero, List.set_cons_succ]))
  | with_reducible refine VL.i_setP ?_
  | ((with_reducible refine' VL.i_kSetP ?h ?_); (case h => exact rfl); (try dsimp only [List.set_cons_zero, List.set_cons_succ]))
  | with_reducible refine VL.i_setIx ?_
  | ((with_reducible refine' VL.i_kSetIx ?h1 ?h2 ?_); (case h1 => exact rfl); (case h2 => exact rfl))
  | ((with_reducible refine' VL.i_kSetIxP ?h1 ?h2 ?h3 ?_); (case h1 => exact rfl); (case h2 => exact rfl); (case h3 => exact rfl); (try dsimp only [List.set_cons_zero, List.set_cons_succ]))
  | ((with_reducible refine' VL.j_app ?h ?_); (case h => exact rfl))
  | with_reducible refine VL.i_for ?_
  | ((with_reducible refine' VL.j_kApp ?h1 ?h2 ?_); (case h1 => exact rfl); (case h2 => first | lia | (simp only [List.length_append, List.length_cons, List.length_nil, List.length_map]; lia) | exact Nat.le_of_ble_eq_true rfl); (try dsimp only [List.set_cons_zero, List.set_cons_succ]))
  | with_reducible refine VL.j_itL ?_
  | with_reducible refine VL.j_kItL ?_
  | with_reducible refine VL.j_rg1 ?_
  | with_reducible refine VL.j_rg2 ?_
  | ((with_reducible refine' VL.j_kRg1 ?h ?_); (case h => exact ⟨by lia, by lia⟩))
  | ((with_reducible refine' VL.j_kRg2 ?h ?_); (case h => exact ⟨by lia, by lia, by lia, by lia⟩))
  | with_reducible refine VL.j_comp ?_
  | with_reducible refine VL.j_true ?_
  | with_reducible refine VL.j_kCompTT ?_
  | with_reducible refine VL.j_kCompE ?_
  | with_reducible refine VL.j_and ?_
  | with_reducible refine VL.j_or ?_
  | with_reducible refine VL.j_not ?_
  | with_reducible refine VL.j_kNot ?_
  | with_reducible refine VL.j_kOrF ?_
  | with_reducible refine VL.j_kOrT ?_
  | with_reducible refine VL.j_kAndT ?_
  | with_reducible refine VL.j_kAndF ?_
  | with_reducible refine VL.j_andV ?_
  | with_reducible refine VL.j_orV ?_
  | with_reducible refine VL.j_notV ?_
  | with_reducible refine VL.j_kNotV ?_
  | with_reducible refine VL.j_un ?_
  | ((with_reducible refine' VL.j_kUn ?h ?_); (case h => exact rfl))
  | ((with_reducible refine' VL.j_isi ?h1 ?h2 ?_); (case h1 => (intro n z; cases z)); (case h2 => first | exact L2.isiB_int_int | exact L2.isiB_int_bool | exact L2.isiB_list_list | exact L2.isiB_tuple_tuple | exact L2.isiB_bool_bool | exact L2.isiB_f1 | exact L2.isiB_f2 | exact L2.isiB_f3 | exact L2.isiB_f4 | exact L2.isiB_f5 | exact L2.isiB_f6 | exact L2.isiB_g1 | exact L2.isiB_g2 | exact L2.isiB_g3 | exact L2.isiB_g4 | exact L2.isiB_g5 | exact L2.isiB_g6 | exact L2.isiB_h1 | exact L2.isiB_h2 | exact L2.isiB_h3 | exact L2.isiB_h4 | exact L2.isiB_h5 | exact L2.isiB_h6 | exact L2.isiB_h7))
  | with_reducible refine VL.i_gNil ?_
  | with_reducible refine VL.i_gCons ?_
  | ((with_reducible refine' VL.i_gT ?h ?_); (case h => exact rfl); (try simp only [List.map_cons, List.map_nil]))
  | with_reducible refine VL.j_listOf ?_
  | ((with_reducible refine' VL.j_cat ?h ?_); (case h => exact rfl))
  | ((with_reducible refine' VL.j_ixO ?h ?_); (case h => exact rfl))
  | with_reducible refine VL.j_ixN ?_
  | with_reducible refine VL.j_kIxN1 ?_
  | with_reducible refine VL.j_neS ?_
  | with_reducible refine VL.j_setF ?_)
local macro_rules | `(tactic| walk_at "rc1") => `(tactic| first
  | walk_at "rd1"
  | ((with_reducible refine' VL.j_eqD ?h1 ?h2 ?h3 ?h4 ?h5 ?h6 ?_); (case h1 => exact rfl); (case h2 => exact rfl); (case h3 => exact rfl); (case h4 => exact rfl); (case h5 => exact rfl); (case h6 => exact rfl))
  | ((with_reducible refine' VL.c_ifT ?h ?_); (case h => exact rfl))
  | ((with_reducible refine' VL.c_ifF ?h ?_); (case h => exact rfl))
  | ((with_reducible refine' VL.c_andT ?h ?_); (case h => exact rfl))
  | ((with_reducible refine' VL.c_andF ?h ?_); (case h => exact rfl))
  | ((with_reducible refine' VL.c_orF ?h ?_); (case h => exact rfl))
  | ((with_reducible refine' VL.c_avT ?h ?_); (case h => exact rfl))
  | ((with_reducible refine' VL.c_avF ?h ?_); (case h => exact rfl))
  | ((with_reducible refine' VL.c_ovF ?h ?_); (case h => exact rfl)))
local macro_rules | `(tactic| walk_at "rc") => `(tactic| repeat walk_at "rc1")
local macro_rules | `(tactic| walk_at "rd") => `(tactic| repeat walk_at "rd1")
local macro_rules | `(tactic| walk_at "sl") => `(tactic| simp only [VL.slots, VL.slotsI, VL.eT, List.map_cons, List.map_nil, List.length_cons, List.length_nil, List.cons_append, List.nil_append, Nat.reduceAdd, Nat.reduceSub, Nat.zero_add, List.replicate_succ, List.replicate_zero])

namespace My
open PySem L2 VL
def top (i : Nat) : Stmt := PySem.Challenge.pw_cellships_k15_wrapped_to_rings.main.body.getD i (.Pass ⟨0, 0, 0, 0⟩)
abbrev sIsWhole : Stmt := top 1
theorem scIsWhole : FnScope ["thing"] ["thing"] (defScope sIsWhole) := ⟨rfl, rfl, rfl, by decide +kernel, rfl, by decide +kernel, by decide +kernel⟩
abbrev sIsPair : Stmt := top 2
theorem scIsPair : FnScope ["thing"] ["thing"] (defScope sIsPair) := ⟨rfl, rfl, rfl, by decide +kernel, rfl, by decide +kernel, by decide +kernel⟩
abbrev sIsRingSize : Stmt := top 25
theorem scIsRingSize : FnScope ["thing"] ["thing"] (defScope sIsRingSize) := ⟨rfl, rfl, rfl, by decide +kernel, rfl, by decide +kernel, by decide +kernel⟩
abbrev sRefuseNoRing : Stmt := top 26
theorem scRefuseNoRing : FnScope ["size"] ["size"] (defScope sRefuseNoRing) := ⟨rfl, rfl, rfl, by decide +kernel, rfl, by decide +kernel, by decide +kernel⟩
abbrev sRingMoved : Stmt := top 27
theorem scRingMoved : FnScope ["size", "picture", "move", "wide", "high", "dx", "dy"] ["size", "picture", "move"] (defScope sRingMoved) := ⟨rfl, rfl, rfl, by decide +kernel, rfl, by decide +kernel, by decide +kernel⟩
abbrev sWrapped : Stmt := top 28
theorem scWrapped : FnScope ["size", "picture", "cells"] ["size", "picture"] (defScope sWrapped) := ⟨rfl, rfl, rfl, by decide +kernel, rfl, by decide +kernel, by decide +kernel⟩
abbrev sRingNext : Stmt := top 30
theorem scRingNext : FnScope ["rule", "size", "picture"] ["rule", "size", "picture"] (defScope sRingNext) := ⟨rfl, rfl, rfl, by decide +kernel, rfl, by decide +kernel, by decide +kernel⟩
abbrev sRingAfter : Stmt := top 31
theorem scRingAfter : FnScope ["rule", "size", "picture", "many", "now", "turn"] ["rule", "size", "picture", "many"] (defScope sRingAfter) := ⟨rfl, rfl, rfl, by decide +kernel, rfl, by decide +kernel, by decide +kernel⟩
abbrev sLPen : Stmt := top 33
theorem scLPen : FnScope ["_law_script", "_law_k", "_law_cell"] ["_law_script", "_law_k"] (defScope sLPen) := ⟨rfl, rfl, rfl, by decide +kernel, rfl, by decide +kernel, by decide +kernel⟩
abbrev sLDraw : Stmt := top 34
theorem scLDraw : FnScope ["_law_pen_here", "_law_many", "_law_drawn", "_law_number"] ["_law_pen_here", "_law_many"] (defScope sLDraw) := ⟨rfl, rfl, rfl, by decide +kernel, rfl, by decide +kernel, by decide +kernel⟩
abbrev sLFar : Stmt := top 35
theorem scLFar : FnScope ["_law_pen_here"] ["_law_pen_here"] (defScope sLFar) := ⟨rfl, rfl, rfl, by decide +kernel, rfl, by decide +kernel, by decide +kernel⟩
abbrev sLSide : Stmt := top 36
theorem scLSide : FnScope ["_law_pen_here", "_law_some"] ["_law_pen_here"] (defScope sLSide) := ⟨rfl, rfl, rfl, by decide +kernel, rfl, by decide +kernel, by decide +kernel⟩
abbrev sLNoSize : Stmt := top 37
theorem scLNoSize : FnScope ["_law_pen_here", "_law_good", "_law_odd", "_law_one", "_law_some"] ["_law_pen_here"] (defScope sLNoSize) := ⟨rfl, rfl, rfl, by decide +kernel, rfl, by decide +kernel, by decide +kernel⟩
abbrev sLPicture : Stmt := top 38
theorem scLPicture : FnScope ["_law_pen_here", "_law_size", "_law_left", "_law_top", "_law_more", "_law_wide", "_law_high", "_law_live", "_law_k", "_law_cell"] ["_law_pen_here", "_law_size"] (defScope sLPicture) := ⟨rfl, rfl, rfl, by decide +kernel, rfl, by decide +kernel, by decide +kernel⟩
abbrev sLAsked : Stmt := top 39
theorem scLAsked : FnScope ["_law_way", "_law_size", "_law_live", "_law_told", "_law_found", "e", "_law_other", "_law_word"] ["_law_way", "_law_size", "_law_live"] (defScope sLAsked) := ⟨rfl, rfl, rfl, by decide +kernel, rfl, by decide +kernel, by decide +kernel⟩
abbrev sLRight : Stmt := top 40
theorem scLRight : FnScope ["_law_size", "_law_live", "_law_handed", "_law_due", "_law_turn", "_law_found"] ["_law_size", "_law_live"] (defScope sLRight) := ⟨rfl, rfl, rfl, by decide +kernel, rfl, by decide +kernel, by decide +kernel⟩
abbrev sLaw : Stmt := top 41
theorem scLaw : FnScope ["_law_script", "_law_k", "_law_pen_here", "_law_size", "_law_live", "_law_odd", "_law_some", "_law_way"] ["_law_script"] (defScope sLaw) := ⟨rfl, rfl, rfl, by decide +kernel, rfl, by decide +kernel, by decide +kernel⟩

structure Txt (mg : Str → Option Value) : Prop where
  len_ : mg "len" = none
  range : mg "range" = none
  abs_ : mg "abs" = none
  isinstance_ : mg "isinstance" = none
  int_ : mg "int" = none
  bool_ : mg "bool" = none
  list_ : mg "list" = none
  tuple_ : mg "tuple" = none
  sorted_ : mg "sorted" = none
  max_ : mg "max" = none
  min_ : mg "min" = none
  all_ : mg "all" = none
  any_ : mg "any" = none
  set_ : mg "set" = none
  sum_ : mg "sum" = none
  str_ : mg "str" = none
def Pn (b : Nat) (pn : List Int) : Prop := ∃ x y c : Int, pn = [x, y, c] ∧ 0 ≤ c ∧ c ≤ b
theorem Pn.le {b b' : Nat} {pn : List Int} (h : Pn b pn) (e : b ≤ b') : Pn b' pn := let ⟨x, y, c, h1, h2, h3⟩ := h; ⟨x, y, c, h1, h2, by lia⟩
def pPen : List D → (D → Prop) → Prop := fun ds R => ∃ (ns : List Int) (k : Nat), ds = [.lst (ns.map .int), .int k] ∧ k ≤ 1000 ∧ ∀ x y : Int, R (.lst ([x, y, 0].map .int))
def pLaw : List D → (D → Prop) → Prop := fun ds R => ∃ ns : List Int, ds = [.lst (ns.map .int)] ∧ ns.length ≤ 63 ∧ R (.bl true)
def pDraw : List Int → List D → (D → List Int → Prop) → Prop := fun pn ds R => ∃ (b : Nat) (m : Int), ds = [.int m] ∧ Pn b pn ∧ b ≤ 1000000 ∧ 0 < m ∧ m < 1073741824 ∧ ∀ (pn' : List Int) (r : Int), Pn (b + 1) pn' → 0 ≤ r → r < m → R (.int r) pn'
theorem atI_ints {ns : List Int} {j : Nat} (h : j < ns.length) : atI (ns.map D.int) (j : Int) = some (.int (ns[j])) := by
  exact atI_nat (by simp [h])
section
variable {P : Program} {w : World} {K : PySem.W.Frag} {mg : Str → Option Value} {base : Heap}
theorem ok_pen (S : Src K mg "_law_pen" sLPen) (T : Txt mg) : Has P w K mg base 1 "_law_pen" ["_law_script", "_law_k"] (spP K pPen) := by
  refine has_P S scLPen (fun _ _ _ _ _ _ us hl => match us, hl with | [_, _], _ => rfl) (fun ds R zq1 => by obtain ⟨_, _, e, _⟩ := zq1; rw [e]; rfl) fun f cdv A outer s H E hr => ⟨_, _, (vss_cons (vs_set1 (i := 2) scLPen.nd rfl (Or.inl rfl) (ve_op op_add l_rI0 (ve_op op_mul l_rI ve_int (ve_var 1 (pv 1))) ve_int))
    (vss_cons (vs_if (vt_cmp op_lt l_rI0 (ve_var 1 (pv 1)) (ve_callB (c_len (K := K) rfl) l_len (by rfl) T.len_ bt_len (va_cons (ve_var 0 (pv 0)) va_nil)) (nomark _)) (vss_one (vs_set1 (i := 2) scLPen.nd rfl (Or.inl rfl) (ve_ix rfl (ve_var 0 (pv 0)) (ve_var 1 (pv 1)) (fun _ _ => rfl)))) (vss_one (vs_if (vt_cmp op_gt l_rI0 (ve_callB (c_len (K := K) rfl) l_len (by rfl) T.len_ bt_len (va_cons (ve_var 0 (pv 0)) va_nil)) ve_int (nomark _)) (vss_one (vs_set1 (i := 2) scLPen.nd rfl (Or.inl rfl) (ve_op op_add l_rI0 (ve_op op_mod l_rI (ve_ix rfl (ve_var 0 (pv 0)) (ve_op op_mod l_rI (ve_var 1 (pv 1)) (ve_callB (c_len (K := K) rfl) l_len (by rfl) T.len_ bt_len (va_cons (ve_var 0 (pv 0)) va_nil))) (fun _ _ => rfl)) ve_int) (ve_op op_mul l_rI ve_int (ve_var 1 (pv 1)))))) vss_nil)))
    (vss_cons (vs_if (vt_cmp op_ge l_rI0 (ve_var 2 (pv 2)) (ve_op op_pow l_rI ve_int ve_int) (nomark _)) (vss_one (vs_ret (ve_new (vn_lst (va_cons (ve_op op_sub l_rI0 (ve_var 2 (pv 2)) (ve_op op_pow l_rI ve_int ve_int)) (va_cons (ve_op op_mod l_rI (ve_var 2 (pv 2)) ve_int) (va_cons ve_int va_nil))))))) vss_nil)
    (vss_one (vs_ret (ve_new (vn_lst (va_cons ve_int (va_cons (ve_op op_mod l_rI (ve_var 2 (pv 2)) ve_int) (va_cons ve_int va_nil)))))))))), ?_⟩
  rintro ds R ⟨ns, k, rfl, hk, q⟩
  have fin : ∀ (x y : Int), R (.lst [.int x, .int y, .int 0]) := fun x y => q x y
  walk_at "sl"
  walk_at "rd"
  rw [List.length_map]
  refine i_kIfd (fun h1 => ?_) (fun h1 => ?_)
  · have h1' : k < ns.length := by lia
    walk_at "rd"
    refine j_ixL rfl rfl (atI_ints h1') ?_
    walk_at "rd"
    refine i_kIfd (fun h1 => ?_) (fun h1 => ?_)
    all_goals (walk_at "rd"; exact fin _ _)
  · walk_at "rd"
    rw [List.length_map]
    refine i_kIfd (fun h2 => ?_) (fun h2 => ?_)
    · walk_at "rd"
      rw [List.length_map]
      have h2' : 0 < ns.length := by lia
      have e : ((k : Int) % (ns.length : Int)) = ((k % ns.length : Nat) : Int) := by lia
      refine j_wI (by show (0 : Int) < _; lia) ?_
      dsimp only [ofV]
      rw [e]
      refine j_ixL rfl rfl (atI_ints (Nat.mod_lt _ h2')) ?_
      walk_at "rd"
      refine i_kIfd (fun h1 => ?_) (fun h1 => ?_)
      all_goals (walk_at "rd"; exact fin _ _)
    · walk_at "rd"
      refine i_kIfd (fun h1 => ?_) (fun h1 => ?_)
      all_goals (walk_at "rd"; exact fin _ _)
theorem ok_draw (S : Src K mg "_law_draw" sLDraw) (T : Txt mg) : Has P w K mg base 1 "_law_draw" ["_law_pen_here", "_law_many"] (spI K 0 pDraw) := by
  refine has_I 0 S scLDraw (fun _ _ _ _ _ _ us hl => match us, hl with | [_, _], _ => rfl) (fun ns ds R zq1 => by obtain ⟨_, _, e, _⟩ := zq1; rw [e]; rfl) fun f cdv A outer s H E hr => ⟨_, _, (vss_cons (vs_setIx 0 (pv 0) (ve_op op_add l_rI0 (ve_ix rfl (ve_var 0 (pv 0)) ve_int (fun _ _ => rfl)) ve_int) ve_int)
    (vss_cons (vs_if (vt_cmp op_gt l_rI0 (ve_ix rfl (ve_var 0 (pv 0)) ve_int (fun _ _ => rfl)) ve_int (nomark _)) (vss_cons (vs_set1 (i := 2) scLDraw.nd rfl (Or.inl rfl) (ve_op op_mod l_rI (ve_ix rfl (ve_var 0 (pv 0)) ve_int (fun _ _ => rfl)) (ve_var 1 (pv 1))))
    (vss_cons (vs_setIx 0 (pv 0) (ve_op op_fdiv l_rI (ve_ix rfl (ve_var 0 (pv 0)) ve_int (fun _ _ => rfl)) (ve_var 1 (pv 1))) ve_int)
    (vss_one (vs_ret (ve_flat (ve_var 2 (pv 2))))))) vss_nil)
    (vss_cons (vs_set1 (i := 3) scLDraw.nd rfl (Or.inl rfl) (ve_op op_mod l_rI (ve_op op_add l_rI0 (ve_op op_add l_rI0 (ve_ix rfl (ve_var 0 (pv 0)) ve_int (fun _ _ => rfl)) (ve_op op_mul l_rI ve_int (ve_ix rfl (ve_var 0 (pv 0)) ve_int (fun _ _ => rfl)))) ve_int) ve_int))
    (vss_cons (vs_set1 (i := 3) scLDraw.nd rfl (Or.inl rfl) (ve_op op_add l_rI0 (ve_op op_mod l_rI (ve_op op_mul l_rI (ve_var 3 (pv 3)) (ve_var 3 (pv 3))) ve_int) (ve_op op_mul l_rI ve_int (ve_ix rfl (ve_var 0 (pv 0)) ve_int (fun _ _ => rfl)))))
    (vss_cons (vs_set1 (i := 3) scLDraw.nd rfl (Or.inl rfl) (ve_op op_mod l_rI (ve_op op_mul l_rI (ve_var 3 (pv 3)) (ve_var 3 (pv 3))) ve_int))
    (vss_one (vs_ret (ve_op op_mod l_rI (ve_op op_fdiv l_rI (ve_var 3 (pv 3)) ve_int) (ve_var 1 (pv 1)))))))))), ?_⟩
  rintro a pn ds es R hl ⟨b, m, e, ⟨x, y, c, rfl, hc0, hc1⟩, hb, hm0, hm1, q⟩
  obtain rfl : ds = [] := List.eq_nil_of_length_eq_zero hl
  obtain rfl : es = [.int m] := e
  walk_at "sl"
  walk_at "rd"
  refine i_kIfd (fun h1 => ?_) (fun h1 => ?_)
  · walk_at "rd"
    exact ⟨_, rfl, q _ _ ⟨_, _, _, rfl, by lia, by lia⟩ (Int.emod_nonneg _ (by lia)) (Int.emod_lt_of_pos _ hm0)⟩
  · walk_at "rd"
    exact ⟨_, rfl, q _ _ ⟨_, _, _, rfl, by lia, by lia⟩ (Int.emod_nonneg _ (by lia)) (Int.emod_lt_of_pos _ hm0)⟩
end
end My


namespace My
open PySem L2 VL
def Pr (ms : List Int) : Prop := ∃ x y, ms = [x, y]
def Sz (w h : Int) : Prop := 3 ≤ w ∧ w ≤ 40 ∧ 3 ≤ h ∧ h ≤ 40
def rmv (w h a b : Int) (p : List Int) : List Int := match p with
  | [x, y] => [(x + a) % w, (y + b) % h]
  | _ => []
def rMv (w h a b : Int) (xs : List (List Int)) : List (List Int) := srt (xs.map (rmv w h a b))
def Od (x : D) : Prop := (∃ n : Int, x = .int n ∧ ¬(3 ≤ n ∧ n ≤ 40)) ∨ (∃ b, x = .bl b) ∨ x = .non ∨ (∃ z, x = .str z) ∨ x = .lst [.int 5] ∨ x = .tup [.int 5]
def NoT (x : D) : Prop := (∃ n : Int, x = .int n) ∨ (∃ b, x = .bl b) ∨ x = .non ∨ (∃ z, x = .str z) ∨ (∃ ds, x = .lst ds) ∨ (∃ ds, x = .tup ds ∧ ds.length ≠ 2) ∨ x = .exc (.type "dict")
def NoS (x : D) : Prop := NoT x ∨ ∃ (a b : D), x = .tup [a, b] ∧ ((∃ g : Int, 3 ≤ g ∧ g ≤ 40 ∧ a = .int g) ∧ Od b ∨ Od a ∧ (∃ g : Int, 3 ≤ g ∧ g ≤ 40 ∧ b = .int g) ∨ Od a ∧ Od b)
def isI : D → Bool
  | .int _ => true
  | _ => false
def Wv (x : D) : Prop := (∃ n : Int, x = .int n) ∨ Od x
def pWh : List D → (D → Prop) → Prop := fun ds R => ∃ x, ds = [x] ∧ Wv x ∧ R (.bl (isI x))
def pPair : List D → (D → Prop) → Prop := fun ds R => (∃ a b : D, ds = [.tup [a, b]] ∧ Wv a ∧ Wv b ∧ R (.bl (isI a && isI b))) ∨ ∃ x, ds = [x] ∧ NoT x ∧ R (.bl false)
def pSz : List D → (D → Prop) → Prop := fun ds R => (∃ w h : Int, ds = [eT [w, h]] ∧ Sz w h ∧ R (.bl true)) ∨ ∃ x, ds = [x] ∧ NoS x ∧ R (.bl false)
def pRef : List D → (D → Prop) → Prop := fun ds R => ∃ w h : Int, ds = [eT [w, h]] ∧ Sz w h ∧ R .non
def pRm : List D → (D → Prop) → Prop := fun ds R => ∃ w h xs a b, ds = [eT [w, h], eL xs, eT [a, b]] ∧ Sz w h ∧ (∀ p ∈ xs, Pr p) ∧ xs.length ≤ 1600 ∧ R (eL (rMv w h a b xs))
def pWr : List D → (D → Prop) → Prop := fun ds R => ∃ w h xs, ds = [eT [w, h], eL xs] ∧ Sz w h ∧ (∀ p ∈ xs, Pr p) ∧ xs.length ≤ 1000 ∧ (xs.map (rmv w h 0 0)).Nodup ∧ R (eL (rMv w h 0 0 xs))
def bdS (c : Addr) (n : Nat) (i : Nat) : List D → Addr → Prop := fun ds C => ds.length = n ∧ C = c ∧ ∃ x, ds[i]? = some x ∧ NoS x
def bdW (cS cF : Addr) : List D → Addr → Prop := fun ds C => (∃ x xs, ds = [x, eL xs] ∧ NoS x ∧ C = cS) ∨ ∃ w h xs, ds = [eT [w, h], eL xs] ∧ Sz w h ∧ (∀ p ∈ xs, Pr p) ∧ xs.length ≤ 1000 ∧ ¬(xs.map (rmv w h 0 0)).Nodup ∧ C = cF
theorem rMv_len {w h a b : Int} {xs : List (List Int)} : (rMv w h a b xs).length = xs.length := by
  unfold rMv
  rw [(srt_perm _).length_eq, List.length_map]
theorem chain3 {f g : Int → Int → Bool} {va vb vc : VT} {S : List Sl} {a b c : Int} {Q : VR → List Sl → Prop} (ha : ∀ Q', Q' (.d (.int a)) S → va S Q') (hb : ∀ Q', Q' (.d (.int b)) S → vb S Q') (hc : ∀ Q', Q' (.d (.int c)) S → vc S Q') (h : Q (.d (.bl (f a b && g b c))) S) :
    vChain (wI0 fun i j => V.bl (f i j)) (wI0 fun i j => V.bl (g i j)) va vb vc S Q := by
  unfold vChain
  refine ha _ (hb _ ⟨.int a, .int b, rfl, rfl, a, b, rfl, rfl, _, rfl, ?_⟩)
  cases h1 : f a b with
  | true =>
    rw [if_pos rfl]
    refine hc _ ⟨.int b, .int c, rfl, rfl, b, c, rfl, rfl, ?_⟩
    rw [h1, Bool.true_and] at h
    exact h
  | false =>
    rw [if_neg Bool.false_ne_true]
    rw [h1, Bool.false_and] at h
    exact h
section
variable {P : Program} {w : World} {K : PySem.W.Frag} {mg : Str → Option Value} {base : Heap}
theorem ok_wh (S : Src K mg "is_whole" sIsWhole) (T : Txt mg) : Has P w K mg base 1 "is_whole" ["thing"] (spP K pWh) := by
  refine has_P S scIsWhole (fun _ _ _ _ _ _ us hl => match us, hl with | [_], _ => rfl) (fun ds R zq1 => by obtain ⟨_, e, _⟩ := zq1; rw [e]; rfl) fun f cdv A outer s H E hr => ⟨_, _, (vss_one (vs_ret (ve_and (ve_callB (c_isi (K := K) rfl) l_isi (by rfl) T.isinstance_ bt_isinstance (va_cons (ve_var 0 (pv 0)) (va_cons (ve_pe (pe_bltn (v := .ty "int") (by rfl) T.int_ bt_int rfl) (fun _ _ => .ty _)) va_nil))) (ve_one (ve_not (ve_callB (c_isi (K := K) rfl) l_isi (by rfl) T.isinstance_ bt_isinstance (va_cons (ve_var 0 (pv 0)) (va_cons (ve_pe (pe_bltn (v := .ty "bool") (by rfl) T.bool_ bt_bool rfl) (fun _ _ => .ty _)) va_nil)))))))), ?_⟩
  rintro ds R ⟨x, rfl, hx, q⟩
  rcases hx with ⟨n, rfl⟩ | ⟨n, rfl, _⟩ | ⟨b, rfl⟩ | rfl | ⟨z, rfl⟩ | rfl | rfl
  all_goals (walk_at "sl"; walk_at "rc"; exact q)
theorem ok_pair (S : Src K mg "is_pair" sIsPair) (T : Txt mg) (E_is_whole : Has P w K mg base 1 "is_whole" ["thing"] (spP K pWh)) : Has P w K mg base 2 "is_pair" ["thing"] (spP K pPair) := by
  refine has_P S scIsPair (fun _ _ _ _ _ _ us hl => match us, hl with | [_], _ => rfl) (fun ds R h => by rcases h with ⟨_, _, e, _⟩ | ⟨_, e, _⟩ <;> (rw [e]; rfl)) fun f cdv A outer s H E hr => ⟨_, _, (vss_one (vs_ret (ve_and (ve_callB (c_isi1g (K := K) rfl) l_isi1g (by rfl) T.isinstance_ bt_isinstance (va_cons (ve_var 0 (pv 0)) (va_cons (ve_pe (pe_bltn (v := .ty "tuple") (by rfl) T.tuple_ bt_tuple rfl) (fun _ _ => .ty _)) va_nil))) (ve_and (ve_cmp op_eq l_eq (ve_callB (c_len (K := K) rfl) l_len (by rfl) T.len_ bt_len (va_cons (ve_var 0 (pv 0)) va_nil)) ve_int (nomark _)) (ve_and (ve_fn E_is_whole hr (va_cons (ve_ix rfl (ve_var 0 (pv 0)) ve_int (fun _ _ => rfl)) va_nil)) (ve_one (ve_fn E_is_whole hr (va_cons (ve_ix rfl (ve_var 0 (pv 0)) ve_int (fun _ _ => rfl)) va_nil)))))))), ?_⟩
  rintro ds R (⟨a, b, rfl, ha, hb, q⟩ | ⟨x, rfl, hx, q⟩)
  · walk_at "sl"
    walk_at "rc"
    refine ⟨a, rfl, ha, ?_⟩
    cases h1 : isI a with
    | false =>
      rw [h1] at q
      walk_at "rc"
      exact q
    | true =>
      rw [h1] at q
      walk_at "rc"
      refine ⟨b, rfl, hb, ?_⟩
      walk_at "rc"
      exact q
  · rcases hx with ⟨n, rfl⟩ | ⟨b, rfl⟩ | rfl | ⟨z, rfl⟩ | ⟨ds, rfl⟩ | ⟨ds, rfl, hl⟩ | rfl
    · walk_at "sl"; walk_at "rc"; exact q
    · walk_at "sl"; walk_at "rc"; exact q
    · walk_at "sl"; walk_at "rc"; exact q
    · walk_at "sl"; walk_at "rc"; exact q
    · walk_at "sl"; walk_at "rc"; exact q
    · walk_at "sl"
      walk_at "rc"
      rw [show decide ((ds.length : Int) = 2) = false from decide_eq_false (by lia)]
      walk_at "rc"
      exact q
    · walk_at "sl"; walk_at "rc"; exact q
theorem ok_sz (S : Src K mg "is_ring_size" sIsRingSize) (T : Txt mg) (E_is_pair : Has P w K mg base 2 "is_pair" ["thing"] (spP K pPair)) : Has P w K mg base 3 "is_ring_size" ["thing"] (spP K pSz) := by
  refine has_P S scIsRingSize (fun _ _ _ _ _ _ us hl => match us, hl with | [_], _ => rfl) (fun ds R h => by rcases h with ⟨_, _, e, _⟩ | ⟨_, e, _⟩ <;> (rw [e]; rfl)) fun f cdv A outer s H E hr => ⟨_, _, (vss_one (vs_ret (ve_and (ve_fn E_is_pair hr (va_cons (ve_var 0 (pv 0)) va_nil)) (ve_and (ve_chain op_le l_rI0 op_le l_rI0 ve_int (ve_ix rfl (ve_var 0 (pv 0)) ve_int (fun _ _ => rfl)) ve_int) (ve_one (ve_chain op_le l_rI0 op_le l_rI0 ve_int (ve_ix rfl (ve_var 0 (pv 0)) ve_int (fun _ _ => rfl)) ve_int)))))), ?_⟩
  rintro ds R (⟨w, h, rfl, ⟨h1, h2, h3, h4⟩, q⟩ | ⟨x, rfl, hx, q⟩)
  · walk_at "sl"
    walk_at "rd"
    refine .inl ⟨.int w, .int h, rfl, .inl ⟨w, rfl⟩, .inl ⟨h, rfl⟩, ?_⟩
    refine c_avT rfl ?_
    refine chain3 (fun _ q => j_c q) (fun _ q => by walk_at "rd"; exact q) (fun _ q => j_c q) ?_
    rw [decide_eq_true h1, decide_eq_true h2]
    refine c_avT rfl ?_
    refine chain3 (fun _ q => j_c q) (fun _ q => by walk_at "rd"; exact q) (fun _ q => j_c q) ?_
    rw [decide_eq_true h3, decide_eq_true h4]
    walk_at "rc"
    exact q
  · rcases hx with hx | ⟨a, b, rfl, hx⟩
    · walk_at "sl"
      walk_at "rd"
      refine .inr ⟨x, rfl, hx, ?_⟩
      walk_at "rc"
      exact q
    · have wa : Wv a := by rcases hx with ⟨⟨g, _, _, e⟩, _⟩ | ⟨h, _⟩ | ⟨h, _⟩ <;> first | exact .inl ⟨g, e⟩ | exact .inr h
      have wb : Wv b := by rcases hx with ⟨_, h⟩ | ⟨_, g, _, _, e⟩ | ⟨_, h⟩ <;> first | exact .inr h | exact .inl ⟨g, e⟩
      walk_at "sl"
      walk_at "rd"
      refine .inl ⟨a, b, rfl, wa, wb, ?_⟩
      cases hb : isI a && isI b with
      | false =>
        walk_at "rc"
        exact q
      | true =>
        obtain ⟨m, rfl⟩ : ∃ m, a = .int m := by
          cases a with
          | int m => exact ⟨m, rfl⟩
          | _ => simp [isI] at hb
        obtain ⟨n, rfl⟩ : ∃ n, b = .int n := by
          cases b with
          | int m => exact ⟨m, rfl⟩
          | _ => simp [isI] at hb
        have od : ∀ {k : Int}, Od (.int k) → ¬(3 ≤ k ∧ k ≤ 40) := fun {k} h => by
          rcases h with ⟨n, e, h⟩ | ⟨_, e⟩ | e | ⟨_, e⟩ | e | e
          · cases e; exact h
          all_goals cases e
        refine c_avT rfl ?_
        refine chain3 (fun _ q => j_c q) (fun _ q => by walk_at "rd"; exact q) (fun _ q => j_c q) ?_
        by_cases hm : 3 ≤ m ∧ m ≤ 40
        · have hn : ¬(3 ≤ n ∧ n ≤ 40) := by
            rcases hx with ⟨_, h⟩ | ⟨h, _⟩ | ⟨_, h⟩
            · exact od h
            · exact absurd hm (od h)
            · exact od h
          rw [decide_eq_true hm.1, decide_eq_true hm.2]
          refine c_avT rfl ?_
          refine chain3 (fun _ q => j_c q) (fun _ q => by walk_at "rd"; exact q) (fun _ q => j_c q) ?_
          rw [show (decide (3 ≤ n) && decide (n ≤ 40)) = false by rw [← Bool.decide_and]; exact decide_eq_false hn]
          walk_at "rc"
          exact q
        · rw [show (decide (3 ≤ m) && decide (m ≤ 40)) = false by rw [← Bool.decide_and]; exact decide_eq_false hm]
          refine c_avF rfl ?_
          walk_at "rc"
          exact q
theorem ok_ref (S : Src K mg "refuse_no_ring" sRefuseNoRing) (T : Txt mg) (E_is_ring_size : Has P w K mg base 3 "is_ring_size" ["thing"] (spP K pSz)) : Has P w K mg base 4 "refuse_no_ring" ["size"] (spP K pRef) := by
  refine has_P S scRefuseNoRing (fun _ _ _ _ _ _ us hl => match us, hl with | [_], _ => rfl) (fun ds R zq1 => by obtain ⟨_, _, e, _⟩ := zq1; rw [e]; rfl) fun f cdv A outer s H E hr => ⟨_, _, (vss_one (vs_if (vt_not (vt_val (ve_fn E_is_ring_size hr (va_cons (ve_var 0 (pv 0)) va_nil)))) (vss_one vs_never) vss_nil)), ?_⟩
  rintro ds R ⟨w, h, rfl, hs, q⟩
  walk_at "sl"
  walk_at "rd"
  refine .inl ⟨w, h, rfl, hs, ?_⟩
  walk_at "rc"
  exact q
theorem ok_refX {c_NoSize : Addr} (S : Src K mg "refuse_no_ring" sRefuseNoRing) (T : Txt mg) (E_is_ring_size : Has P w K mg base 3 "is_ring_size" ["thing"] (spP K pSz)) (g_NoSize : mg "NoSize" = some (.ref c_NoSize)) (x_NoSize : PySem.W.excIn K c_NoSize [.type "ValueError", .type "Exception", .type "BaseException", .type "object"] "ValueError.__new__" = true) : HasX P w K mg base 4 "refuse_no_ring" ["size"] (bdS c_NoSize 1 0) := by
  refine has_X S scRefuseNoRing (fun _ _ _ _ _ _ us hl => match us, hl with | [_], _ => rfl) (fun ds C h => h.1) fun f cdv A outer s H E hr TH => ⟨_, _, (vx_if (vt_not (vt_val (ve_fn E_is_ring_size hr (va_cons (ve_var 0 (pv 0)) va_nil)))) (vx_raise TH PySem.F.excBase_ValueError x_NoSize g_NoSize rfl)
    vx_never), ?_⟩
  rintro ds C ⟨hl, rfl, x, hx, hn⟩
  obtain ⟨y, rfl⟩ : ∃ y, ds = [y] := by
    match ds, hl with
    | [y], _ => exact ⟨y, rfl⟩
  obtain rfl : y = x := by simpa using hx
  walk_at "sl"
  walk_at "rd"
  refine .inr ⟨y, rfl, hn, ?_⟩
  walk_at "rc"
  simp
theorem ok_rm (S : Src K mg "ring_moved" sRingMoved) (T : Txt mg) (E_refuse_no_ring : Has P w K mg base 4 "refuse_no_ring" ["size"] (spP K pRef)) : Has P w K mg base 5 "ring_moved" ["size", "picture", "move"] (spP K pRm) := by
  refine has_P S scRingMoved (fun _ _ _ _ _ _ us hl => match us, hl with | [_, _, _], _ => rfl) (fun ds R zq1 => by obtain ⟨_, _, _, _, _, e, _⟩ := zq1; rw [e]; rfl) fun f cdv A outer s H E hr => ⟨_, _, (vss_cons (vs_expr (ve_fn E_refuse_no_ring hr (va_cons (ve_var 0 (pv 0)) va_nil)))
    (vss_cons (vs_asg (ve_var 0 (pv 0)) (vg_tup (n := 2) rfl rfl (vgs_cons (vg_name (pg_name (i := 3) scRingMoved.nd rfl (Or.inr rfl) (Or.inl rfl))) (vgs_cons (vg_name (pg_name (i := 4) scRingMoved.nd rfl (Or.inr rfl) (Or.inl rfl))) vgs_nil))))
    (vss_cons (vs_asg (ve_var 2 (pv 2)) (vg_tup (n := 2) rfl rfl (vgs_cons (vg_name (pg_name (i := 5) scRingMoved.nd rfl (Or.inr rfl) (Or.inl rfl))) (vgs_cons (vg_name (pg_name (i := 6) scRingMoved.nd rfl (Or.inr rfl) (Or.inl rfl))) vgs_nil))))
    (vss_one (vs_ret (ve_new (vn_sortU rfl rfl (by rfl) T.sorted_ bt_sorted (va_cons (ve_new (vn_comp (tg := ["x", "y"]) (cs := ["wide", "high", "dx", "dy"]) (ix := [3, 4, 5, 6]) (comp_scope (defScope sRingMoved) ["size", "picture", "move", "wide", "high", "dx", "dy"] (by decide +kernel)) rfl (keeps_two (by decide) (by decide)) (by decide) (vi_list rfl (ve_var 1 (pv 1))) (fun _ _ _ _ => (vg_tup (n := 2) rfl rfl (vgs_cons (vg_name (pg_name (i := 0) (show (["x", "y", "wide", "high", "dx", "dy"] : List Str).Nodup by decide +kernel) rfl (Or.inl rfl) (by first | exact Or.inl rfl | exact Or.inr rfl))) (vgs_cons (vg_name (pg_name (i := 1) (show (["x", "y", "wide", "high", "dx", "dy"] : List Str).Nodup by decide +kernel) rfl (Or.inl rfl) (by first | exact Or.inl rfl | exact Or.inr rfl))) vgs_nil)))) (fun _ _ _ _ => vts_nil) (fun _ _ _ _ => (ve_tup (va_cons (ve_op op_mod l_rI (ve_op op_add l_rI0 (ve_var 0 (pv 0)) (ve_var 4 (pv 4))) (ve_var 2 (pv 2))) (va_cons (ve_op op_mod l_rI (ve_op op_add l_rI0 (ve_var 1 (pv 1)) (ve_var 5 (pv 5))) (ve_var 3 (pv 3))) va_nil)))))) va_nil)))))))), ?_⟩
  rintro ds R ⟨w, h, xs, a, b, rfl, hs, hp, hl, q⟩
  have hs' := hs
  obtain ⟨s1, s2, s3, s4⟩ := hs'
  walk_at "sl"
  walk_at "rd"
  refine ⟨w, h, rfl, hs, ?_⟩
  walk_at "rd"
  refine comp_map (xs := xs) (en := eT) (f := fun m => eT (rmv w h a b m)) (by lia) (fun m hm A B hA => ?_) ?_
  · obtain ⟨x, y, rfl⟩ := hp m hm
    dsimp only [capS, List.replicate, List.map_cons, List.map_nil, List.cons_append, List.nil_append]
    walk_at "rd"
    exact hA _ rfl
  · rw [show xs.map (fun m => eT (rmv w h a b m)) = (xs.map (rmv w h a b)).map eT by rw [List.map_map]; rfl]
    walk_at "rd"
    refine j_kSortU (mss := xs.map (rmv w h a b)) rfl (fun ms hm => ?_) ?_
    · obtain ⟨m, h1, rfl⟩ := List.mem_map.mp hm
      obtain ⟨x, y, rfl⟩ := hp m h1
      simp [rmv]
    · walk_at "rd"
      exact q
theorem ok_rmX {c_NoSize : Addr} (S : Src K mg "ring_moved" sRingMoved) (T : Txt mg) (EX_refuse_no_ring : HasX P w K mg base 4 "refuse_no_ring" ["size"] (bdS c_NoSize 1 0)) : HasX P w K mg base 5 "ring_moved" ["size", "picture", "move"] (bdS c_NoSize 3 0) := by
  refine has_X S scRingMoved (fun _ _ _ _ _ _ us hl => match us, hl with | [_, _, _], _ => rfl) (fun ds C h => h.1) fun f cdv A outer s H E hr TH => ⟨_, _, (vx_call TH EX_refuse_no_ring rfl hr (va_cons (ve_var 0 (pv 0)) va_nil)), ?_⟩
  rintro ds C ⟨hl, rfl, x, hx, hn⟩
  obtain ⟨y, y2, y3, rfl⟩ : ∃ y y2 y3, ds = [y, y2, y3] := by
    match ds, hl with
    | [y, y2, y3], _ => exact ⟨y, y2, y3, rfl⟩
  obtain rfl : y = x := by simpa using hx
  walk_at "sl"
  walk_at "rd"
  exact ⟨[y], C, rfl, ⟨rfl, rfl, y, rfl, hn⟩, rfl⟩
theorem ok_rnX {c_NoSize : Addr} (S : Src K mg "ring_next" sRingNext) (T : Txt mg) (EX_refuse_no_ring : HasX P w K mg base 4 "refuse_no_ring" ["size"] (bdS c_NoSize 1 0)) : HasX P w K mg base 5 "ring_next" ["rule", "size", "picture"] (bdS c_NoSize 3 1) := by
  refine has_X S scRingNext (fun _ _ _ _ _ _ us hl => match us, hl with | [_, _, _], _ => rfl) (fun ds C h => h.1) fun f cdv A outer s H E hr TH => ⟨_, _, (vx_call TH EX_refuse_no_ring rfl hr (va_cons (ve_var 1 (pv 1)) va_nil)), ?_⟩
  rintro ds C ⟨hl, rfl, x, hx, hn⟩
  obtain ⟨y, y2, y3, rfl⟩ : ∃ y y2 y3, ds = [y, y2, y3] := by
    match ds, hl with
    | [y, y2, y3], _ => exact ⟨y, y2, y3, rfl⟩
  obtain rfl : y2 = x := by simpa using hx
  walk_at "sl"
  walk_at "rd"
  exact ⟨[y2], C, rfl, ⟨rfl, rfl, y2, rfl, hn⟩, rfl⟩
theorem ok_raX {c_NoSize : Addr} (S : Src K mg "ring_after" sRingAfter) (T : Txt mg) (EX_refuse_no_ring : HasX P w K mg base 4 "refuse_no_ring" ["size"] (bdS c_NoSize 1 0)) : HasX P w K mg base 5 "ring_after" ["rule", "size", "picture", "many"] (bdS c_NoSize 4 1) := by
  refine has_X S scRingAfter (fun _ _ _ _ _ _ us hl => match us, hl with | [_, _, _, _], _ => rfl) (fun ds C h => h.1) fun f cdv A outer s H E hr TH => ⟨_, _, (vx_call TH EX_refuse_no_ring rfl hr (va_cons (ve_var 1 (pv 1)) va_nil)), ?_⟩
  rintro ds C ⟨hl, rfl, x, hx, hn⟩
  obtain ⟨y, y2, y3, y4, rfl⟩ : ∃ y y2 y3 y4, ds = [y, y2, y3, y4] := by
    match ds, hl with
    | [y, y2, y3, y4], _ => exact ⟨y, y2, y3, y4, rfl⟩
  obtain rfl : y2 = x := by simpa using hx
  walk_at "sl"
  walk_at "rd"
  exact ⟨[y2], C, rfl, ⟨rfl, rfl, y2, rfl, hn⟩, rfl⟩
theorem ok_wr (S : Src K mg "wrapped" sWrapped) (T : Txt mg) (E_ring_moved : Has P w K mg base 5 "ring_moved" ["size", "picture", "move"] (spP K pRm)) : Has P w K mg base 6 "wrapped" ["size", "picture"] (spP K pWr) := by
  refine has_P S scWrapped (fun _ _ _ _ _ _ us hl => match us, hl with | [_, _], _ => rfl) (fun ds R zq1 => by obtain ⟨_, _, _, e, _⟩ := zq1; rw [e]; rfl) fun f cdv A outer s H E hr => ⟨_, _, (vss_cons (vs_setN (fun _ h => ps_set (i := 2) scWrapped.nd rfl (Or.inl rfl) h) (vn_fn E_ring_moved hr (va_cons (ve_var 0 (pv 0)) (va_cons (ve_var 1 (pv 1)) (va_cons (ve_tup (va_cons ve_int (va_cons ve_int va_nil))) va_nil)))))
    (vss_cons (vs_if (vt_cmp op_lt l_rI0 (ve_lenSeT rfl rfl hr.units (by rfl) T.len_ (by rfl) T.set_ (va_cons (ve_var 2 (pv 2)) va_nil)) (ve_callB (c_len (K := K) rfl) l_len (by rfl) T.len_ bt_len (va_cons (ve_var 2 (pv 2)) va_nil)) (nomark _)) (vss_one vs_never) vss_nil)
    (vss_one (vs_ret (ve_flat (ve_var 2 (pv 2))))))), ?_⟩
  rintro ds R ⟨w, h, xs, rfl, hs, hp, hl, hn, q⟩
  have ml : (rMv w h 0 0 xs).length = xs.length := rMv_len
  have nd : (rMv w h 0 0 xs).Nodup := (srt_perm _).nodup_iff.mpr hn
  walk_at "sl"
  walk_at "rd"
  refine ⟨w, h, xs, 0, 0, rfl, hs, hp, by lia, _, rfl, flats_eT _, ?_⟩
  walk_at "rd"
  refine j_kLenSeT (mss := rMv w h 0 0 xs) rfl (by lia) ?_
  rw [oncs_id nd]
  walk_at "rd"
  rw [List.length_map, decide_eq_false (Int.lt_irrefl _)]
  walk_at "rc"
  exact q
theorem ok_wrX {c_NoSize c_Folded : Addr} (S : Src K mg "wrapped" sWrapped) (T : Txt mg) (E_ring_moved : Has P w K mg base 5 "ring_moved" ["size", "picture", "move"] (spP K pRm)) (EX_ring_moved : HasX P w K mg base 5 "ring_moved" ["size", "picture", "move"] (bdS c_NoSize 3 0)) (g_Folded : mg "Folded" = some (.ref c_Folded)) (x_Folded : PySem.W.excIn K c_Folded [.type "ValueError", .type "Exception", .type "BaseException", .type "object"] "ValueError.__new__" = true) : HasX P w K mg base 6 "wrapped" ["size", "picture"] (bdW c_NoSize c_Folded) := by
  refine has_X S scWrapped (fun _ _ _ _ _ _ us hl => match us, hl with | [_, _], _ => rfl) (fun ds C h => by rcases h with ⟨_, _, e, _⟩ | ⟨_, _, _, e, _⟩ <;> (rw [e]; rfl)) fun f cdv A outer s H E hr TH => ⟨_, _, (vx_alt (vx_asg1 (i := 2) TH.next EX_ring_moved rfl hr (va_cons (ve_var 0 (pv 0)) (va_cons (ve_var 1 (pv 1)) (va_cons (ve_tup (va_cons ve_int (va_cons ve_int va_nil))) va_nil))) scWrapped.nd rfl (Or.inl rfl)) (vx_seq (vs_setN (fun _ h => ps_set (i := 2) scWrapped.nd rfl (Or.inl rfl) h) (vn_fn E_ring_moved hr (va_cons (ve_var 0 (pv 0)) (va_cons (ve_var 1 (pv 1)) (va_cons (ve_tup (va_cons ve_int (va_cons ve_int va_nil))) va_nil))))) (vx_if (vt_cmp op_lt l_rI0 (ve_lenSeT rfl rfl hr.units (by rfl) T.len_ (by rfl) T.set_ (va_cons (ve_var 2 (pv 2)) va_nil)) (ve_callB (c_len (K := K) rfl) l_len (by rfl) T.len_ bt_len (va_cons (ve_var 2 (pv 2)) va_nil)) (nomark _)) (vx_raise TH PySem.F.excBase_ValueError x_Folded g_Folded rfl)
    vx_never))), ?_⟩
  rintro ds C (⟨x, xs, rfl, hn, rfl⟩ | ⟨w, h, xs, rfl, hs, hp, hl, hn, rfl⟩)
  · left
    walk_at "sl"
    walk_at "rd"
    exact ⟨[x, eL xs, eT [0, 0]], _, rfl, ⟨rfl, rfl, x, rfl, hn⟩, rfl⟩
  · right
    have ml : (rMv w h 0 0 xs).length = xs.length := rMv_len
    have nd : ¬(rMv w h 0 0 xs).Nodup := fun z => hn ((srt_perm _).nodup_iff.mp z)
    walk_at "sl"
    walk_at "rd"
    refine ⟨w, h, xs, 0, 0, rfl, hs, hp, by lia, _, rfl, flats_eT _, ?_⟩
    walk_at "rd"
    refine j_kLenSeT (mss := rMv w h 0 0 xs) rfl (by lia) ?_
    have := oncs_lt nd
    walk_at "rd"
    rw [List.length_map, decide_eq_true (by lia)]
    walk_at "rc"
    rw [if_pos rfl]
    trivial
end
end My


namespace My
open PySem L2 VL
def pFar : List Int → List D → (D → List Int → Prop) → Prop := fun pn ds R => ∃ b : Nat, ds = [] ∧ Pn b pn ∧ b ≤ 8000 ∧ ∀ (i : Int) pn', Pn (b + 3) pn' → R (.int i) pn'
def pSide : List Int → List D → (D → List Int → Prop) → Prop := fun pn ds R => ∃ b : Nat, ds = [] ∧ Pn b pn ∧ b ≤ 8000 ∧ ∀ (i : Int) pn', 3 ≤ i → i ≤ 40 → Pn (b + 4) pn' → R (.int i) pn'
def pNoSz : List Int → List D → (D → List Int → Prop) → Prop := fun pn ds R => ∃ b : Nat, ds = [] ∧ Pn b pn ∧ b ≤ 8000 ∧ ∀ x pn', NoS x → Pn (b + 10) pn' → R x pn'
def pPic : List Int → List D → (D → List Int → Prop) → Prop := fun pn ds R => ∃ (b : Nat) (w h : Int), ds = [eT [w, h]] ∧ Sz w h ∧ Pn b pn ∧ b ≤ 7000 ∧ ∀ (xs : List (List Int)) pn', (∀ p ∈ xs, Pr p) → xs.length ≤ 13 → Pn (b + 60) pn' → R (eL xs) pn'
section
variable {P : Program} {w : World} {K : PySem.W.Frag} {mg : Str → Option Value} {base : Heap}
theorem ok_far (S : Src K mg "_law_far" sLFar) (T : Txt mg) (E_law_draw : Has P w K mg base 1 "_law_draw" ["_law_pen_here", "_law_many"] (spI K 0 pDraw)) : Has P w K mg base 2 "_law_far" ["_law_pen_here"] (spI K 0 pFar) := by
  refine has_I 0 S scLFar (fun _ _ _ _ _ _ us hl => match us, hl with | [_], _ => rfl) (fun ns ds R zq1 => by obtain ⟨_, e, _⟩ := zq1; rw [e]; rfl) fun f cdv A outer s H E hr => ⟨_, _, (vss_cons (vs_if (vt_cmp op_gt l_rI0 (ve_fnI E_law_draw hr (va_cons (ve_var 0 (pv 0)) (va_cons ve_int va_nil))) ve_int (nomark _)) (vss_one (vs_ret (ve_op op_sub l_rI0 (ve_fnI E_law_draw hr (va_cons (ve_var 0 (pv 0)) (va_cons ve_int va_nil))) ve_int))) vss_nil)
    (vss_one (vs_ret (ve_op op_mul l_rI (ve_op op_sub l_rI0 (ve_op op_pow l_rI ve_int ve_int) (ve_fnI E_law_draw hr (va_cons (ve_var 0 (pv 0)) (va_cons ve_int va_nil)))) (ve_op op_sub l_rI0 ve_int (ve_op op_mul l_rI ve_int (ve_fnI E_law_draw hr (va_cons (ve_var 0 (pv 0)) (va_cons ve_int va_nil))))))))), ?_⟩
  rintro a pn ds es R hl ⟨b, e, hpn, hb, q⟩
  obtain rfl : ds = [] := List.eq_nil_of_length_eq_zero hl
  obtain rfl : es = [] := e
  walk_at "sl"
  walk_at "rd"
  refine ⟨b, 6, rfl, hpn, by lia, by lia, by lia, fun pn1 r1 h1 r1a r1b => ?_⟩
  walk_at "rd"
  refine i_kIfd (fun c1 => ?_) (fun c1 => ?_)
  · walk_at "rd"
    refine ⟨b + 1, 9, rfl, h1, by lia, by lia, by lia, fun pn2 r2 h2 r2a r2b => ?_⟩
    walk_at "rd"
    exact ⟨_, rfl, q _ _ (h2.le (by lia))⟩
  · walk_at "rd"
    refine ⟨b + 1, 9, rfl, h1, by lia, by lia, by lia, fun pn2 r2 h2 r2a r2b => ?_⟩
    walk_at "rd"
    refine ⟨b + 2, 2, rfl, h2, by lia, by lia, by lia, fun pn3 r3 h3 r3a r3b => ?_⟩
    walk_at "rd"
    exact ⟨_, rfl, q _ _ (h3.le (by lia))⟩
theorem ok_side (S : Src K mg "_law_side" sLSide) (T : Txt mg) (E_law_draw : Has P w K mg base 1 "_law_draw" ["_law_pen_here", "_law_many"] (spI K 0 pDraw)) : Has P w K mg base 2 "_law_side" ["_law_pen_here"] (spI K 0 pSide) := by
  refine has_I 0 S scLSide (fun _ _ _ _ _ _ us hl => match us, hl with | [_], _ => rfl) (fun ns ds R zq1 => by obtain ⟨_, e, _⟩ := zq1; rw [e]; rfl) fun f cdv A outer s H E hr => ⟨_, _, (vss_cons (vs_set1 (i := 1) scLSide.nd rfl (Or.inl rfl) (ve_new (vn_lst (va_cons ve_int (va_cons ve_int (va_cons (ve_op op_add l_rI0 ve_int (ve_fnI E_law_draw hr (va_cons (ve_var 0 (pv 0)) (va_cons ve_int va_nil)))) (va_cons (ve_op op_add l_rI0 ve_int (ve_fnI E_law_draw hr (va_cons (ve_var 0 (pv 0)) (va_cons ve_int va_nil)))) (va_cons (ve_op op_add l_rI0 ve_int (ve_fnI E_law_draw hr (va_cons (ve_var 0 (pv 0)) (va_cons ve_int va_nil)))) va_nil))))))))
    (vss_one (vs_ret (ve_flat (ve_ix rfl (ve_var 1 (pv 1)) (ve_fnI E_law_draw hr (va_cons (ve_var 0 (pv 0)) (va_cons ve_int va_nil))) (fun _ _ => rfl)))))), ?_⟩
  rintro a pn ds es R hl ⟨b, e, hpn, hb, q⟩
  obtain rfl : ds = [] := List.eq_nil_of_length_eq_zero hl
  obtain rfl : es = [] := e
  walk_at "sl"
  walk_at "rd"
  refine ⟨b, 38, rfl, hpn, by lia, by lia, by lia, fun pn1 r1 h1 r1a r1b => ?_⟩
  walk_at "rd"
  refine ⟨b + 1, 4, rfl, h1, by lia, by lia, by lia, fun pn2 r2 h2 r2a r2b => ?_⟩
  walk_at "rd"
  refine ⟨b + 2, 7, rfl, h2, by lia, by lia, by lia, fun pn3 r3 h3 r3a r3b => ?_⟩
  walk_at "rd"
  refine ⟨b + 3, 5, rfl, h3, by lia, by lia, by lia, fun pn4 r4 h4 r4a r4b => ?_⟩
  have hr4 : r4 = 0 ∨ r4 = 1 ∨ r4 = 2 ∨ r4 = 3 ∨ r4 = 4 := by lia
  rcases hr4 with rfl | rfl | rfl | rfl | rfl
  all_goals (walk_at "rd"; exact ⟨_, rfl, q _ _ (by lia) (by lia) (h4.le (by lia))⟩)
theorem ok_nosz (S : Src K mg "_law_no_size" sLNoSize) (T : Txt mg) (E_law_draw : Has P w K mg base 1 "_law_draw" ["_law_pen_here", "_law_many"] (spI K 0 pDraw)) (E_law_side : Has P w K mg base 2 "_law_side" ["_law_pen_here"] (spI K 0 pSide)) : Has P w K mg base 3 "_law_no_size" ["_law_pen_here"] (spI K 0 pNoSz) := by
  refine has_I 0 S scLNoSize (fun _ _ _ _ _ _ us hl => match us, hl with | [_], _ => rfl) (fun ns ds R zq1 => by obtain ⟨_, e, _⟩ := zq1; rw [e]; rfl) fun f cdv A outer s H E hr => ⟨_, _, (vss_cons (vs_set1 (i := 1) scLNoSize.nd rfl (Or.inl rfl) (ve_fnI E_law_side hr (va_cons (ve_var 0 (pv 0)) va_nil)))
    (vss_cons (vs_setN (fun _ h => ps_set (i := 2) scLNoSize.nd rfl (Or.inl rfl) h) (vn_lst (va_cons ve_int (va_cons ve_int (va_cons (ve_un un_neg ve_int) (va_cons ve_int (va_cons (ve_op op_sub l_rI0 (ve_op op_pow l_rI ve_int ve_int) ve_int) (va_cons ve_bl (va_cons ve_non (va_cons ve_str (va_cons (ve_new (vn_lst (va_cons ve_int va_nil))) (va_cons (ve_tup (va_cons ve_int va_nil)) (va_cons (ve_op op_add l_rI0 ve_int (ve_fnI E_law_draw hr (va_cons (ve_var 0 (pv 0)) (va_cons (ve_op op_pow l_rI ve_int ve_int) va_nil)))) (va_cons (ve_op op_sub l_rI0 ve_int (ve_op op_pow l_rI ve_int ve_int)) va_nil))))))))))))))
    (vss_cons (vs_setF (i := 3) scLNoSize.nd rfl (Or.inl rfl) (ve_ixO 2 rfl (pv 2) (ve_fnI E_law_draw hr (va_cons (ve_var 0 (pv 0)) (va_cons ve_int va_nil))) (fun _ _ => rfl)))
    (vss_cons (vs_setN (fun _ h => ps_set (i := 4) scLNoSize.nd rfl (Or.inl rfl) h) (vn_lst (va_cons (ve_tup (va_cons (ve_flat (ve_var 1 (pv 1))) (va_cons (ve_varF 3 (pv 3)) va_nil))) (va_cons (ve_tup (va_cons (ve_varF 3 (pv 3)) (va_cons (ve_flat (ve_var 1 (pv 1))) va_nil))) (va_cons (ve_tup (va_cons (ve_varF 3 (pv 3)) (va_cons (ve_varF 3 (pv 3)) va_nil))) (va_cons (ve_new (vn_lst (va_cons (ve_flat (ve_var 1 (pv 1))) (va_cons (ve_flat (ve_var 1 (pv 1))) va_nil)))) (va_cons (ve_tup (va_cons (ve_flat (ve_var 1 (pv 1))) va_nil)) (va_cons (ve_tup (va_cons (ve_flat (ve_var 1 (pv 1))) (va_cons (ve_flat (ve_var 1 (pv 1))) (va_cons (ve_flat (ve_var 1 (pv 1))) va_nil)))) (va_cons ve_non (va_cons (ve_flat (ve_var 1 (pv 1))) (va_cons ve_str (va_cons (ve_tup va_nil) va_nil))))))))))))
    (vss_one (vs_ret (ve_ixN rfl (vn_cat 4 (pv 4) (vn_lst (va_cons ve_bl (va_cons ve_str (va_cons (ve_dict2 (ve_var 1 (pv 1)) (ve_var 3 (pv 3)) (ve_op op_sub l_rI0 ve_int (ve_var 1 (pv 1))) ve_int) va_nil))))) (ve_fnI E_law_draw hr (va_cons (ve_var 0 (pv 0)) (va_cons ve_int va_nil))) (fun _ _ => rfl)))))))), ?_⟩
  rintro a pn ds es R hl ⟨b, e, hpn, hb, q⟩
  obtain rfl : ds = [] := List.eq_nil_of_length_eq_zero hl
  obtain rfl : es = [] := e
  walk_at "sl"
  walk_at "rd"
  refine ⟨b, rfl, hpn, by lia, fun g pn1 ga gb h1 => ?_⟩
  walk_at "rd"
  refine ⟨b + 4, _, rfl, h1, by lia, by lia, by lia, fun pn2 r2 h2 r2a r2b => ?_⟩
  walk_at "rd"
  refine ⟨b + 5, 12, rfl, h2, by lia, by lia, by lia, fun pn3 r3 h3 r3a r3b => ?_⟩
  have ho : ∃ o, atI [D.int 2, D.int 0, ofV (V.int (-3)), D.int 41, ofV (V.int (10 ^ Int.toNat 60 - 1)), D.bl true, D.non, D.str "5", D.lst [D.int 5], D.tup [D.int 5], ofV (V.int (41 + r2)), ofV (V.int (3 - 10 ^ Int.toNat 30))] r3 = some o ∧ Od o := by
    have hr3 : r3 = 0 ∨ r3 = 1 ∨ r3 = 2 ∨ r3 = 3 ∨ r3 = 4 ∨ r3 = 5 ∨ r3 = 6 ∨ r3 = 7 ∨ r3 = 8 ∨ r3 = 9 ∨ r3 = 10 ∨ r3 = 11 := by lia
    rcases hr3 with rfl | rfl | rfl | rfl | rfl | rfl | rfl | rfl | rfl | rfl | rfl | rfl
    · exact ⟨_, rfl, .inl ⟨_, rfl, by lia⟩⟩
    · exact ⟨_, rfl, .inl ⟨_, rfl, by lia⟩⟩
    · exact ⟨_, rfl, .inl ⟨_, rfl, by lia⟩⟩
    · exact ⟨_, rfl, .inl ⟨_, rfl, by lia⟩⟩
    · exact ⟨_, rfl, .inl ⟨_, rfl, by decide +kernel⟩⟩
    · exact ⟨_, rfl, .inr (.inl ⟨_, rfl⟩)⟩
    · exact ⟨_, rfl, .inr (.inr (.inl rfl))⟩
    · exact ⟨_, rfl, .inr (.inr (.inr (.inl ⟨_, rfl⟩)))⟩
    · exact ⟨_, rfl, .inr (.inr (.inr (.inr (.inl rfl))))⟩
    · exact ⟨_, rfl, .inr (.inr (.inr (.inr (.inr rfl))))⟩
    · exact ⟨_, rfl, .inl ⟨_, rfl, by lia⟩⟩
    · exact ⟨_, rfl, .inl ⟨_, rfl, by decide +kernel⟩⟩
  obtain ⟨o, eo, od⟩ := ho
  refine j_kIxO rfl rfl eo ?_
  refine j_kSetF (Nat.le_of_ble_eq_true rfl) ?_
  dsimp only [List.set_cons_zero, List.set_cons_succ]
  walk_at "rd"
  refine j_kCat rfl (Nat.le_of_ble_eq_true rfl) ?_
  walk_at "rd"
  refine ⟨b + 6, 13, rfl, h3, by lia, by lia, by lia, fun pn4 r4 h4 r4a r4b => ?_⟩
  have gg : ∃ g' : Int, 3 ≤ g' ∧ g' ≤ 40 ∧ D.int g = .int g' := ⟨g, ga, gb, rfl⟩
  have hr4 : r4 = 0 ∨ r4 = 1 ∨ r4 = 2 ∨ r4 = 3 ∨ r4 = 4 ∨ r4 = 5 ∨ r4 = 6 ∨ r4 = 7 ∨ r4 = 8 ∨ r4 = 9 ∨ r4 = 10 ∨ r4 = 11 ∨ r4 = 12 := by lia
  rcases hr4 with rfl | rfl | rfl | rfl | rfl | rfl | rfl | rfl | rfl | rfl | rfl | rfl | rfl
  all_goals (refine j_kIxN2 rfl rfl ?_; walk_at "rd"; refine ⟨_, rfl, q _ _ ?_ (h4.le (by lia))⟩)
  · exact .inr ⟨_, _, rfl, .inl ⟨gg, od⟩⟩
  · exact .inr ⟨_, _, rfl, .inr (.inl ⟨od, gg⟩)⟩
  · exact .inr ⟨_, _, rfl, .inr (.inr ⟨od, od⟩)⟩
  · exact .inl (.inr (.inr (.inr (.inr (.inl ⟨_, rfl⟩)))))
  · exact .inl (.inr (.inr (.inr (.inr (.inr (.inl ⟨_, rfl, by simp⟩))))))
  · exact .inl (.inr (.inr (.inr (.inr (.inr (.inl ⟨_, rfl, by simp⟩))))))
  · exact .inl (.inr (.inr (.inl rfl)))
  · exact .inl (.inl ⟨_, rfl⟩)
  · exact .inl (.inr (.inr (.inr (.inl ⟨_, rfl⟩))))
  · exact .inl (.inr (.inr (.inr (.inr (.inr (.inl ⟨_, rfl, by simp⟩))))))
  · exact .inl (.inr (.inl ⟨_, rfl⟩))
  · exact .inl (.inr (.inr (.inr (.inl ⟨_, rfl⟩))))
  · exact .inl (.inr (.inr (.inr (.inr (.inr (.inr rfl))))))
theorem ok_pic (S : Src K mg "_law_picture" sLPicture) (T : Txt mg) (E_law_draw : Has P w K mg base 1 "_law_draw" ["_law_pen_here", "_law_many"] (spI K 0 pDraw)) (E_law_far : Has P w K mg base 2 "_law_far" ["_law_pen_here"] (spI K 0 pFar)) : Has P w K mg base 3 "_law_picture" ["_law_pen_here", "_law_size"] (spI K 0 pPic) := by
  refine has_I 0 S scLPicture (fun _ _ _ _ _ _ us hl => match us, hl with | [_, _], _ => rfl) (fun ns ds R zq1 => by obtain ⟨_, _, _, e, _⟩ := zq1; rw [e]; rfl) fun f cdv A outer s H E hr => ⟨_, _, (vss_cons (vs_set1 (i := 2) scLPicture.nd rfl (Or.inl rfl) (ve_fnI E_law_far hr (va_cons (ve_var 0 (pv 0)) va_nil)))
    (vss_cons (vs_set1 (i := 3) scLPicture.nd rfl (Or.inl rfl) (ve_fnI E_law_far hr (va_cons (ve_var 0 (pv 0)) va_nil)))
    (vss_cons (vs_set1 (i := 4) scLPicture.nd rfl (Or.inl rfl) (ve_op op_mul l_rI ve_int (ve_op op_fdiv l_rI (ve_fnI E_law_draw hr (va_cons (ve_var 0 (pv 0)) (va_cons ve_int va_nil))) ve_int)))
    (vss_cons (vs_set1 (i := 5) scLPicture.nd rfl (Or.inl rfl) (ve_op op_add l_rI0 ve_int (ve_fnI E_law_draw hr (va_cons (ve_var 0 (pv 0)) (va_cons (ve_op op_add l_rI0 (ve_ix rfl (ve_var 1 (pv 1)) ve_int (fun _ _ => rfl)) (ve_var 4 (pv 4))) va_nil)))))
    (vss_cons (vs_set1 (i := 6) scLPicture.nd rfl (Or.inl rfl) (ve_op op_add l_rI0 ve_int (ve_fnI E_law_draw hr (va_cons (ve_var 0 (pv 0)) (va_cons (ve_op op_add l_rI0 (ve_ix rfl (ve_var 1 (pv 1)) ve_int (fun _ _ => rfl)) (ve_var 4 (pv 4))) va_nil)))))
    (vss_cons (vs_setN (fun _ h => ps_set (i := 7) scLPicture.nd rfl (Or.inl rfl) h) (vn_lst va_nil))
    (vss_cons (vs_for PassesOwn.never rfl (vi_range1 rfl T.range (va_cons (ve_fnI E_law_draw hr (va_cons (ve_var 0 (pv 0)) (va_cons ve_int va_nil))) va_nil)) (vg_name (pg_name (i := 8) scLPicture.nd rfl (Or.inl rfl) (Or.inl rfl))) (vss_cons (vs_set1 (i := 9) scLPicture.nd rfl (Or.inl rfl) (ve_tup (va_cons (ve_op op_add l_rI0 (ve_var 2 (pv 2)) (ve_fnI E_law_draw hr (va_cons (ve_var 0 (pv 0)) (va_cons (ve_var 5 (pv 5)) va_nil)))) (va_cons (ve_op op_add l_rI0 (ve_var 3 (pv 3)) (ve_fnI E_law_draw hr (va_cons (ve_var 0 (pv 0)) (va_cons (ve_var 6 (pv 6)) va_nil)))) va_nil))))
    (vss_one (vs_if (vt_cmp (op_notInD (K := K) rfl hr.units) l_inD (ve_var 9 (pv 9)) (ve_var 7 (pv 7)) (by with_unfolding_all rfl)) (vss_one (vs_expr (ve_app 7 rfl (pv 7) (ve_flat (ve_var 9 (pv 9)))))) vss_nil))))
    (vss_cons (vs_if (vw_pt (vw_and (vt_cmp op_gt l_rI0 (ve_callB (c_len (K := K) rfl) l_len (by rfl) T.len_ bt_len (va_cons (ve_var 7 (pv 7)) va_nil)) ve_int (nomark _)) (vw_and1 (vt_cmp op_eq l_eq (ve_fnI E_law_draw hr (va_cons (ve_var 0 (pv 0)) (va_cons ve_int va_nil))) ve_int (nomark _))))) (vss_cons (vs_set1 (i := 9) scLPicture.nd rfl (Or.inl rfl) (ve_tup (va_cons (ve_op op_add l_rI0 (ve_ix rfl (ve_ix rfl (ve_var 7 (pv 7)) ve_int (fun _ _ => rfl)) ve_int (fun _ _ => rfl)) (ve_op op_mul l_rI (ve_ix rfl (ve_var 1 (pv 1)) ve_int (fun _ _ => rfl)) (ve_op op_sub l_rI0 (ve_fnI E_law_draw hr (va_cons (ve_var 0 (pv 0)) (va_cons ve_int va_nil))) ve_int))) (va_cons (ve_op op_add l_rI0 (ve_ix rfl (ve_ix rfl (ve_var 7 (pv 7)) ve_int (fun _ _ => rfl)) ve_int (fun _ _ => rfl)) (ve_op op_mul l_rI (ve_ix rfl (ve_var 1 (pv 1)) ve_int (fun _ _ => rfl)) (ve_op op_sub l_rI0 (ve_fnI E_law_draw hr (va_cons (ve_var 0 (pv 0)) (va_cons ve_int va_nil))) ve_int))) va_nil))))
    (vss_one (vs_if (vt_cmp (op_notInD (K := K) rfl hr.units) l_inD (ve_var 9 (pv 9)) (ve_var 7 (pv 7)) (by with_unfolding_all rfl)) (vss_one (vs_expr (ve_app 7 rfl (pv 7) (ve_flat (ve_var 9 (pv 9)))))) vss_nil))) vss_nil)
    (vss_one (vs_ret (ve_new (vn_sortU rfl rfl (by rfl) T.sorted_ bt_sorted (va_cons (ve_var 7 (pv 7)) va_nil))))))))))))), ?_⟩
  rintro a pn ds es R hl ⟨b, w, h, e, hs, hpn, hb, q⟩
  obtain rfl : ds = [] := List.eq_nil_of_length_eq_zero hl
  obtain rfl : es = [eT [w, h]] := e
  have hs' := hs
  obtain ⟨s1, s2, s3, s4⟩ := hs'
  walk_at "sl"
  walk_at "rd"
  refine ⟨b, rfl, hpn, by lia, fun l pn1 h1 => ?_⟩
  walk_at "rd"
  refine ⟨b + 3, rfl, h1, by lia, fun t pn2 h2 => ?_⟩
  walk_at "rd"
  refine ⟨b + 6, 3, rfl, h2, by lia, by lia, by lia, fun pn3 r3 h3 r3a r3b => ?_⟩
  walk_at "rd"
  generalize hm : 3 * (r3 / 2) = m
  have m0 : 0 ≤ m := by lia
  have m1 : m ≤ 10 := by lia
  refine ⟨b + 7, _, rfl, h3, by lia, by show (0 : Int) < w + m; lia, by show w + m < 1073741824; lia, fun pn4 r4 h4 r4a r4b => ?_⟩
  walk_at "rd"
  refine ⟨b + 8, _, rfl, h4, by lia, by show (0 : Int) < h + m; lia, by show h + m < 1073741824; lia, fun pn5 r5 h5 r5a r5b => ?_⟩
  walk_at "rd"
  refine ⟨b + 9, 13, rfl, h5, by lia, by lia, by lia, fun pn6 r6 h6 r6a r6b => ?_⟩
  walk_at "rd"
  refine i_kForR (fun i S => ∃ pn mss v8 v9, S = [.pen (some a) pn, .val (eT [w, h]), .val (.int l), .val (.int t), .val (.int m), .val (.int (1 + r4)), .val (.int (1 + r5)), .own (mss.map eT), v8, v9] ∧ Pn (b + 10 + 2 * i) pn ∧ mss.length ≤ i ∧ ∀ ms ∈ mss, Pr ms) ⟨pn6, [], _, _, rfl, h6, by simp, by simp⟩ ?_ ?_
  · rintro i S hi ⟨pn, mss, v8, v9, rfl, g1, gl, g3⟩
    walk_at "rd"
    refine ⟨_, 1 + r4, rfl, g1, by lia, by lia, by lia, fun pn7 x g7 xa xb => ?_⟩
    walk_at "rd"
    refine ⟨_, 1 + r5, rfl, g7, by lia, by lia, by lia, fun pn8 y g8 ya yb => ?_⟩
    walk_at "rd"
    rw [show D.tup [.int (l + x), .int (t + y)] = eT [l + x, t + y] from rfl]
    by_cases hin : [l + x, t + y] ∈ mss
    · refine i_niF enc_eT hin ?_
      walk_at "rc"
      exact ⟨pn8, mss, _, _, rfl, g8, by lia, g3⟩
    · refine i_niT enc_eT hin ?_
      walk_at "rc"
      refine ⟨pn8, mss ++ [[l + x, t + y]], _, _, by rw [List.map_append]; rfl, g8, by rw [List.length_append, List.length_singleton]; lia, fun ms hm => ?_⟩
      rcases List.mem_append.mp hm with hm | hm
      · exact g3 ms hm
      · exact ⟨_, _, by simpa using hm⟩
  · rintro S ⟨pn, mss, v8, v9, rfl, g1, gl, g3⟩
    walk_at "rd"
    rw [List.length_map]
    match mss, gl, g3 with
    | [], gl, g3 =>
      refine c_andF rfl ?_
      walk_at "rc"
      walk_at "rd"
      refine j_kSortU (mss := []) rfl (fun ms hm => by obtain ⟨x, y, rfl⟩ := g3 ms hm; simp) ?_
      walk_at "rd"
      exact ⟨_, rfl, q _ _ (fun p hp => g3 p ((srt_perm _).mem_iff.mp hp)) (by rw [(srt_perm _).length_eq]; lia) (g1.le (by lia))⟩
    | c :: cs, gl, g3 =>
      obtain ⟨cx, cy, rfl⟩ := g3 c List.mem_cons_self
      refine c_andT (decide_eq_true (by rw [List.length_cons]; lia)) ?_
      walk_at "rd"
      refine ⟨_, 5, rfl, g1, by lia, by lia, by lia, fun pn7 r7 h7 r7a r7b => ?_⟩
      walk_at "rd"
      refine i_kIfd (fun c1 => ?_) (fun c1 => ?_)
      · walk_at "rd"
        refine j_ixL rfl rfl at_0 ?_
        walk_at "rd"
        refine ⟨_, 5, rfl, h7, by lia, by lia, by lia, fun pn8 r8 h8 r8a r8b => ?_⟩
        walk_at "rd"
        refine j_ixL rfl rfl at_0 ?_
        walk_at "rd"
        refine ⟨_, 5, rfl, h8, by lia, by lia, by lia, fun pn9 r9 h9 r9a r9b => ?_⟩
        walk_at "rd"
        change wInD true (eT [cx + w * (r8 - 2), cy + h * (r9 - 2)]) (eL ([cx, cy] :: cs)) _
        by_cases hin : [cx + w * (r8 - 2), cy + h * (r9 - 2)] ∈ [cx, cy] :: cs
        · refine i_niF enc_eT hin ?_
          walk_at "rc"
          walk_at "rd"
          refine j_kSortU (mss := [cx, cy] :: cs) rfl (fun ms hm => by obtain ⟨x, y, rfl⟩ := g3 ms hm; simp) ?_
          walk_at "rd"
          exact ⟨_, rfl, q _ _ (fun p hp => g3 p ((srt_perm _).mem_iff.mp hp)) (by rw [(srt_perm _).length_eq]; lia) (h9.le (by lia))⟩
        · refine i_niT enc_eT hin ?_
          have g4 : ∀ ms ∈ ([cx, cy] :: cs) ++ [[cx + w * (r8 - 2), cy + h * (r9 - 2)]], Pr ms := fun ms hm => by
            rcases List.mem_append.mp hm with hm | hm
            · exact g3 ms hm
            · exact ⟨_, _, by simpa using hm⟩
          walk_at "rc"
          refine j_kApp (ds := List.map eT ([cx, cy] :: cs)) rfl (by rw [List.length_map]; lia) ?_
          dsimp only [List.set_cons_zero, List.set_cons_succ]
          rw [show (List.map eT ([cx, cy] :: cs) ++ [D.tup [ofV (V.int (cx + w * (r8 - 2))), ofV (V.int (cy + h * (r9 - 2)))]]) = (([cx, cy] :: cs) ++ [[cx + w * (r8 - 2), cy + h * (r9 - 2)]]).map eT by rw [List.map_append]; rfl]
          walk_at "rd"
          refine j_kSortU (mss := ([cx, cy] :: cs) ++ [[cx + w * (r8 - 2), cy + h * (r9 - 2)]]) rfl (fun ms hm => by obtain ⟨x, y, rfl⟩ := g4 ms hm; simp) ?_
          walk_at "rd"
          exact ⟨_, rfl, q _ _ (fun p hp => g4 p ((srt_perm _).mem_iff.mp hp)) (by rw [(srt_perm _).length_eq, List.length_append, List.length_singleton]; lia) (h9.le (by lia))⟩
      · walk_at "rd"
        walk_at "rd"
        refine j_kSortU (mss := [cx, cy] :: cs) rfl (fun ms hm => by obtain ⟨x, y, rfl⟩ := g3 ms hm; simp) ?_
        walk_at "rd"
        exact ⟨_, rfl, q _ _ (fun p hp => g3 p ((srt_perm _).mem_iff.mp hp)) (by rw [(srt_perm _).length_eq]; lia) (h7.le (by lia))⟩
end
end My


namespace My
open PySem L2 VL
def pAsk : List D → (D → Prop) → Prop := fun ds R => (∃ (way : Int) (x : D) (xs : List (List Int)), ds = [.int way, x, eL xs] ∧ NoS x ∧ R (.tup [.non, .str "size"])) ∨
  ∃ (w h : Int) (xs : List (List Int)), ds = [.int 0, eT [w, h], eL xs] ∧ Sz w h ∧ (∀ p ∈ xs, Pr p) ∧ xs.length ≤ 1000 ∧ ((xs.map (rmv w h 0 0)).Nodup ∧ R (.tup [eL (rMv w h 0 0 xs), .str ""]) ∨ ¬(xs.map (rmv w h 0 0)).Nodup ∧ R (.tup [.non, .str "folded"]))
section
variable {P : Program} {w : World} {K : PySem.W.Frag} {mg : Str → Option Value} {base : Heap}
theorem ok_ask {c_NoSize c_CellError c_Folded c_Loud c_NoLine c_NoName c_NoNumber c_NoRest c_NoRule c_NoText c_NoThing c_Outside c_TooWide : Addr} (S : Src K mg "_law_asked" sLAsked) (T : Txt mg) (E_wrapped : Has P w K mg base 6 "wrapped" ["size", "picture"] (spP K pWr))
    (EX_wrapped : HasX P w K mg base 6 "wrapped" ["size", "picture"] (bdW c_NoSize c_Folded)) (EX_ring_next : HasX P w K mg base 5 "ring_next" ["rule", "size", "picture"] (bdS c_NoSize 3 1)) (EX_ring_after : HasX P w K mg base 5 "ring_after" ["rule", "size", "picture", "many"] (bdS c_NoSize 4 1)) (EX_ring_moved : HasX P w K mg base 5 "ring_moved" ["size", "picture", "move"] (bdS c_NoSize 3 0))
    (g_CellError : mg "CellError" = some (.ref c_CellError)) (g_ValueError : mg "ValueError" = none) (g_Folded : mg "Folded" = some (.ref c_Folded)) (g_Loud : mg "Loud" = some (.ref c_Loud)) (g_NoLine : mg "NoLine" = some (.ref c_NoLine)) (g_NoName : mg "NoName" = some (.ref c_NoName)) (g_NoNumber : mg "NoNumber" = some (.ref c_NoNumber))
    (g_NoRest : mg "NoRest" = some (.ref c_NoRest)) (g_NoRule : mg "NoRule" = some (.ref c_NoRule)) (g_NoSize : mg "NoSize" = some (.ref c_NoSize)) (g_NoText : mg "NoText" = some (.ref c_NoText)) (g_NoThing : mg "NoThing" = some (.ref c_NoThing)) (g_Outside : mg "Outside" = some (.ref c_Outside)) (g_TooWide : mg "TooWide" = some (.ref c_TooWide))
    (s1 : PySem.W.exmOne K (.ref c_NoSize) (.ref c_CellError) = some true) (s2 : excOk K c_NoSize = true) (s3 : PySem.W.kitOne K (.ref c_NoSize) (.ref c_NoSize) = some true) (s4 : PySem.W.kitOne K (.ref c_NoSize) (.ref c_Folded) = some false) (s5 : PySem.W.kitOne K (.ref c_NoSize) (.type "ValueError") = some true)
    (s6 : PySem.W.kitAny K (.ref c_NoSize) [.ref c_Loud, .ref c_NoLine, .ref c_NoName, .ref c_NoNumber, .ref c_NoRest, .ref c_NoRule, .ref c_NoText, .ref c_NoThing, .ref c_Outside, .ref c_TooWide] = some false)
    (f1 : PySem.W.exmOne K (.ref c_Folded) (.ref c_CellError) = some true) (f2 : excOk K c_Folded = true) (f3 : PySem.W.kitOne K (.ref c_Folded) (.ref c_NoSize) = some false) (f4 : PySem.W.kitOne K (.ref c_Folded) (.ref c_Folded) = some true) (f5 : PySem.W.kitOne K (.ref c_Folded) (.type "ValueError") = some true)
    (f6 : PySem.W.kitAny K (.ref c_Folded) [.ref c_Loud, .ref c_NoLine, .ref c_NoName, .ref c_NoNumber, .ref c_NoRest, .ref c_NoRule, .ref c_NoText, .ref c_NoThing, .ref c_Outside, .ref c_TooWide] = some false) : Has P w K mg base 7 "_law_asked" ["_law_way", "_law_size", "_law_live"] (spP K pAsk) := by
  refine has_P S scLAsked (fun _ _ _ _ _ _ us hl => match us, hl with | [_, _, _], _ => rfl) (fun ds R h => by rcases h with ⟨_, _, _, e, _⟩ | ⟨_, _, _, e, _⟩ <;> (rw [e]; rfl)) fun f cdv A outer s H E hr => ⟨_, _, (vss_cons (vs_set1 (i := 3) scLAsked.nd rfl (Or.inl rfl) (ve_tup (va_cons ve_int (va_cons (ve_tup (va_cons ve_int va_nil)) (va_cons (ve_tup (va_cons ve_int (va_cons ve_int va_nil))) va_nil)))))
    (vss_cons (vs_setF (i := 4) scLAsked.nd rfl (Or.inl rfl) (ve_tup (va_cons ve_non (va_cons ve_str va_nil))))
    (vss_cons (vs_alt (vs_tryN (vss_one (vs_if (vt_cmp op_eq l_eq (ve_var 0 (pv 0)) ve_int (nomark _)) (vss_one (vs_setF (i := 4) scLAsked.nd rfl (Or.inl rfl) (ve_tup (va_cons (ve_fn E_wrapped hr (va_cons (ve_var 1 (pv 1)) (va_cons (ve_var 2 (pv 2)) va_nil))) (va_cons ve_str va_nil))))) (vss_one (vs_if (vt_cmp op_eq l_eq (ve_var 0 (pv 0)) ve_int (nomark _)) vss_never (vss_one (vs_if (vt_cmp op_eq l_eq (ve_var 0 (pv 0)) ve_int (nomark _)) vss_never vss_never)))))) (fun _ _ h => h)) (vs_tryX (i := 5) (fun _ _ _ _ TH => (vx_ifE (vt_cmp op_eq l_eq (ve_var 0 (pv 0)) ve_int (nomark _)) (vx_asgT (i := 4) TH EX_wrapped rfl hr (va_cons (ve_var 1 (pv 1)) (va_cons (ve_var 2 (pv 2)) va_nil)) (ve_str (K := K) (m := false)).pe scLAsked.nd rfl (Or.inl rfl)) (vx_ifE (vt_cmp op_eq l_eq (ve_var 0 (pv 0)) ve_int (nomark _)) (vx_asgT (i := 4) TH EX_ring_next rfl hr (va_cons (ve_var 3 (pv 3)) (va_cons (ve_var 1 (pv 1)) (va_cons (ve_var 2 (pv 2)) va_nil))) (ve_str (K := K) (m := false)).pe scLAsked.nd rfl (Or.inl rfl)) (vx_ifE (vt_cmp op_eq l_eq (ve_var 0 (pv 0)) ve_int (nomark _)) (vx_asgT (i := 4) TH EX_ring_after rfl hr (va_cons (ve_tup (va_cons ve_int (va_cons (ve_tup (va_cons ve_int (va_cons ve_int va_nil))) (va_cons (ve_tup va_nil) va_nil)))) (va_cons (ve_var 1 (pv 1)) (va_cons (ve_var 2 (pv 2)) (va_cons ve_int va_nil)))) (ve_str (K := K) (m := false)).pe scLAsked.nd rfl (Or.inl rfl)) (vx_asgT (i := 4) TH EX_ring_moved rfl hr (va_cons (ve_var 1 (pv 1)) (va_cons (ve_var 2 (pv 2)) (va_cons (ve_tup (va_cons ve_int (va_cons (ve_un un_neg ve_int) va_nil))) va_nil))) (ve_str (K := K) (m := false)).pe scLAsked.nd rfl (Or.inl rfl)))))) rfl g_CellError (fun y => (vss_cons (vs_set1 (i := 6) scLAsked.nd rfl (Or.inl rfl) (ve_isiT (i := 5) rfl (pa_refs g_Loud (pa_refs g_NoLine (pa_refs g_NoName (pa_refs g_NoNumber (pa_refs g_NoRest (pa_refs g_NoRule (pa_refs g_NoText (pa_refs g_NoThing (pa_refs g_Outside (pa_refs g_TooWide pa_refs0)))))))))) (by simp) rfl (Or.inl rfl) (by rfl) T.isinstance_))
    (vss_cons (vs_set1 (i := 7) scLAsked.nd rfl (Or.inl rfl) (ve_op op_catS l_catS (ve_op op_mulS l_mulS ve_str (ve_callTy call_int1 l_int (by rfl) T.int_ bt_int (va_cons (ve_isiE (i := 5) (c := .ref c_NoSize) rfl rfl (pe_glob (by rfl) g_NoSize rfl) rfl (Or.inl rfl) (by rfl) T.isinstance_) va_nil))) (ve_op op_mulS l_mulS ve_str (ve_callTy call_int1 l_int (by rfl) T.int_ bt_int (va_cons (ve_isiE (i := 5) (c := .ref c_Folded) rfl rfl (pe_glob (by rfl) g_Folded rfl) rfl (Or.inl rfl) (by rfl) T.isinstance_) va_nil)))))
    (vss_one (vs_setF (i := 4) scLAsked.nd rfl (Or.inl rfl) (ve_tup (va_cons ve_non (va_cons (ve_op op_catS l_catS (ve_var 7 (pv 7)) (ve_op op_mulS l_mulS ve_str (ve_callTy call_int1 l_int (by rfl) T.int_ bt_int (va_cons (ve_or (ve_var 6 (pv 6)) (ve_one (ve_not (ve_isiE (i := 5) (c := .type "ValueError") rfl rfl (pe_bltn (by rfl) g_ValueError PyProof.Rows.Boot.«ValueError» rfl) rfl (Or.inl rfl) (by rfl) T.isinstance_)))) va_nil)))) va_nil)))))))) (fun _ _ h => h) rfl rfl rfl scLAsked.nd rfl rfl))
    (vss_one (vs_ret (ve_varF 4 (pv 4))))))), ?_⟩
  rintro ds R (⟨way, x, xs, rfl, hx, q⟩ | ⟨w, h, xs, rfl, hs, hp, hl, q⟩)
  · walk_at "sl"
    walk_at "rd"
    refine j_kSetF (Nat.le_of_ble_eq_true rfl) ?_
    dsimp only [List.set_cons_zero, List.set_cons_succ]
    walk_at "rd"
    refine .inr (j_tryX c_NoSize (Nat.le_of_ble_eq_true rfl) s1 (fun Wc hW => ?_) ?_)
    · show vTest _ [.val (.int way), .val x, .val (eL xs), .val (D.tup [D.int 8, D.tup [D.int 3], D.tup [D.int 2, D.int 3]]), .val (D.tup [.non, .str ""]), .no, .no, .no] _
      walk_at "rd"
      by_cases w0 : way = 0
      · rw [decide_eq_true w0, if_pos rfl]
        walk_at "rd"
        exact ⟨_, _, rfl, .inl ⟨x, xs, rfl, hx, rfl⟩, hW⟩
      rw [decide_eq_false w0, if_neg Bool.false_ne_true]
      walk_at "rd"
      by_cases w1 : way = 1
      · rw [decide_eq_true w1, if_pos rfl]
        walk_at "rd"
        exact ⟨_, _, rfl, ⟨rfl, rfl, x, rfl, hx⟩, hW⟩
      rw [decide_eq_false w1, if_neg Bool.false_ne_true]
      walk_at "rd"
      by_cases w2 : way = 2
      · rw [decide_eq_true w2, if_pos rfl]
        walk_at "rd"
        exact ⟨_, _, rfl, ⟨rfl, rfl, x, rfl, hx⟩, hW⟩
      rw [decide_eq_false w2, if_neg Bool.false_ne_true]
      walk_at "rd"
      exact ⟨_, _, rfl, ⟨rfl, rfl, x, rfl, hx⟩, hW⟩
    · show vSeq _ _ _ [.no, .no, .no, .no, .no, .val (.exc (.ref c_NoSize)), .no, .no]
      walk_at "rd"
      refine j_isiT rfl s2 s6 ?_
      walk_at "rc"
      refine j_isiE rfl s2 s3 ?_
      walk_at "rc"
      refine j_intB ?_
      walk_at "rc"
      refine j_mulS true ?_
      walk_at "rc"
      refine j_isiE rfl s2 s4 ?_
      walk_at "rc"
      refine j_intB ?_
      walk_at "rc"
      refine j_mulS false ?_
      walk_at "rc"
      refine j_catSr rfl rfl ?_
      walk_at "rc"
      refine j_isiE rfl s2 s5 ?_
      walk_at "rc"
      refine j_intB ?_
      walk_at "rc"
      refine j_mulS false ?_
      walk_at "rc"
      refine j_catSr rfl rfl ?_
      walk_at "rc"
      refine j_kSetF (Nat.le_of_ble_eq_true rfl) ?_
      refine ⟨Nat.le_of_ble_eq_true rfl, ?_⟩
      dsimp only [List.set_cons_zero, List.set_cons_succ]
      walk_at "rc"
      exact q
  · have hs' := hs
    rcases q with ⟨nd, q⟩ | ⟨nd, q⟩
    · walk_at "sl"
      walk_at "rd"
      refine j_kSetF (Nat.le_of_ble_eq_true rfl) ?_
      dsimp only [List.set_cons_zero, List.set_cons_succ]
      walk_at "rd"
      left
      walk_at "rc"
      refine ⟨w, h, xs, rfl, hs, hp, hl, nd, ?_⟩
      walk_at "rc"
      refine j_kSetF (Nat.le_of_ble_eq_true rfl) ?_
      dsimp only [List.set_cons_zero, List.set_cons_succ]
      walk_at "rc"
      exact q
    · walk_at "sl"
      walk_at "rd"
      refine j_kSetF (Nat.le_of_ble_eq_true rfl) ?_
      dsimp only [List.set_cons_zero, List.set_cons_succ]
      walk_at "rd"
      refine .inr (j_tryX c_Folded (Nat.le_of_ble_eq_true rfl) f1 (fun Wc hW => ?_) ?_)
      · show vTest _ [.val (.int 0), .val (eT [w, h]), .val (eL xs), .val (D.tup [D.int 8, D.tup [D.int 3], D.tup [D.int 2, D.int 3]]), .val (D.tup [.non, .str ""]), .no, .no, .no] _
        walk_at "rd"
        rw [if_pos (by decide)]
        walk_at "rd"
        exact ⟨_, _, rfl, .inr ⟨w, h, xs, rfl, hs, hp, hl, nd, rfl⟩, hW⟩
      · show vSeq _ _ _ [.no, .no, .no, .no, .no, .val (.exc (.ref c_Folded)), .no, .no]
        walk_at "rd"
        refine j_isiT rfl f2 f6 ?_
        walk_at "rc"
        refine j_isiE rfl f2 f3 ?_
        walk_at "rc"
        refine j_intB ?_
        walk_at "rc"
        refine j_mulS false ?_
        walk_at "rc"
        refine j_isiE rfl f2 f4 ?_
        walk_at "rc"
        refine j_intB ?_
        walk_at "rc"
        refine j_mulS true ?_
        walk_at "rc"
        refine j_catSl rfl ?_
        walk_at "rc"
        refine j_isiE rfl f2 f5 ?_
        walk_at "rc"
        refine j_intB ?_
        walk_at "rc"
        refine j_mulS false ?_
        walk_at "rc"
        refine j_catSr rfl rfl ?_
        walk_at "rc"
        refine j_kSetF (Nat.le_of_ble_eq_true rfl) ?_
        refine ⟨Nat.le_of_ble_eq_true rfl, ?_⟩
        dsimp only [List.set_cons_zero, List.set_cons_succ]
        walk_at "rc"
        exact q
end
end My


namespace My
open PySem L2 VL
theorem at_L {L : List (List Int)} {j : Nat} (h : j < L.length) : atI (L.map eT) (j : Int) = some (eT (L.getD j [])) := atI_nat (by rw [List.getElem?_map, List.getElem?_eq_getElem h, List.getD_eq_getElem?_getD, List.getElem?_eq_getElem h]; rfl)
def twn (L : List (List Int)) : List Nat := (List.range (L.length - 1)).filter fun i => decide (L.getD (1 + i) [] = L.getD i [])
theorem twn_nil {L : List (List Int)} (h : L.Nodup) : twn L = [] := by
  refine List.filter_eq_nil_iff.mpr fun i hi => ?_
  have hi := List.mem_range.mp hi
  have h1 : 1 + i < L.length := by lia
  have h0 : i < L.length := by lia
  rw [decide_eq_true_eq, List.getD_eq_getElem?_getD, List.getD_eq_getElem?_getD, List.getElem?_eq_getElem h1, List.getElem?_eq_getElem h0]
  intro e
  have := (List.getElem_inj h).mp (show L[1 + i] = L[i] from e)
  lia
theorem twn_nodup {L : List (List Int)} (s : L.Pairwise fun a b => lexLe a b = true) (h : twn L = []) : L.Nodup := by
  have ne : ∀ i, (h1 : 1 + i < L.length) → L[1 + i] ≠ L[i]'(by lia) := fun i h1 e => by
    have := List.filter_eq_nil_iff.mp h i (List.mem_range.mpr (by lia))
    rw [decide_eq_true_eq, List.getD_eq_getElem?_getD, List.getD_eq_getElem?_getD, List.getElem?_eq_getElem h1, List.getElem?_eq_getElem (show i < L.length by lia)] at this
    exact this e
  rw [List.pairwise_iff_getElem] at s
  refine List.pairwise_iff_getElem.mpr fun i j hi hj hij e => ?_
  by_cases hj1 : j = 1 + i
  · subst hj1; exact ne i hj e.symm
  · have a := s i (1 + i) hi (by lia) (by lia)
    have b := s (1 + i) j (by lia) hj (by lia)
    rw [← e] at b
    exact ne i (by lia) (lexLe_anti _ _ b a)
def pRight : List D → (D → Prop) → Prop := fun ds R => ∃ (w h : Int) (xs : List (List Int)), ds = [eT [w, h], eL xs] ∧ Sz w h ∧ (∀ p ∈ xs, Pr p) ∧ xs.length ≤ 13 ∧ R (.bl true)
section
variable {P : Program} {w : World} {K : PySem.W.Frag} {mg : Str → Option Value} {base : Heap}
theorem ok_right (S : Src K mg "_law_right" sLRight) (T : Txt mg) (E_law_asked : Has P w K mg base 7 "_law_asked" ["_law_way", "_law_size", "_law_live"] (spP K pAsk)) : Has P w K mg base 8 "_law_right" ["_law_size", "_law_live"] (spP K pRight) := by
  refine has_P S scLRight (fun _ _ _ _ _ _ us hl => match us, hl with | [_, _], _ => rfl) (fun ds R zq1 => by obtain ⟨_, _, _, e, _⟩ := zq1; rw [e]; rfl) fun f cdv A outer s H E hr => ⟨_, _, (vss_cons (vs_set1 (i := 2) scLRight.nd rfl (Or.inl rfl) (ve_new (vn_list rfl (by rfl) T.list_ (va_cons (ve_var 1 (pv 1)) va_nil))))
    (vss_cons (vs_set1 (i := 3) scLRight.nd rfl (Or.inr rfl) (ve_new (vn_sortU rfl rfl (by rfl) T.sorted_ bt_sorted (va_cons (ve_new (vn_comp (tg := ["_law_x", "_law_y"]) (cs := ["_law_size"]) (ix := [0]) (comp_scope (defScope sLRight) ["_law_size", "_law_live", "_law_handed", "_law_due", "_law_turn", "_law_found"] (by decide +kernel)) rfl (keeps_two (by decide) (by decide)) (by decide) (vi_list rfl (ve_var 1 (pv 1))) (fun _ _ _ _ => (vg_tup (n := 2) rfl rfl (vgs_cons (vg_name (pg_name (i := 0) (show (["_law_x", "_law_y", "_law_size"] : List Str).Nodup by decide +kernel) rfl (Or.inl rfl) (by first | exact Or.inl rfl | exact Or.inr rfl))) (vgs_cons (vg_name (pg_name (i := 1) (show (["_law_x", "_law_y", "_law_size"] : List Str).Nodup by decide +kernel) rfl (Or.inl rfl) (by first | exact Or.inl rfl | exact Or.inr rfl))) vgs_nil)))) (fun _ _ _ _ => vts_nil) (fun _ _ _ _ => (ve_tup (va_cons (ve_op op_mod l_rI (ve_var 0 (pv 0)) (ve_ix rfl (ve_var 2 (pv 2)) ve_int (fun _ _ => rfl))) (va_cons (ve_op op_mod l_rI (ve_var 1 (pv 1)) (ve_ix rfl (ve_var 2 (pv 2)) ve_int (fun _ _ => rfl))) va_nil)))))) va_nil))))
    (vss_cons (vs_if (vt_cmp (op_neD (K := K) rfl hr.units) l_eqD (ve_new (vn_comp (tg := ["_law_at"]) (cs := ["_law_due"]) (ix := [3]) (comp_scope (defScope sLRight) ["_law_size", "_law_live", "_law_handed", "_law_due", "_law_turn", "_law_found"] (by decide +kernel)) rfl (keeps_name (by decide)) (by decide) (vi_range2 rfl T.range (va_cons ve_int (va_cons (ve_callB (c_len (K := K) rfl) l_len (by rfl) T.len_ bt_len (va_cons (ve_var 3 (pv 3)) va_nil)) va_nil))) (fun _ _ _ _ => (vg_name (pg_name (i := 0) (show (["_law_at", "_law_due"] : List Str).Nodup by decide +kernel) rfl (Or.inl rfl) (by first | exact Or.inl rfl | exact Or.inr rfl)))) (fun _ _ _ _ => (vts_one (vt_cmp (op_eqD (K := K) rfl hr.units) l_eqD (ve_ix rfl (ve_var 1 (pv 1)) (ve_var 0 (pv 0)) (fun _ _ => rfl)) (ve_ix rfl (ve_var 1 (pv 1)) (ve_op op_sub l_rI0 (ve_var 0 (pv 0)) ve_int) (fun _ _ => rfl)) (nomark _)))) (fun _ _ _ _ => ve_int))) (ve_new (vn_lst va_nil)) (nomark _)) (vss_one (vs_ret (ve_and (ve_cmp (op_eqD (K := K) rfl hr.units) l_eqD (ve_fn E_law_asked hr (va_cons ve_int (va_cons (ve_var 0 (pv 0)) (va_cons (ve_var 2 (pv 2)) va_nil)))) (ve_tup (va_cons ve_non (va_cons ve_str va_nil))) (nomark _)) (ve_one (ve_cmp (op_eqD (K := K) rfl hr.units) l_eqD (ve_var 2 (pv 2)) (ve_var 1 (pv 1)) (nomark _)))))) vss_nil)
    (vss_cons (vs_for PassesOwn.never rfl (vi_range1 rfl T.range (va_cons ve_int va_nil)) (vg_name (pg_name (i := 4) scLRight.nd rfl (Or.inl rfl) (Or.inl rfl))) (vss_grd (i := 5) scLRight.nd rfl (Or.inl rfl) (ve_fn E_law_asked hr (va_cons ve_int (va_cons (ve_var 0 (pv 0)) (va_cons (ve_var 2 (pv 2)) va_nil))))
    (gss_if (vw_pt (vw_or (vt_cmp op_ne l_ne (ve_ix rfl (ve_var 5 (pv 5)) ve_int (fun _ _ => rfl)) ve_str (nomark _)) (vw_or (vt_not (vt_val (ve_callB (c_isi (K := K) rfl) l_isi (by rfl) T.isinstance_ bt_isinstance (va_cons (ve_ix rfl (ve_var 5 (pv 5)) ve_int (fun _ _ => rfl)) (va_cons (ve_pe (pe_bltn (v := .ty "list") (by rfl) T.list_ bt_list rfl) (fun _ _ => .ty _)) va_nil))))) (vw_or (vt_cmp (op_neD (K := K) rfl hr.units) l_eqD (ve_ix rfl (ve_var 5 (pv 5)) ve_int (fun _ _ => rfl)) (ve_var 3 (pv 3)) (nomark _)) (vw_or1 (vt_cmp (op_neD (K := K) rfl hr.units) l_eqD (ve_var 2 (pv 2)) (ve_var 1 (pv 1)) (nomark _))))))) (VSs.ps (K := K) (vss_one (vs_ret ve_bl)))
    (gss_ixApp (i := 5) rfl (pv 5) (ve_tup (va_cons ve_int (va_cons ve_int va_nil)))
    vss_nil))))
    (vss_one (vs_ret ve_bl)))))), ?_⟩
  rintro ds R ⟨w, h, xs, rfl, hs, hp, hl, q⟩
  have hs' := hs
  obtain ⟨s1, s2, s3, s4⟩ := hs'
  walk_at "sl"
  walk_at "rd"
  refine j_kListL rfl (flats_eT _) ?_
  walk_at "rd"
  refine comp_map (xs := xs) (en := eT) (f := fun m => eT (rmv w h 0 0 m)) (by lia) (fun m hm A B hA => ?_) ?_
  · obtain ⟨x, y, rfl⟩ := hp m hm
    dsimp only [capS, List.replicate, List.map_cons, List.map_nil, List.cons_append, List.nil_append]
    walk_at "rd"
    simp only [rmv, Int.add_zero] at hA
    exact hA _ rfl
  rw [show xs.map (fun m => eT (rmv w h 0 0 m)) = (xs.map (rmv w h 0 0)).map eT by rw [List.map_map]; rfl]
  walk_at "rd"
  refine j_kSortU (mss := xs.map (rmv w h 0 0)) rfl (fun ms hm => ?_) ?_
  · obtain ⟨m, h1, rfl⟩ := List.mem_map.mp hm
    obtain ⟨x, y, rfl⟩ := hp m h1
    simp [rmv]
  have ml : (rMv w h 0 0 xs).length = xs.length := rMv_len
  change kNew _ ((rMv w h 0 0 xs).map eT) _
  have so : (rMv w h 0 0 xs).Pairwise fun a b => lexLe a b = true := srt_sorted _
  have nn : (rMv w h 0 0 xs).Nodup ↔ (xs.map (rmv w h 0 0)).Nodup := (srt_perm _).nodup_iff
  have ew : rMv w h 0 0 xs = rMv w h 0 0 xs := rfl
  generalize hL : rMv w h 0 0 xs = L at ml so nn ⊢
  walk_at "rd"
  rw [List.length_map]
  walk_at "rd"
  refine comp_filter (xs := List.range ((L.length : Int) - 1).toNat) (en := fun (i : Nat) => .int (1 + (i : Int))) (f := fun _ => .int 1) (p := fun i => decide (L.getD (1 + i) [] = L.getD i [])) (by simp; lia) (fun i hi A B hA hB => ?_) ?_
  · have hi' := List.mem_range.mp hi
    have e1 : (1 + (i : Int)) = ((1 + i : Nat) : Int) := by lia
    dsimp only [capS, List.replicate, List.map_cons, List.map_nil, List.cons_append, List.nil_append]
    rw [e1]
    walk_at "rd"
    refine j_ixL rfl rfl (at_L (by lia)) ?_
    walk_at "rd"
    rw [show ((1 + i : Nat) : Int) - 1 = (i : Int) by lia]
    refine j_ixL rfl rfl (at_L (by lia)) ?_
    walk_at "rd"
    refine i_eqE enc_eT ?_
    walk_at "rd"
    refine j_kCompT (fun z => ?_) (fun z => ?_)
    · walk_at "rd"
      exact hA _ rfl z
    · exact hB _ rfl z
  have et : (List.range ((L.length : Int) - 1).toNat).filter (fun i => decide (L.getD (1 + i) [] = L.getD i [])) = twn L := by
    unfold twn
    rw [show ((L.length : Int) - 1).toNat = L.length - 1 by lia]
  rw [et]
  walk_at "rd"
  rw [show (List.map (fun x => D.int 1) (twn L)) = ((twn L).map fun _ => (1 : Int)).map D.int by rw [List.map_map]; rfl]
  change wEqD true ((fun l : List Int => D.lst (l.map D.int)) _) ((fun l : List Int => D.lst (l.map D.int)) []) _
  by_cases nd : L.Nodup
  · refine i_neF (f := fun l : List Int => D.lst (l.map D.int)) enc_int.lst (by rw [twn_nil nd]; rfl) ?_
    walk_at "rc"
    refine i_kForR (fun i S => ∃ v4, S = [.val (eT [w, h]), .val (eL xs), .val (eL xs), .val (eL L), v4, .no]) ⟨_, rfl⟩ ?_ ?_
    · rintro i S2 hi ⟨v4, rfl⟩
      walk_at "rd"
      refine ⟨by show 5 < 6; lia, ?_⟩
      show vFn _ _ [.val (eT [w, h]), .val (eL xs), .val (eL xs), .val (eL L), .val (.int (0 + (i : Int))), .no] _
      walk_at "rd"
      refine .inr ⟨w, h, xs, rfl, hs, hp, by lia, .inl ⟨nn.mp nd, ?_⟩⟩
      rw [hL]
      refine ⟨rfl, _, rfl, ?_⟩
      dsimp only [List.set_cons_zero, List.set_cons_succ]
      refine ⟨?_, L.map eT, [.str ""], rfl, by rw [List.length_map]; lia, ?_, _, rfl⟩
      · show vOr _ _ [.val (eT [w, h]), .val (eL xs), .val (eL xs), .val (eL L), .val (.int (0 + (i : Int))), .val (.tup [eL L, .str ""])] _
        walk_at "rc"
        refine i_neF enc_eL (x := L) (y := L) rfl ?_
        walk_at "rc"
        refine i_neF enc_eL (x := xs) (y := xs) rfl ?_
        walk_at "rc"
        rfl
      · show vTup _ [_, _, _, _, _, _] _
        walk_at "rd"
        trivial
    · rintro S2 ⟨v4, rfl⟩
      walk_at "rd"
      exact q
  · have tn : twn L ≠ [] := fun z => nd (twn_nodup so z)
    refine i_neE (f := fun l : List Int => D.lst (l.map D.int)) enc_int.lst ?_
    rw [decide_eq_false (by simpa using tn)]
    walk_at "rc"
    refine .inr ⟨w, h, xs, rfl, hs, hp, by lia, .inr ⟨fun z => nd (nn.mpr z), ?_⟩⟩
    walk_at "rc"
    refine j_eqD rfl (by decide +kernel) rfl rfl (by decide +kernel) rfl ?_
    walk_at "rc"
    refine i_eqT enc_eL (x := xs) (y := xs) rfl ?_
    walk_at "rc"
    exact q
theorem ok_law (S : Src K mg "law" sLaw) (T : Txt mg) (E_law_pen : Has P w K mg base 1 "_law_pen" ["_law_script", "_law_k"] (spP K pPen)) (E_law_draw : Has P w K mg base 1 "_law_draw" ["_law_pen_here", "_law_many"] (spI K 0 pDraw)) (E_law_side : Has P w K mg base 2 "_law_side" ["_law_pen_here"] (spI K 0 pSide)) (E_law_picture : Has P w K mg base 3 "_law_picture" ["_law_pen_here", "_law_size"] (spI K 0 pPic)) (E_law_right : Has P w K mg base 8 "_law_right" ["_law_size", "_law_live"] (spP K pRight)) (E_law_no_size : Has P w K mg base 3 "_law_no_size" ["_law_pen_here"] (spI K 0 pNoSz)) (E_law_asked : Has P w K mg base 7 "_law_asked" ["_law_way", "_law_size", "_law_live"] (spP K pAsk)) : Has P w K mg base 9 "law" ["_law_script"] (spP K pLaw) := by
  refine has_P S scLaw (fun _ _ _ _ _ _ us hl => match us, hl with | [_], _ => rfl) (fun ds R zq1 => by obtain ⟨_, e, _⟩ := zq1; rw [e]; rfl) fun f cdv A outer s H E hr => ⟨_, _, (vss_cons (vs_for PassesOwn.never rfl (vi_range1 rfl T.range (va_cons ve_int va_nil)) (vg_name (pg_name (i := 1) scLaw.nd rfl (Or.inl rfl) (Or.inl rfl))) (vss_cons (vs_setP (fun _ h => ps_set (i := 2) scLaw.nd rfl (Or.inl rfl) h) (vn_fn E_law_pen hr (va_cons (ve_var 0 (pv 0)) (va_cons (ve_var 1 (pv 1)) va_nil))))
    (vss_cons (vs_set1 (i := 3) scLaw.nd rfl (Or.inl rfl) (ve_tup (va_cons (ve_fnI E_law_side hr (va_cons (ve_var 2 (pv 2)) va_nil)) (va_cons (ve_fnI E_law_side hr (va_cons (ve_var 2 (pv 2)) va_nil)) va_nil))))
    (vss_cons (vs_setF (i := 4) scLaw.nd rfl (Or.inr rfl) (ve_fnI E_law_picture hr (va_cons (ve_var 2 (pv 2)) (va_cons (ve_var 3 (pv 3)) va_nil))))
    (vss_cons (vs_if (vt_not (vt_val (ve_fn E_law_right hr (va_cons (ve_var 3 (pv 3)) (va_cons (ve_var 4 (pv 4)) va_nil))))) (vss_one (vs_ret ve_bl)) vss_nil)
    (vss_cons (vs_set1 (i := 5) scLaw.nd rfl (Or.inl rfl) (ve_fnI E_law_no_size hr (va_cons (ve_var 2 (pv 2)) va_nil)))
    (vss_cons (vs_compV (ii := 6) (tg := ["_law_way"]) (cs := ["_law_live"]) (ix := [4]) scLaw.nd rfl (Or.inl rfl) (Or.inl rfl) (comp_scope (defScope sLaw) ["_law_script", "_law_k", "_law_pen_here", "_law_size", "_law_live", "_law_odd", "_law_some", "_law_way"] (by decide +kernel)) rfl (keeps_name (by decide)) (by decide) (vi_range1 rfl T.range (va_cons ve_int va_nil)) (fun _ _ _ _ => (vg_name (pg_name (i := 0) (show (["_law_way", "_law_live"] : List Str).Nodup by decide +kernel) rfl (Or.inl rfl) (by first | exact Or.inl rfl | exact Or.inr rfl)))) (fun _ _ _ _ => vts_nil) (fun _ _ _ _ => (ve_ixN rfl (vn_lst (va_cons (ve_varF 1 (pv 1)) (va_cons (ve_new (vn_lst (va_cons (ve_tup (va_cons ve_int (va_cons ve_int va_nil))) (va_cons (ve_tup (va_cons ve_int (va_cons ve_int va_nil))) (va_cons (ve_tup (va_cons ve_int (va_cons ve_int va_nil))) va_nil))))) va_nil))) (ve_callTy call_int1 l_int (by rfl) T.int_ bt_int (va_cons (ve_cmp op_gt l_rI0 (ve_var 0 (pv 0)) ve_int (nomark _)) va_nil)) (fun _ _ => rfl))))
    (vss_one (vs_for PassesOwn.never rfl (vi_range1 rfl T.range (va_cons ve_int va_nil)) (vg_name (pg_name (i := 7) scLaw.nd rfl (Or.inl rfl) (Or.inl rfl))) (vss_one (vs_if (vt_cmp (op_neD (K := K) rfl hr.units) l_eqD (ve_fn E_law_asked hr (va_cons (ve_var 7 (pv 7)) (va_cons (ve_var 5 (pv 5)) (va_cons (ve_ix rfl (ve_var 6 (pv 6)) (ve_var 7 (pv 7)) (fun _ _ => rfl)) va_nil)))) (ve_tup (va_cons ve_non (va_cons ve_str va_nil))) (nomark _)) (vss_one (vs_ret ve_bl)) vss_nil)))))))))))
    (vss_one (vs_ret ve_bl))), ?_⟩
  rintro ds R ⟨ns, rfl, hn, q⟩
  walk_at "sl"
  walk_at "rd"
  refine i_kForR (fun i S => ∃ v1 v2 v3 v4 v5 v6 v7, S = [.val (.lst (ns.map .int)), v1, v2, v3, v4, v5, v6, v7]) ⟨_, _, _, _, _, _, _, rfl⟩ ?_ ?_
  · rintro i S2 hi ⟨v1, v2, v3, v4, v5, v6, v7, rfl⟩
    have hi' : i < 3 := hi
    walk_at "rd"
    rw [Int.zero_add]
    refine ⟨ns, i, rfl, by lia, fun x y => ⟨_, rfl, rfl, ?_⟩⟩
    refine i_kSetP (ns := [x, y, 0]) rfl ?_
    walk_at "rd"
    refine ⟨0, rfl, ⟨x, y, 0, rfl, by lia, by lia⟩, by lia, fun w pn1 wa wb h1 => ?_⟩
    walk_at "rd"
    refine ⟨_, rfl, h1, by lia, fun h pn2 ha hb h2 => ?_⟩
    walk_at "rd"
    refine ⟨_, w, h, rfl, ⟨wa, wb, ha, hb⟩, h2, by lia, fun xs pn3 hp hl h3 => ?_⟩
    walk_at "rd"
    refine j_kSetF (Nat.le_of_ble_eq_true rfl) ?_
    dsimp only [List.set_cons_zero, List.set_cons_succ]
    walk_at "rd"
    refine ⟨w, h, xs, rfl, ⟨wa, wb, ha, hb⟩, hp, hl, ?_⟩
    walk_at "rc"
    refine ⟨_, rfl, h3, by lia, fun od pn4 hod h4 => ?_⟩
    walk_at "rd"
    refine comp_map (xs := List.range 4) (en := fun (i : Nat) => .int (0 + (i : Int))) (f := fun (i : Nat) => eL (if i = 0 then xs else [[0, 0], [1, 0], [1, 2]])) (by simp) (fun m hm A B hA => ?_) ?_
    · have hm := List.mem_range.mp hm
      dsimp only [capS, List.replicate, List.map_cons, List.map_nil, List.cons_append, List.nil_append]
      walk_at "rd"
      change wInt [D.bl (decide (0 < 0 + (m : Int)))] _
      refine j_intB ?_
      by_cases h0 : m = 0
      · rw [decide_eq_false (by lia)]
        rw [if_pos h0] at hA
        refine j_kIxN2 rfl rfl ?_
        walk_at "rd"
        exact hA _ rfl
      · rw [decide_eq_true (by lia)]
        rw [if_neg h0] at hA
        refine j_kIxN2 rfl rfl ?_
        walk_at "rd"
        exact hA _ rfl
    · walk_at "rd"
      refine i_kForR (fun j S => ∃ v7, S = [.val (.lst (ns.map .int)), .val (.int (i : Int)), .pen none pn4, .val (D.tup [D.int w, D.int h]), .fre (eL xs), .val od, .val (D.lst (List.map (fun i => eL (if i = 0 then xs else [[0, 0], [1, 0], [1, 2]])) (List.range 4))), v7]) ⟨_, rfl⟩ ?_ ?_
      · rintro j S3 hj ⟨v7, rfl⟩
        have hj' : j < 4 := hj
        rw [Int.zero_add]
        walk_at "rd"
        refine j_ixL rfl rfl (atI_nat (v := eL (if j = 0 then xs else [[0, 0], [1, 0], [1, 2]])) (by rw [List.getElem?_map, List.getElem?_range hj']; rfl)) ?_
        walk_at "rd"
        refine .inl ⟨j, od, _, rfl, hod, ?_⟩
        walk_at "rd"
        refine j_eqD rfl (by decide +kernel) rfl rfl (by decide +kernel) rfl ?_
        walk_at "rc"
        exact ⟨_, rfl⟩
      · rintro S3 ⟨v7, rfl⟩
        exact ⟨_, _, _, _, _, _, _, rfl⟩
  · rintro S2 ⟨v1, v2, v3, v4, v5, v6, v7, rfl⟩
    walk_at "rd"
    exact q
end
end My
namespace My
open PySem L2 VL
theorem all_ok {l : PySem.W.OpenLaw} {w : World} {K : PySem.W.Frag} {h : Heap} {mg : Str → Option Value} {fa : Addr}  {c_NoSize : Addr}  {c_CellError : Addr}  {c_Folded : Addr}  {c_Loud : Addr}  {c_NoLine : Addr}  {c_NoName : Addr}  {c_NoNumber : Addr}  {c_NoRest : Addr}  {c_NoRule : Addr}  {c_NoText : Addr}  {c_NoThing : Addr}  {c_Outside : Addr}  {c_TooWide : Addr} (X : K.In h) (G : h.Ns mainGlobals mg) (hfa : mg "law" = some (.ref fa))
    (S0 : Src K mg "_law_pen" sLPen) (S1 : Src K mg "_law_draw" sLDraw) (S2 : Src K mg "is_whole" sIsWhole) (S3 : Src K mg "is_pair" sIsPair) (S4 : Src K mg "is_ring_size" sIsRingSize) (S5 : Src K mg "refuse_no_ring" sRefuseNoRing) (S6 : Src K mg "refuse_no_ring" sRefuseNoRing) (S7 : Src K mg "ring_moved" sRingMoved) (S8 : Src K mg "ring_moved" sRingMoved) (S9 : Src K mg "ring_next" sRingNext) (S10 : Src K mg "ring_after" sRingAfter) (S11 : Src K mg "wrapped" sWrapped) (S12 : Src K mg "wrapped" sWrapped) (S13 : Src K mg "_law_far" sLFar) (S14 : Src K mg "_law_side" sLSide) (S15 : Src K mg "_law_no_size" sLNoSize) (S16 : Src K mg "_law_picture" sLPicture) (S17 : Src K mg "_law_asked" sLAsked) (S18 : Src K mg "_law_right" sLRight) (S19 : Src K mg "law" sLaw)
     (h_NoSize : PySem.W.nsIn K mainGlobals "NoSize" = some (some (.ref c_NoSize)))  (h_CellError : PySem.W.nsIn K mainGlobals "CellError" = some (some (.ref c_CellError)))  (h_Folded : PySem.W.nsIn K mainGlobals "Folded" = some (some (.ref c_Folded)))  (h_Loud : PySem.W.nsIn K mainGlobals "Loud" = some (some (.ref c_Loud)))  (h_NoLine : PySem.W.nsIn K mainGlobals "NoLine" = some (some (.ref c_NoLine)))  (h_NoName : PySem.W.nsIn K mainGlobals "NoName" = some (some (.ref c_NoName)))  (h_NoNumber : PySem.W.nsIn K mainGlobals "NoNumber" = some (some (.ref c_NoNumber)))  (h_NoRest : PySem.W.nsIn K mainGlobals "NoRest" = some (some (.ref c_NoRest)))  (h_NoRule : PySem.W.nsIn K mainGlobals "NoRule" = some (some (.ref c_NoRule)))  (h_NoText : PySem.W.nsIn K mainGlobals "NoText" = some (some (.ref c_NoText)))  (h_NoThing : PySem.W.nsIn K mainGlobals "NoThing" = some (some (.ref c_NoThing)))  (h_Outside : PySem.W.nsIn K mainGlobals "Outside" = some (some (.ref c_Outside)))  (h_TooWide : PySem.W.nsIn K mainGlobals "TooWide" = some (some (.ref c_TooWide))) (y0 : PySem.W.nsIn K mainGlobals "ValueError" = some none) (y1 : PySem.W.excIn K c_NoSize [.type "ValueError", .type "Exception", .type "BaseException", .type "object"] "ValueError.__new__" = true) (y2 : PySem.W.exmOne K (.ref c_NoSize) (.ref c_CellError) = some true) (y3 : excOk K c_NoSize = true) (y4 : PySem.W.kitOne K (.ref c_NoSize) (.ref c_NoSize) = some true) (y5 : PySem.W.kitOne K (.ref c_NoSize) (.ref c_Folded) = some false) (y6 : PySem.W.kitOne K (.ref c_NoSize) (.type "ValueError") = some true) (y7 : PySem.W.kitAny K (.ref c_NoSize) [.ref c_Loud, .ref c_NoLine, .ref c_NoName, .ref c_NoNumber, .ref c_NoRest, .ref c_NoRule, .ref c_NoText, .ref c_NoThing, .ref c_Outside, .ref c_TooWide] = some false) (y8 : PySem.W.excIn K c_Folded [.type "ValueError", .type "Exception", .type "BaseException", .type "object"] "ValueError.__new__" = true) (y9 : PySem.W.exmOne K (.ref c_Folded) (.ref c_CellError) = some true) (y10 : excOk K c_Folded = true) (y11 : PySem.W.kitOne K (.ref c_Folded) (.ref c_NoSize) = some false) (y12 : PySem.W.kitOne K (.ref c_Folded) (.ref c_Folded) = some true) (y13 : PySem.W.kitOne K (.ref c_Folded) (.type "ValueError") = some true) (y14 : PySem.W.kitAny K (.ref c_Folded) [.ref c_Loud, .ref c_NoLine, .ref c_NoName, .ref c_NoNumber, .ref c_NoRest, .ref c_NoRule, .ref c_NoText, .ref c_NoThing, .ref c_Outside, .ref c_TooWide] = some false)
    (z0 : PySem.W.nsIn K mainGlobals "len" = some none) (z1 : PySem.W.nsIn K mainGlobals "range" = some none) (z2 : PySem.W.nsIn K mainGlobals "abs" = some none) (z3 : PySem.W.nsIn K mainGlobals "isinstance" = some none) (z4 : PySem.W.nsIn K mainGlobals "int" = some none) (z5 : PySem.W.nsIn K mainGlobals "bool" = some none) (z6 : PySem.W.nsIn K mainGlobals "list" = some none) (z7 : PySem.W.nsIn K mainGlobals "tuple" = some none) (z8 : PySem.W.nsIn K mainGlobals "sorted" = some none) (z9 : PySem.W.nsIn K mainGlobals "max" = some none) (z10 : PySem.W.nsIn K mainGlobals "min" = some none) (z11 : PySem.W.nsIn K mainGlobals "all" = some none) (z12 : PySem.W.nsIn K mainGlobals "any" = some none) (z13 : PySem.W.nsIn K mainGlobals "set" = some none) (z14 : PySem.W.nsIn K mainGlobals "sum" = some none) (z15 : PySem.W.nsIn K mainGlobals "str" = some none) :
    ∃ fd : FuncData, (∀ (s : Shared) (v : Value), BindsTo s fd ⟨[v], []⟩ [("_law_script", v)]) ∧ ∀ base : Heap, K.In base → base.Ns mainGlobals mg → FnOk l.prog w K mg base CX0 9 fa fd ["_law_script"] (spP K pLaw) := by
  have no := fun {n : Str} (z : PySem.W.nsIn K mainGlobals n = some none) => PySem.W.mg_none_of X G z
  have T : Txt mg := ⟨no z0, no z1, no z2, no z3, no z4, no z5, no z6, no z7, no z8, no z9, no z10, no z11, no z12, no z13, no z14, no z15⟩
  refine law_has S19 hfa (fun _ _ _ _ _ _ _ => rfl) fun base => ?_
  have E_law_pen := ok_pen (P := l.prog) (w := w) (base := base) S0 T  
  have E_law_draw := ok_draw (P := l.prog) (w := w) (base := base) S1 T  
  have E_is_whole := ok_wh (P := l.prog) (w := w) (base := base) S2 T  
  have E_is_pair := ok_pair (P := l.prog) (w := w) (base := base) S3 T E_is_whole 
  have E_is_ring_size := ok_sz (P := l.prog) (w := w) (base := base) S4 T E_is_pair 
  have E_refuse_no_ring := ok_ref (P := l.prog) (w := w) (base := base) S5 T E_is_ring_size 
  have E_refX := ok_refX (P := l.prog) (w := w) (base := base) S6 T E_is_ring_size (PySem.W.mg_of X G h_NoSize) y1
  have E_ring_moved := ok_rm (P := l.prog) (w := w) (base := base) S7 T E_refuse_no_ring 
  have E_rmX := ok_rmX (P := l.prog) (w := w) (base := base) S8 T E_refX 
  have E_rnX := ok_rnX (P := l.prog) (w := w) (base := base) S9 T E_refX 
  have E_raX := ok_raX (P := l.prog) (w := w) (base := base) S10 T E_refX 
  have E_wrapped := ok_wr (P := l.prog) (w := w) (base := base) S11 T E_ring_moved 
  have E_wrX := ok_wrX (P := l.prog) (w := w) (base := base) S12 T E_ring_moved E_rmX (PySem.W.mg_of X G h_Folded) y8
  have E_law_far := ok_far (P := l.prog) (w := w) (base := base) S13 T E_law_draw 
  have E_law_side := ok_side (P := l.prog) (w := w) (base := base) S14 T E_law_draw 
  have E_law_no_size := ok_nosz (P := l.prog) (w := w) (base := base) S15 T E_law_draw E_law_side 
  have E_law_picture := ok_pic (P := l.prog) (w := w) (base := base) S16 T E_law_draw E_law_far 
  have E_law_asked := ok_ask (P := l.prog) (w := w) (base := base) S17 T E_wrapped E_wrX E_rnX E_raX E_rmX (PySem.W.mg_of X G h_CellError) (no y0) (PySem.W.mg_of X G h_Folded) (PySem.W.mg_of X G h_Loud) (PySem.W.mg_of X G h_NoLine) (PySem.W.mg_of X G h_NoName) (PySem.W.mg_of X G h_NoNumber) (PySem.W.mg_of X G h_NoRest) (PySem.W.mg_of X G h_NoRule) (PySem.W.mg_of X G h_NoSize) (PySem.W.mg_of X G h_NoText) (PySem.W.mg_of X G h_NoThing) (PySem.W.mg_of X G h_Outside) (PySem.W.mg_of X G h_TooWide) y2 y3 y4 y5 y6 y7 y9 y10 y11 y12 y13 y14
  have E_law_right := ok_right (P := l.prog) (w := w) (base := base) S18 T E_law_asked 
  exact ok_law (P := l.prog) (w := w) (base := base) S19 T E_law_pen E_law_draw E_law_side E_law_picture E_law_right E_law_no_size E_law_asked 
theorem walk {l : PySem.W.OpenLaw} {q : Program} {loose : List Str} {XP : (Str → Option Value) → Heap → Prop} {YP : World → Heap → Prop} {d : DefRec} {K : Params → PySem.W.Frag} (hn : l.most = some 63) (hdf : d.params.defaults = [])
    (hY : ∀ (w : World) (h : Heap), YP w h → (K w.params).In h)
    (F : ∀ (w : World) (mg : Str → Option Value) (fa : Addr) (h : Heap), (K w.params).In h → h.Ns mainGlobals mg → mg d.name = some (.ref fa) →
      ∃ fd : FuncData, (∀ (s : Shared) (u : Value), BindsTo s fd ⟨[u], []⟩ [("_law_script", u)]) ∧ ∀ base : Heap, (K w.params).In base → base.Ns mainGlobals mg → FnOk l.prog w (K w.params) mg base CX0 9 fa fd ["_law_script"] (spP (K w.params) pLaw)) :
    PySem.W.WalkO q loose XP YP l.row.toRowW d [] (fun f vs => PySem.call f vs) :=
  L2.walk_of (n := 63) (k := 9) (x := "_law_script") (CX := fun _ => CX0) (sp := fun w => spP (K w.params) pLaw) hn (by decide) hdf ⟨rfl, by decide, by decide⟩ hY F
    (fun _ _ a ns hl _ hS => ⟨_, fun d => d = .bl true, .cons (Rep.of_sqL hS trivial (fun _ => trivial) Reps.ints) .nil, ⟨ns, rfl, hl, rfl⟩, fun d v H' e _ r => by subst e; cases r; rfl⟩) fun _ _ _ _ _ z => z
end My
def PySem.W.Fast.tw793111355383008433 : Unit := ()
def PySem.W.Fast.tw10263192105092726633 : Unit := ()
def PySem.W.Fast.tw10678292134575975220 : Unit := ()
def PySem.W.Fast.tw1871334987606755791 : Unit := ()
def PySem.W.Fast.tw370427492681001668 : Unit := ()
def PySem.W.Fast.tw8125494907933284890 : Unit := ()
def PySem.W.Fast.tw11110068393296439256 : Unit := ()
def PySem.W.Fast.tw14077990097628417263 : Unit := ()
def PySem.W.Fast.tw11717714365544413929 : Unit := ()
def PySem.W.Fast.tw2964074593069810193 : Unit := ()
def PySem.W.Fast.tw6359012299057134623 : Unit := ()
def PySem.W.Fast.tw10541841936681146005 : Unit := ()
def PySem.W.Fast.tw16905481324129730516 : Unit := ()
def PySem.W.Fast.tw8592565470650412763 : Unit := ()
def PySem.W.Fast.tw8349072933325890204 : Unit := ()
def PySem.W.Fast.tw3042731505597443209 : Unit := ()
def PySem.W.Fast.tw6095452863815478492 : Unit := ()
def PySem.W.Fast.tw10060765959043483670 : Unit := ()
def PySem.W.Fast.tw7372031022936167451 : Unit := ()
def PySem.W.Fast.tw5553379362257307439 : Unit := ()
def PySem.W.Fast.tw14984369232047239329 : Unit := ()
def PySem.W.Fast.tw4297141034615489523 : Unit := ()
open PySem PySem.W PyProof.Rows
set_option maxRecDepth 100000 in
set_option maxHeartbeats 0 in
theorem PySem.Challenge.cw_cellships_k15_wrapped_to_rings_holds : PySem.Challenge.rw_cellships_k15_wrapped_to_rings.Holds := by
  w_on; o_law; k_head; (case hw => w_witness2)
  k_fill
  refine My.walk (l := PySem.Challenge.rw_cellships_k15_wrapped_to_rings) rfl rfl (fun w h Y => PySem.W.kIn_of Y) ?F
  case F =>
    intro w mg fa h KX G hmg
    refine' My.all_ok KX G hmg (L2.src_mk KX G ?a0 ?l0 ?c0 ?k0) (L2.src_mk KX G ?a1 ?l1 ?c1 ?k1) (L2.src_mk KX G ?a2 ?l2 ?c2 ?k2) (L2.src_mk KX G ?a3 ?l3 ?c3 ?k3) (L2.src_mk KX G ?a4 ?l4 ?c4 ?k4) (L2.src_mk KX G ?a5 ?l5 ?c5 ?k5) (L2.src_mk KX G ?a6 ?l6 ?c6 ?k6) (L2.src_mk KX G ?a7 ?l7 ?c7 ?k7) (L2.src_mk KX G ?a8 ?l8 ?c8 ?k8) (L2.src_mk KX G ?a9 ?l9 ?c9 ?k9) (L2.src_mk KX G ?a10 ?l10 ?c10 ?k10) (L2.src_mk KX G ?a11 ?l11 ?c11 ?k11) (L2.src_mk KX G ?a12 ?l12 ?c12 ?k12) (L2.src_mk KX G ?a13 ?l13 ?c13 ?k13) (L2.src_mk KX G ?a14 ?l14 ?c14 ?k14) (L2.src_mk KX G ?a15 ?l15 ?c15 ?k15) (L2.src_mk KX G ?a16 ?l16 ?c16 ?k16) (L2.src_mk KX G ?a17 ?l17 ?c17 ?k17) (L2.src_mk KX G ?a18 ?l18 ?c18 ?k18) (L2.src_mk KX G ?a19 ?l19 ?c19 ?k19) ?h0 ?h1 ?h2 ?h3 ?h4 ?h5 ?h6 ?h7 ?h8 ?h9 ?h10 ?h11 ?h12 ?y0 ?y1 ?y2 ?y3 ?y4 ?y5 ?y6 ?y7 ?y8 ?y9 ?y10 ?y11 ?y12 ?y13 ?y14 ?z0 ?z1 ?z2 ?z3 ?z4 ?z5 ?z6 ?z7 ?z8 ?z9 ?z10 ?z11 ?z12 ?z13 ?z14 ?z15
    (case a0 => k_is); (case l0 => k_is); (case c0 => k_is); (case k0 => k_is)
    (case a1 => k_is); (case l1 => k_is); (case c1 => k_is); (case k1 => k_is)
    (case a2 => k_is); (case l2 => k_is); (case c2 => k_is); (case k2 => k_is)
    (case a3 => k_is); (case l3 => k_is); (case c3 => k_is); (case k3 => k_is)
    (case a4 => k_is); (case l4 => k_is); (case c4 => k_is); (case k4 => k_is)
    (case a5 => k_is); (case l5 => k_is); (case c5 => k_is); (case k5 => k_is)
    (case a6 => k_is); (case l6 => k_is); (case c6 => k_is); (case k6 => k_is)
    (case a7 => k_is); (case l7 => k_is); (case c7 => k_is); (case k7 => k_is)
    (case a8 => k_is); (case l8 => k_is); (case c8 => k_is); (case k8 => k_is)
    (case a9 => k_is); (case l9 => k_is); (case c9 => k_is); (case k9 => k_is)
    (case a10 => k_is); (case l10 => k_is); (case c10 => k_is); (case k10 => k_is)
    (case a11 => k_is); (case l11 => k_is); (case c11 => k_is); (case k11 => k_is)
    (case a12 => k_is); (case l12 => k_is); (case c12 => k_is); (case k12 => k_is)
    (case a13 => k_is); (case l13 => k_is); (case c13 => k_is); (case k13 => k_is)
    (case a14 => k_is); (case l14 => k_is); (case c14 => k_is); (case k14 => k_is)
    (case a15 => k_is); (case l15 => k_is); (case c15 => k_is); (case k15 => k_is)
    (case a16 => k_is); (case l16 => k_is); (case c16 => k_is); (case k16 => k_is)
    (case a17 => k_is); (case l17 => k_is); (case c17 => k_is); (case k17 => k_is)
    (case a18 => k_is); (case l18 => k_is); (case c18 => k_is); (case k18 => k_is)
    (case a19 => k_is); (case l19 => k_is); (case c19 => k_is); (case k19 => k_is)
    (case h0 => k_is)
    (case h1 => k_is)
    (case h2 => k_is)
    (case h3 => k_is)
    (case h4 => k_is)
    (case h5 => k_is)
    (case h6 => k_is)
    (case h7 => k_is)
    (case h8 => k_is)
    (case h9 => k_is)
    (case h10 => k_is)
    (case h11 => k_is)
    (case h12 => k_is)
    (case y0 => first | kernel_rfl | k_is)
    (case y1 => first | kernel_rfl | k_is)
    (case y2 => first | kernel_rfl | k_is)
    (case y3 => first | kernel_rfl | k_is)
    (case y4 => first | kernel_rfl | k_is)
    (case y5 => first | kernel_rfl | k_is)
    (case y6 => first | kernel_rfl | k_is)
    (case y7 => first | kernel_rfl | k_is)
    (case y8 => first | kernel_rfl | k_is)
    (case y9 => first | kernel_rfl | k_is)
    (case y10 => first | kernel_rfl | k_is)
    (case y11 => first | kernel_rfl | k_is)
    (case y12 => first | kernel_rfl | k_is)
    (case y13 => first | kernel_rfl | k_is)
    (case y14 => first | kernel_rfl | k_is)
    (case z0 => k_is); (case z1 => k_is); (case z2 => k_is); (case z3 => k_is); (case z4 => k_is); (case z5 => k_is); (case z6 => k_is); (case z7 => k_is); (case z8 => k_is); (case z9 => k_is); (case z10 => k_is); (case z11 => k_is); (case z12 => k_is); (case z13 => k_is); (case z14 => k_is); (case z15 => k_is)
#print axioms PySem.Challenge.cw_cellships_k15_wrapped_to_rings_holds

