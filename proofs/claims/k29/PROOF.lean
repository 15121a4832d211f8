import PyProof.Rows.All
import Wide.All
import OpenK.AllK
import Wide.FinOn
import Lean
import PyProof.EqAt
import PyProof.EqKinds
import PyProof.TupleCall
import PyProof.NeData
import PyProof.P3In
import PyProof.ListRange
import PyProof.TupleOfStr
import PyProof.Rows.SumAny
import PyProof.Rows.Range3
import PyProof.StrCalls
import PyProof.Rows.SetFrom
import PyProof.WalksMore
import PyProof.TupleOfSeq
import KE.KRevSl
import KE.KLam
import KE.KSortKey
import KE.KNestM
import OpenK.KOwn
import KE.KIsNot
import KE.KTryMore
import PyProof.DictTable
import PyProof.Rows.TupDisplay
import PyProof.ReprLen
import PyProof.ReprRoads
import KE.KDictOf
import PyProof.AttrMissHeap
import PyProof.NeKinds
import PyProof.ZipIter
import PyProof.DictCompW
import PyProof.DictItems
import PyProof.DictWalks
import PyProof.DictDisplay
import PyProof.ExcAttrAll.ValueError
import PyProof.TupleKey
import PyProof.IsRules
import KE.KDictList
import KE.KDictSum
import PyProof.FactsAll.set_1
import PyProof.FactsAll.set_2
import PySem.Challenge.RW_cellships_k29_too_fast
set_option Elab.async false
set_option linter.all false
set_option maxRecDepth 100000
namespace L2
open PySem PySem.Spec PyProof.Rows

abbrev Key := Sum Int Str
def keyIs : Key → Value → Bool
  | .inl k, v => Value.isInt k v
  | .inr x, v => Value.isStrOf x v
def keyH (w : World) : Key → Int
  | .inl k => hashInt k
  | .inr x => hashStr w x
theorem keyIs_shape : ∀ {k : Key} {v : Value}, keyIs k v = true → (∃ i t, k = Sum.inl i ∧ v = Value.int i t) ∨ (∃ x t, k = Sum.inr x ∧ v = Value.str x t)
  | .inl i, v, h => by
    obtain ⟨t, e⟩ := Value.isInt_shape (k := i) (v := v) h
    exact .inl ⟨i, t, rfl, e⟩
  | .inr x, v, h => by
    obtain ⟨t, e⟩ := Value.isStrOf_shape (x := x) (v := v) h
    exact .inr ⟨x, t, rfl, e⟩
theorem key_ll (a b : Int) : decide ((Sum.inl a : Key) = Sum.inl b) = (a == b) := by
  by_cases e : a = b
  · subst e; simp
  · have h : ¬ (Sum.inl a : Key) = Sum.inl b := fun q => e (Sum.inl.inj q)
    rw [decide_eq_false h]
    exact (beq_eq_false_iff_ne.mpr e).symm
theorem key_rr (a b : Str) : decide ((Sum.inr a : Key) = Sum.inr b) = decide (a = b) := by
  by_cases e : a = b
  · subst e; simp
  · have h : ¬ (Sum.inr a : Key) = Sum.inr b := fun q => e (Sum.inr.inj q)
    rw [decide_eq_false h, decide_eq_false e]
theorem key_lr (a : Int) (b : Str) : decide ((Sum.inl a : Key) = Sum.inr b) = false := decide_eq_false (fun q => nomatch q)
theorem key_rl (a : Str) (b : Int) : decide ((Sum.inr a : Key) = Sum.inl b) = false := decide_eq_false (fun q => nomatch q)

def mixKind (prog : Program) (w : World) : PySem.KeyKind prog w Key where
  is := keyIs
  hash := keyH w
  inj := fun v a b ha hb => by
    rcases keyIs_shape ha with ⟨i, t, rfl, rfl⟩ | ⟨x, t, rfl, rfl⟩
    · rcases keyIs_shape hb with ⟨j, u, rfl, e⟩ | ⟨y, u, rfl, e⟩
      · injection e with e1 _; rw [e1]
      · exact nomatch e
    · rcases keyIs_shape hb with ⟨j, u, rfl, e⟩ | ⟨y, u, rfl, e⟩
      · exact nomatch e
      · injection e with e1 _; rw [e1]
  byValue := fun k v h => by
    rcases keyIs_shape h with ⟨i, t, rfl, rfl⟩ | ⟨x, t, rfl, rfl⟩ <;> rfl
  pyHash := fun hv h => by
    rcases keyIs_shape hv with ⟨i, t, rfl, rfl⟩ | ⟨x, t, rfl, rfl⟩
    · exact wpAny_pyHash_int h
    · exact wpAny_pyHash_str h
  eqBool := fun hu hv h => by
    rcases keyIs_shape hu with ⟨i, t, rfl, rfl⟩ | ⟨x, t, rfl, rfl⟩
    · rcases keyIs_shape hv with ⟨j, u, rfl, rfl⟩ | ⟨y, u, rfl, rfl⟩
      · rw [key_ll] at h; exact wpAny_eqBool_int h
      · rw [key_lr] at h; exact SeqAt.EqAt.int_str i t y u _ _ _ _ h
    · rcases keyIs_shape hv with ⟨j, u, rfl, rfl⟩ | ⟨y, u, rfl, rfl⟩
      · rw [key_rl] at h; exact SeqAt.EqAt.str_int x t j u _ _ _ _ h
      · rw [key_rr] at h; exact wpAny_eqBool_str h
  «strs» := fun k x t v h => by
    rcases keyIs_shape h with ⟨i, u, rfl, e⟩ | ⟨y, u, rfl, e⟩
    · exact nomatch e
    · injection e with e1 _
      subst e1
      cases v <;> rfl

end L2

namespace L2
open PySem PySem.Spec PyProof.Rows

inductive V where
  | non | bl (b : Bool) | int (i : Int) | str (x : Str) | byt (b : Array UInt8) | flt (b : UInt64) | ref (a : Addr) | ty (n : String)
  deriving DecidableEq

def RelV : V → Value → Prop
  | .non, u => u = Value.none
  | .bl b, u => u = Value.bool b
  | .int i, u => ∃ t, u = Value.int i t
  | .str x, u => ∃ t, u = Value.str x t
  | .byt b, u => ∃ t, u = Value.bytes b t
  | .flt b, u => ∃ t, u = Value.float b t
  | .ref a, u => u = Value.ref a
  | .ty n, u => u = Value.type n

abbrev Vals : List V → List Value → Prop := Paired RelV
theorem Vals.length {xs : List V} {us : List Value} (r : Vals xs us) : xs.length = us.length := Paired.length r
theorem Vals.get : ∀ {xs : List V} {us : List Value} {i : Nat} {x : V}, Vals xs us → xs[i]? = some x → ∃ u, us[i]? = some u ∧ RelV x u
  | _, _, _, _, .nil, e => by simp at e
  | _, _, 0, _, .cons r _, e => by simp at e; subst e; exact ⟨_, rfl, r⟩
  | _, _, i + 1, x, .cons _ t, e => by
    obtain ⟨u, h1, h2⟩ := Vals.get (i := i) (x := x) t (by simpa using e)
    exact ⟨u, by simpa using h1, h2⟩
theorem Vals.set {x : V} {u : Value} (r : RelV x u) : ∀ {xs : List V} {us : List Value} (i : Nat), Vals xs us → Vals (xs.set i x) (us.set i u)
  | _, _, _, .nil => .nil
  | _, _, 0, .cons _ t => .cons r t
  | _, _, i + 1, .cons q t => .cons q (Vals.set r i t)
theorem Vals.append : ∀ {xs ys : List V} {us ws : List Value}, Vals xs us → Vals ys ws → Vals (xs ++ ys) (us ++ ws)
  | _, _, _, _, .nil, s => s
  | _, _, _, _, .cons r t, s => .cons r (Vals.append t s)
theorem Vals.take : ∀ {xs : List V} {us : List Value} (n : Nat), Vals xs us → Vals (xs.take n) (us.take n)
  | _, _, 0, _ => .nil
  | _, _, _ + 1, .nil => .nil
  | _, _, n + 1, .cons r t => .cons r (Vals.take n t)
theorem Vals.drop : ∀ {xs : List V} {us : List Value} (n : Nat), Vals xs us → Vals (xs.drop n) (us.drop n)
  | _, _, 0, r => r
  | _, _, _ + 1, .nil => .nil
  | _, _, n + 1, .cons _ t => Vals.drop n t
def RelO : Option V → Option Value → Prop
  | some v, some u => RelV v u
  | none, none => True
  | _, _ => False
def KV {κ : Type} : List (κ × V) → List (κ × Value) → Prop := Paired fun (p : κ × V) (q : κ × Value) => p.1 = q.1 ∧ RelV p.2 q.2

def kV : Key → V
  | .inl i => .int i
  | .inr x => .str x

inductive HO where
  /-- a list -/
  | lst (xs : List V)
  /-- a tuple (never changes) -/
  | tup (xs : List V)
  /-- a dict whose keys are ints and texts; one whose keys are tuples of ints and texts (the empty one is both) -/
  | dK (kvs : List (Key × V)) | dT (kvs : List (List Key × V))
  /-- a set of ints: its members, its size -/
  | set (S : Int → Bool) (n : Nat)
  /-- an instance of the class at C, its dict at dx, its attributes -/
  | ins (C dx : Addr) (fs : List (Str × V))
  /-- the dict of the instance at x -/
  | own (x : Addr)
  /-- the dict of an exception -/
  | xd (fs : List (Str × V))
  /-- a bound method, f of x -/
  | met (f x : Addr)
  /-- a range object lo, lo + 1, .. below hi -/
  | rng (lo hi : Int)
  /-- a thing that is known to the object (the script; a dict while a loop walks it): read, never written while it is so -/
  | frz (o : Obj) (u : HO)
  /-- a code object's table -/
  | tbl (ps : Array Value)
  /-- any other thing, by what is true of its one object (a def of one's own: SetO a S n := HO.ext fun h => ..) -/
  | ext (φ : Heap → Prop)

abbrev Hp := Addr → Option HO
def upd (H : Hp) (a : Addr) (o : HO) : Hp := fun b => if b = a then some o else H b
theorem upd_same {H : Hp} {a : Addr} {o : HO} : upd H a o a = some o := by unfold upd; rw [if_pos rfl]
theorem upd_ne {H : Hp} {a b : Addr} {o : HO} (h : b ≠ a) : upd H a o b = H b := by unfold upd; rw [if_neg h]
theorem ne_of_none {H : Hp} {a b : Addr} {o : HO} (h : H a = some o) (h' : H b = none) : a ≠ b := by
  intro e; subst e; rw [h] at h'; cases h'

section
variable (P : Program) (w : World)
def ObjOk (H : Hp) (h : Heap) (a : Addr) : HO → Prop
  | .lst xs => xs.length ≤ sizeLine ∧ ∃ (its : List Value) (n : Nat), Vals xs its ∧ h.get? a = some { cls := .type "list", data := .seq its.toArray n }
  | .tup xs => xs.length ≤ sizeLine ∧ ∃ its : List Value, Vals xs its ∧ IsTup h a its.toArray
  | .dK kvs => kvs.length ≤ sizeLine ∧ (a == sysModules) = false ∧ ∃ vs, KV kvs vs ∧ h.DictOf (mixKind P w) a vs
  | .dT kvs => kvs.length ≤ sizeLine ∧ (a == sysModules) = false ∧ ∃ xs : List (List Key × Addr × Value),
      Paired (fun (p : List Key × V) (q : List Key × Addr × Value) => p.1 = q.1 ∧ H q.2.1 = some (.tup (p.1.map kV)) ∧ RelV p.2 q.2.2) kvs xs ∧
      ∃ o es ep, h.get? a = some o ∧ o.ExactDict ∧ o.data = .dict es ep ∧ es.toList = xs.map (entryOfKey (tupleKind (mixKind P w))) ∧ (xs.map (·.1)).Nodup
  | .set S n => h.SetOf (intKind P w) a S n
  | .ins C dx fs => H dx = some (.own a) ∧ fs.length ≤ 1000 ∧ dx ≠ a ∧ h.get? a = some (PySem.W.instObj C dx) ∧
      ∃ mA, h.Ns1 dx mA ∧ (∀ f, RelO (fs.lookup f) (mA f)) ∧ PySem.Within mA (fs.map (·.1))
  | .own _ => ∃ o, h.get? a = some o
  | .xd fs => ∃ mA, h.Ns1 a mA ∧ ∀ f, RelO (fs.lookup f) (mA f)
  | .rng lo hi => ∃ t u v, h.get? a = some { cls := .type "range", data := .fields #[.int lo t, .int hi u, .int 1 v] }
  | .frz o u => h.get? a = some o ∧ ObjOk H h a u
  | .tbl ps => ∃ qs, h.get? a = some { cls := .none, data := .fields qs } ∧ TriplesOk qs.toList ∧ ∀ pos cv, codeAmong pos qs.toList = some cv → ∃ c q t, cv = .ref c ∧ H c = some (.own a) ∧ ps[0]? = some (.str q t) ∧ h.CodeRec cv q
  | .met f x => h.get? a = some (PySem.W.methodObj (.ref f) (.ref x))
  | .ext φ => φ h ∧ (∃ o, h.get? a = some o) ∧ ∀ h1 h2 : Heap, φ h1 → (∀ o, h1.get? a = some o → h2.get? a = some o) → φ h2
def HOk (H : Hp) (h : Heap) : Prop := ∀ a o, H a = some o → ObjOk P w H h a o
end

section
variable {P : Program} {w : World} {H H' : Hp} {h h' : Heap} {a : Addr} {o : HO}
theorem ObjOk.lt (x : ObjOk P w H h a o) : a < h.objs.size := by
  cases o with
  | lst xs => obtain ⟨_, _, _, _, e⟩ := x; exact Heap.lt_size e
  | tup xs => obtain ⟨_, _, _, p⟩ := x; exact p.lt
  | dK kvs => obtain ⟨_, _, _, _, o, _, _, e, _⟩ := x; exact Heap.lt_size e
  | dT kvs => obtain ⟨_, _, _, _, o, _, _, e, _⟩ := x; exact Heap.lt_size e
  | set S n => obtain ⟨o, _, _, _, e, _⟩ := x; exact Heap.lt_size e
  | ins C dx fs => obtain ⟨_, _, _, e, _⟩ := x; exact Heap.lt_size e
  | own y => obtain ⟨_, e⟩ := x; exact Heap.lt_size e
  | xd fs => obtain ⟨_, ⟨_, _, _, e, _⟩, _⟩ := x; exact Heap.lt_size e
  | rng lo hi => obtain ⟨_, _, _, e⟩ := x; exact Heap.lt_size e
  | frz ob u => obtain ⟨e, _⟩ := x; exact Heap.lt_size e
  | tbl ps => obtain ⟨_, e, _⟩ := x; exact Heap.lt_size e
  | met f y => exact Heap.lt_size (show h.get? a = some _ from x)
  | ext φ => obtain ⟨_, ⟨_, e⟩, _⟩ := x; exact Heap.lt_size e
theorem Paired.mapP {α β : Type} {F G : α → β → Prop} : ∀ {l₁ : List α} {l₂ : List β}, Paired F l₁ l₂ → (∀ a b, F a b → G a b) → Paired G l₁ l₂
  | _, _, .nil, _ => .nil
  | _, _, .cons r t, f => .cons (f _ _ r) (Paired.mapP t f)
theorem ObjOk.stay (x : ObjOk P w H h a o) (k : ∀ b u, (b = a ∨ H b = some (.own a)) → h.get? b = some u → h'.get? b = some u)
    (ho : ∀ b, H b = some (.own a) → H' b = some (.own a)) (ht : ∀ b xs, H b = some (.tup xs) → H' b = some (.tup xs)) : ObjOk P w H' h' a o := by
  induction o with
  | lst xs => obtain ⟨z, its, n, r, e⟩ := x; exact ⟨z, its, n, r, k _ _ (.inl rfl) e⟩
  | tup xs => obtain ⟨z, its, r, ob, e, c⟩ := x; exact ⟨z, its, r, ob, k _ _ (.inl rfl) e, c⟩
  | dK kvs => obtain ⟨z, y, vs, r, ob, es, ep, e, c⟩ := x; exact ⟨z, y, vs, r, ob, es, ep, k _ _ (.inl rfl) e, c⟩
  | dT kvs =>
    obtain ⟨z, y, xs, r, ob, es, ep, e, c⟩ := x
    exact ⟨z, y, xs, Paired.mapP r fun p q z => ⟨z.1, ht _ _ z.2.1, z.2.2⟩, ob, es, ep, k _ _ (.inl rfl) e, c⟩
  | set S n => obtain ⟨ob, es, ep, t, e, c⟩ := x; exact ⟨ob, es, ep, t, k _ _ (.inl rfl) e, c⟩
  | ins C dx fs =>
    obtain ⟨d, z, ne, e, mA, ⟨od, es, ep, e2, c⟩, r⟩ := x
    exact ⟨ho _ d, z, ne, k _ _ (.inl rfl) e, mA, ⟨od, es, ep, k _ _ (.inr d) e2, c⟩, r⟩
  | own y => obtain ⟨ob, e⟩ := x; exact ⟨ob, k _ _ (.inl rfl) e⟩
  | xd fs => obtain ⟨mA, ⟨od, es, ep, e, c⟩, r⟩ := x; exact ⟨mA, ⟨od, es, ep, k _ _ (.inl rfl) e, c⟩, r⟩
  | rng lo hi => obtain ⟨t, u, v, e⟩ := x; exact ⟨t, u, v, k _ _ (.inl rfl) e⟩
  | frz ob u ih => obtain ⟨e, q⟩ := x; exact ⟨k _ _ (.inl rfl) e, ih q⟩
  | tbl ps =>
    obtain ⟨qs, e, t, f⟩ := x
    refine ⟨qs, k _ _ (.inl rfl) e, t, fun pos cv hc => ?_⟩
    obtain ⟨c, q, tk, rfl, ho', hq, c2, oc, vs, tq, ec, e1, r⟩ := f pos cv hc
    cases ec
    exact ⟨c, q, tk, rfl, ho _ ho', hq, c, oc, vs, tq, rfl, k _ _ (.inr ho') e1, r⟩
  | met f y =>
    have e : h.get? a = some (PySem.W.methodObj (.ref f) (.ref y)) := x
    show h'.get? a = some (PySem.W.methodObj (.ref f) (.ref y))
    exact k a _ (.inl rfl) e
  | ext φ => obtain ⟨p, ⟨o, e⟩, st⟩ := x; exact ⟨st _ _ p fun o q => k _ _ (.inl rfl) q, ⟨o, k _ _ (.inl rfl) e⟩, st⟩
theorem HOk.lt (x : HOk P w H h) (e : H a = some o) : a < h.objs.size := (x a o e).lt
theorem HOk.fresh (x : HOk P w H h) (e : h.objs.size ≤ a) : H a = none := by
  cases q : H a with
  | none => rfl
  | some u => exact absurd (Nat.lt_of_lt_of_le (x.lt q) e) (Nat.lt_irrefl _)
theorem HOk.kept (x : HOk P w H h) (k : ∀ b u, h.get? b = some u → h'.get? b = some u) : HOk P w H h' := fun a o e =>
  (x a o e).stay (fun b u _ q => k b u q) (fun _ q => q) fun _ _ q => q
theorem HOk.laid (x : HOk P w H h) (k : ∀ b u, h.get? b = some u → h'.get? b = some u) (hp : h.objs.size ≤ a) (new : ObjOk P w (upd H a o) h' a o) : HOk P w (upd H a o) h' := fun b u e => by
  have hn := x.fresh hp
  by_cases hb : b = a
  · subst hb; rw [upd_same] at e; cases e; exact new
  · rw [upd_ne hb] at e
    exact (x b u e).stay (fun c v _ q => k c v q) (fun c q => by rw [upd_ne (ne_of_none q hn)]; exact q) fun c xs q => by rw [upd_ne (ne_of_none q hn)]; exact q
end

def Rd (H : Hp) (a : Addr) (u : HO) : Prop := H a = some u ∨ ∃ o, H a = some (.frz o u)
theorem Rd.ok {P : Program} {w : World} {H : Hp} {h : Heap} {a : Addr} {u : HO} (r : Rd H a u) (x : HOk P w H h) : ObjOk P w H h a u := by
  rcases r with r | ⟨o, r⟩
  · exact x a u r
  · obtain ⟨_, q⟩ := x a _ r
    exact q
def Mut : Option HO → Prop
  | some (.lst _) => True
  | some (.dK _) => True
  | some (.dT _) => True
  | some (.set _ _) => True
  | some (.ins _ _ _) => True
  | some (.ext _) => True
  | _ => False
section
variable {P : Program} {w : World} {H : Hp} {h h' : Heap} {x e : Addr} {o' : HO}
theorem HOk.write (ok : HOk P w H h) (mu : Mut (H x)) (he : e = x ∨ H e = some (.own x)) (k : ∀ b u, b ≠ e → h.get? b = some u → h'.get? b = some u) (heo : ∃ u, h'.get? e = some u)
    (new : ObjOk P w (upd H x o') h' x o') : HOk P w (upd H x o') h' := fun b u q => by
  have nown : ∀ c y, H c = some (.own y) → c ≠ x := fun c y r z => by subst z; rw [r] at mu; exact mu
  have ntup : ∀ c xs, H c = some (.tup xs) → c ≠ x := fun c xs r z => by subst z; rw [r] at mu; exact mu
  by_cases hb : b = x
  · subst hb; rw [upd_same] at q; cases q; exact new
  · rw [upd_ne hb] at q
    by_cases hbe : b = e
    · have q' : H b = some (.own x) := by
        rcases he with z | z
        · exact absurd (hbe.trans z) hb
        · rw [hbe]; exact z
      rw [q] at q'; cases q'
      obtain ⟨v, hv⟩ := heo
      exact ⟨v, by rw [hbe]; exact hv⟩
    · refine (ok b u q).stay (fun c v hc r => k c v ?_ r) (fun c r => by rw [upd_ne (nown c b r)]; exact r) fun c xs r => by rw [upd_ne (ntup c xs r)]; exact r
      rcases hc with rfl | hc
      · exact hbe
      · rintro rfl
        rcases he with z | z
        · exact nown c b hc z
        · rw [hc] at z; cases z; exact hb rfl
end

structure Un (fs ex : List Addr) (H H' : Hp) (h h' : Heap) : Prop where
  keep : ∀ b o, h.get? b = some o → H b = none → b ∉ fs → b ∉ ex → h'.get? b = some o
  slot : ∀ b o, h.get? b = some o → H b = none → b ∈ fs → b ∉ ex → ∃ sl, h'.get? b = some { o with slots := sl }
  free : ∀ b o, h.get? b = some o → H b = none → b ∉ ex → H' b = none
  there : ∀ b o, h.get? b = some o → b ∉ ex → ∃ o', h'.get? b = some o'
  tups : ∀ b xs, H b = some (.tup xs) → H' b = some (.tup xs)
  frzs : ∀ b o u, H b = some (.frz o u) → H' b = some (.frz o u)
  tbls : ∀ b ps, H b = some (.tbl ps) → ∃ more, H' b = some (.tbl (ps ++ more))
section
variable {fs fs' ex ex' : List Addr} {H H1 H2 : Hp} {h h1 h2 h' : Heap} {a x e : Addr} {o : HO}
theorem Un.any (u : Un fs ex H H1 h h1) {b : Addr} {ob : Obj} (q : h.get? b = some ob) (n : H b = none) (hx : b ∉ ex) : ∃ sl, h1.get? b = some { ob with slots := sl } := by
  by_cases hb : b ∈ fs
  · exact u.slot b ob q n hb hx
  · exact ⟨ob.slots, u.keep b ob q n hb hx⟩
theorem Un.trans (a : Un fs ex H H1 h h1) (b : Un fs ex H1 H2 h1 h2) : Un fs ex H H2 h h2 where
  keep := fun c ob q n hc hx => b.keep c ob (a.keep c ob q n hc hx) (a.free c ob q n hx) hc hx
  slot := fun c ob q n hc hx => by
    obtain ⟨sl, e1⟩ := a.slot c ob q n hc hx
    obtain ⟨sl', e2⟩ := b.slot c _ e1 (a.free c ob q n hx) hc hx
    exact ⟨sl', e2⟩
  free := fun c ob q n hx => by
    obtain ⟨o', e1⟩ := a.there c ob q hx
    exact b.free c o' e1 (a.free c ob q n hx) hx
  there := fun c ob q hx => by
    obtain ⟨o', e1⟩ := a.there c ob q hx
    exact b.there c o' e1 hx
  tups := fun c xs q => b.tups c xs (a.tups c xs q)
  frzs := fun c ob xs q => b.frzs c ob xs (a.frzs c ob xs q)
  tbls := fun c ps q => by
    obtain ⟨m1, e1⟩ := a.tbls c ps q
    obtain ⟨m2, e2⟩ := b.tbls c _ e1
    exact ⟨m1 ++ m2, by rw [e2, Array.append_assoc]⟩
theorem Un.kept (k : ∀ b u, h.get? b = some u → h'.get? b = some u) : Un fs ex H H h h' :=
  ⟨fun b ob q _ _ _ => k b ob q, fun b ob q _ _ _ => ⟨ob.slots, k b ob q⟩, fun _ _ _ n _ => n, fun b ob q _ => ⟨ob, k b ob q⟩, fun _ _ q => q, fun _ _ _ q => q, fun _ ps q => ⟨#[], by rw [q]; simp⟩⟩
theorem Un.refl : Un fs ex H H h h := Un.kept fun _ _ q => q
theorem Un.laid (k : ∀ b u, h.get? b = some u → h'.get? b = some u) (hp : h.objs.size ≤ a) (hn : H a = none) : Un fs ex H (upd H a o) h h' where
  keep := fun b u q _ _ _ => k b u q
  slot := fun b u q _ _ _ => ⟨u.slots, k b u q⟩
  free := fun b u q n _ => by rw [upd_ne (Nat.ne_of_lt (Nat.lt_of_lt_of_le (Heap.lt_size q) hp))]; exact n
  there := fun b u q _ => ⟨u, k b u q⟩
  tups := fun b xs q => by rw [upd_ne (ne_of_none q hn)]; exact q
  frzs := fun b u xs q => by rw [upd_ne (ne_of_none q hn)]; exact q
  tbls := fun b ps q => ⟨#[], by rw [upd_ne (ne_of_none q hn), q]; simp⟩
theorem Un.write (mu : Mut (H x)) (he : e = x ∨ H e = some (.own x)) (k : ∀ b u, b ≠ e → h.get? b = some u → h'.get? b = some u) (heo : ∃ u, h'.get? e = some u) : Un fs ex H (upd H x o) h h' := by
  have hx : ∀ b, H b = none → b ≠ x := fun b n z => by subst z; rw [n] at mu; exact mu
  have hb : ∀ b, H b = none → b ≠ e := fun b n z => by
    subst z
    rcases he with r | r
    · exact hx b n r
    · rw [n] at r; cases r
  have hm : ∀ b u, H b = some u → ¬ Mut (some u) → b ≠ x := fun b u q nm z => by subst z; rw [q] at mu; exact nm mu
  refine ⟨fun b u q n _ _ => k b u (hb b n) q, fun b u q n _ _ => ⟨u.slots, k b u (hb b n) q⟩, fun b u q n _ => by rw [upd_ne (hx b n)]; exact n, fun b u q _ => ?_,
    fun b xs q => by rw [upd_ne (hm b _ q fun z => z)]; exact q, fun b u xs q => by rw [upd_ne (hm b _ q fun z => z)]; exact q, fun b ps q => ⟨#[], by rw [upd_ne (hm b _ q fun z => z), q]; simp⟩⟩
  by_cases hbe : b = e
  · subst hbe; exact heo
  · exact ⟨u, k b u hbe q⟩
end

def trk (h : Heap) (H : Hp) : List Addr := (List.range h.objs.size).filter fun a => (H a).isSome
def hidT (h : Heap) (H : Hp) : Heap := PySem.W.hideAll h (trk h H)
theorem hidT_size (h : Heap) (H : Hp) : (hidT h H).objs.size = h.objs.size := PySem.W.hideAll_size _ _
theorem hidT_get {h : Heap} {H : Hp} {b : Addr} {o : Obj} (e : h.get? b = some o) (n : H b = none) : (hidT h H).get? b = some o :=
  PySem.W.hideAll_get _ e fun hm => by
    have q : (H b).isSome = true := (List.mem_filter.mp hm).2
    rw [n] at q; simp at q
theorem of_hidT {h : Heap} {H : Hp} {b : Addr} {o : Obj} (e : (hidT h H).get? b = some o) : h.get? b = some o ∧ H b = none := by
  have e' : h.get? b = some o := PySem.W.of_hideAll (trk h H) e
  refine ⟨e', ?_⟩
  cases q : H b with
  | none => rfl
  | some x =>
    have hm : b ∈ trk h H := List.mem_filter.mpr ⟨List.mem_range.mpr (Heap.lt_size e'), by simp [q]⟩
    have z : (hidT h H).get? b = none := PySem.W.hideAll_none (trk h H) hm
    rw [z] at e; cases e

def allNews (g h : Heap) (L : Addr) : List (Addr × Obj) := (List.range h.objs.size).filterMap fun a => if a = L ∨ (g.get? a).isSome = true then none else (h.get? a).map fun o => (a, o)
theorem mem_allNews {g h : Heap} {L a : Addr} {o : Obj} (h1 : a ≠ L) (h2 : g.get? a = none) (h3 : h.get? a = some o) : (a, o) ∈ allNews g h L :=
  List.mem_filterMap.mpr ⟨a, List.mem_range.mpr (Heap.lt_size h3), by simp [h1, h2, h3]⟩
theorem of_mem_allNews {g h : Heap} {L : Addr} {p : Addr × Obj} (hp : p ∈ allNews g h L) : p.1 ≠ L ∧ g.get? p.1 = none ∧ h.get? p.1 = some p.2 := by
  obtain ⟨b, _, e⟩ := List.mem_filterMap.mp hp
  split at e
  · cases e
  · rename_i hn
    cases q : h.get? b with
    | none => rw [q] at e; simp at e
    | some u =>
      rw [q] at e
      simp only [Option.map_some, Option.some.injEq] at e
      subst e
      refine ⟨fun z => hn (.inl z), ?_, q⟩
      show g.get? b = none
      cases r : g.get? b with
      | none => rfl
      | some v => exact (hn (.inr (by simp [r]))).elim
theorem news_all {g h : Heap} {L : Addr} : News g L h (allNews g h L) := fun p hp => let ⟨a, b, c⟩ := of_mem_allNews hp; ⟨c, a, b⟩
end L2

namespace L2
open PySem PySem.Spec PyProof.Rows

structure Mod (K : PySem.W.Frag) (mg : Str → Option Value) (base : Heap) : Prop where
  kin : K.In base
  glob : base.Ns mainGlobals mg
  blt : ∃ mb, base.Ns builtinsNs mb ∧ ∀ x : Str, x ≠ "__name__" → mb x = bootBuiltins x
  nolimit : base.NoLimit

structure Cx where
  prog : Program
  w : World
  K : PySem.W.Frag
  mg : Str → Option Value
  base : Heap
  A : Around
  N : List Str
  s₀ : Shared
  H₀ : Hp
  env : Env
  outer : List Env
  stack : List Env
  ex : List Addr
  fn : Str → Bool
  calm : Bool
  pn : List (Addr × Obj)
  xe : Value → Shared → Prop
def frs (l : List Env) : List Addr := l.filterMap (·.frame)
abbrev Cx.fs (X : Cx) : List Addr := frs X.outer

def Vis (sc : Scope) (x : Str) : Prop := sc.names.lookup x = some .local ∨ sc.names.lookup x = some .cell ∨ sc.names.lookup x = some .free
def Loc (sc : Scope) (x : Str) : Prop := sc.names.lookup x = some .local ∨ sc.names.lookup x = some .cell
def Look (env : Env) (h : Heap) (m : Str → Option Value) (x : Str) (u : Value) : Prop :=
  (env.kindOf x = some .local ∧ m x = some u) ∨ ((env.kindOf x = some .cell ∨ env.kindOf x = some .free) ∧ ∃ c, env.cells.lookup x = some c ∧ h.IsCell c (some u))

structure Cx.Ok (X : Cx) : Prop where
  mod : Mod X.K X.mg X.base
  kind : X.env.scope.kind = .function
  glob : X.env.globals = mainGlobals
  blt : X.env.builtins = builtinsNs
  above : X.s₀.heap.objs.size ≤ X.env.locals
  inj : ∀ x y c, X.env.cells.lookup x = some c → X.env.cells.lookup y = some c → x = y
  has : ∀ x, (X.env.kindOf x = some .cell ∨ X.env.kindOf x = some .free) → ∃ c, X.env.cells.lookup x = some c
  cab : ∀ x c, X.fn x = true → X.env.cells.lookup x = some c → X.s₀.heap.objs.size ≤ c
  hd : X.calm = true → X.A.handled = none
  frames : X.A.frames = some X.stack
  stk : X.stack = X.outer ∨ (X.stack = X.env :: X.outer ∧ X.env.frame = some X.env.locals)
  exf : ∀ b ∈ X.ex, b ≠ X.env.locals ∧ ∀ x c, X.env.cells.lookup x = some c → c ≠ b
  bs : ∀ b o, X.base.get? b = some o → X.s₀.heap.get? b = some o ∧ X.H₀ b = none
  bsz : X.base.objs.size ≤ X.s₀.heap.objs.size
  noex : ∀ b o, X.base.get? b = some o → b ∉ X.ex
  exfs : ∀ b ∈ X.ex, b ∉ X.fs
  funs : X.s₀.heap.FunFrames X.base X.outer
  frf : ∀ b ∈ X.fs, X.H₀ b = none

structure Inv (X : Cx) (pins : List (Addr × Obj)) (σ : List (Option V)) (H : Hp) (s : Shared) : Prop where
  ok : X.Ok
  os : s.os = X.s₀.os
  bare : AllBare s.gens
  base : Un X.fs X.ex X.H₀ H X.s₀.heap s.heap
  loc : ∃ m, s.heap.Ns X.env.locals m ∧ ∀ (i : Nat) (x : Str) (v : V), X.N[i]? = some x → σ[i]? = some (some v) → Vis X.env.scope x → ∃ u, RelV v u ∧ Look X.env s.heap m x u
  cell : ∀ x c, X.env.cells.lookup x = some c → ∃ v, s.heap.IsCell c v
  free : H X.env.locals = none
  freeC : ∀ x c, X.env.cells.lookup x = some c → H c = none
  pin : ∀ p ∈ X.pn ++ pins, s.heap.get? p.1 = some p.2 ∧ H p.1 = none ∧ p.1 ≠ X.env.locals ∧ p.1 ∉ X.fs ∧ ∀ v, p.2.data ≠ .cell v
  hok : HOk X.prog X.w H s.heap
  len : σ.length = X.N.length

section
variable {X : Cx} {pins : List (Addr × Obj)} {σ : List (Option V)} {H H' : Hp} {s : Shared} {h' : Heap}

theorem Cx.Ok.nofr (ok : X.Ok) {b : Addr} {o : Obj} (e : X.base.get? b = some o) : b ∉ X.fs := fun hb => by
  have := (ok.funs.mem hb).1
  rw [e] at this; cases this
theorem Inv.bs (I : Inv X pins σ H s) : ∀ b o, X.base.get? b = some o → s.heap.get? b = some o ∧ H b = none := fun b o e =>
  ⟨I.base.keep b o (I.ok.bs b o e).1 (I.ok.bs b o e).2 (I.ok.nofr e) (I.ok.noex b o e), I.base.free b o (I.ok.bs b o e).1 (I.ok.bs b o e).2 (I.ok.noex b o e)⟩
theorem Inv.bk (I : Inv X pins σ H s) : ∀ b o, X.base.get? b = some o → s.heap.get? b = some o := fun b o e => (I.bs b o e).1
theorem Inv.mod (I : Inv X pins σ H s) : Mod X.K X.mg X.base := I.ok.mod
theorem Inv.kIn (I : Inv X pins σ H s) : X.K.In s.heap := I.ok.mod.kin.keeps I.bk
theorem Inv.fr (I : Inv X pins σ H s) : ∃ m, Fr X.base X.env.locals s.heap m :=
  let ⟨m, hn, _⟩ := I.loc
  ⟨m, hn, I.bk, Nat.le_trans I.ok.bsz I.ok.above⟩
theorem Inv.lt (I : Inv X pins σ H s) : X.env.locals < s.heap.objs.size := let ⟨_, hn, _⟩ := I.loc; hn.lt
theorem Inv.sz (I : Inv X pins σ H s) : X.s₀.heap.objs.size ≤ s.heap.objs.size := Nat.le_trans I.ok.above (Nat.le_of_lt I.lt)
theorem Inv.nofs (I : Inv X pins σ H s) {a : Addr} (h : s.heap.objs.size ≤ a) : a ∉ X.fs := fun hb => by
  obtain ⟨_, o, ho, _⟩ := I.ok.funs.mem hb
  exact absurd (Nat.lt_of_lt_of_le (Heap.lt_size ho) (Nat.le_trans I.sz h)) (Nat.lt_irrefl _)
theorem Inv.cne (I : Inv X pins σ H s) : ∀ x c, X.env.cells.lookup x = some c → c ≠ X.env.locals := fun x c e z => by
  obtain ⟨v, o, ho, hd⟩ := I.cell x c e
  obtain ⟨m, ⟨o', es, ep, ho', hd', _⟩, _⟩ := I.loc
  rw [z, ho'] at ho; cases ho; rw [hd'] at hd; cases hd
theorem Inv.funs (I : Inv X pins σ H s) : s.heap.FunFrames X.base X.outer := by
  have all : ∀ (l : List Env), (∀ b ∈ frs l, b ∈ X.fs) → X.s₀.heap.FunFrames X.base l → s.heap.FunFrames X.base l := by
    intro l
    induction l with
    | nil => intro _ _; trivial
    | cons env r ih =>
      intro hs hl
      obtain ⟨hk, ⟨L, o, hf, hn, ho, hd⟩, hr⟩ := hl
      have hL : L ∈ X.fs := hs L (by unfold frs; rw [List.filterMap_cons, hf]; exact List.mem_cons_self)
      obtain ⟨sl, e⟩ := I.base.slot L o ho (I.ok.frf L hL) hL fun z => I.ok.exfs L z hL
      exact ⟨hk, ⟨L, _, hf, hn, e, hd⟩, ih (fun b hb => hs b (by unfold frs; rw [List.filterMap_cons, hf]; exact List.mem_cons_of_mem _ hb)) hr⟩
  exact all X.outer (fun _ hb => hb) I.ok.funs

theorem Inv.stack (I : Inv X pins σ H s) : s.heap.FunFrames X.base X.stack := by
  rcases I.ok.stk with e | ⟨e, hf⟩
  · rw [e]; exact I.funs
  · rw [e]
    obtain ⟨m, hn, _⟩ := I.loc
    refine .cons (by rw [I.ok.kind]; decide) hf hn ?_ I.funs
    exact Heap.get?_none_of_le (Nat.le_trans I.ok.bsz I.ok.above)
theorem Inv.stkSub (I : Inv X pins σ H s) : ∀ b ∈ frs X.stack, b ∈ X.env.locals :: X.fs := fun b hb => by
  rcases I.ok.stk with e | ⟨e, hf⟩
  · rw [e] at hb; exact List.mem_cons_of_mem _ hb
  · rw [e] at hb
    unfold frs at hb
    rw [List.filterMap_cons, hf] at hb
    exact hb
theorem Inv.stkFree (I : Inv X pins σ H s) : ∀ b ∈ frs X.stack, H b = none := fun b hb => by
  rcases List.mem_cons.mp (I.stkSub b hb) with e | hb
  · rw [e]; exact I.free
  · obtain ⟨_, o, ho, _⟩ := I.ok.funs.mem hb
    exact I.base.free b o ho (I.ok.frf b hb) fun z => I.ok.exfs b z hb

theorem Inv.step {g' : Array GenState} {t' : Nat} {d' : Drawn} {ch : List Addr} (I : Inv X pins σ H s)
    (hch : ∀ b ∈ ch, (b ∈ X.ex ∨ X.s₀.heap.objs.size ≤ b) ∧ b ≠ X.env.locals ∧ (∀ x c, X.env.cells.lookup x = some c → c ≠ b) ∧ ∀ p ∈ X.pn ++ pins, p.1 ≠ b)
    (keep : ∀ b o, b ≠ X.env.locals → b ∉ X.fs → b ∉ ch → s.heap.get? b = some o → H b = none → h'.get? b = some o)
    (slot : ∀ b o, b ≠ X.env.locals → b ∈ X.fs → b ∉ ch → s.heap.get? b = some o → H b = none → ∃ sl, h'.get? b = some { o with slots := sl }) (free : ∀ b o, b ∉ ch → s.heap.get? b = some o → H b = none → H' b = none)
    (there : ∀ b o, b ∉ ch → s.heap.get? b = some o → ∃ o', h'.get? b = some o')
    (tups : ∀ b xs, H b = some (.tup xs) → H' b = some (.tup xs)) (frzs : ∀ b o u, H b = some (.frz o u) → H' b = some (.frz o u)) (tbls : ∀ b ps, H b = some (.tbl ps) → ∃ more, H' b = some (.tbl (ps ++ more)))
    (ns : ∀ m, s.heap.Ns X.env.locals m → h'.Ns X.env.locals m) (hok : HOk X.prog X.w H' h') (hg : AllBare g') :
    Inv X pins σ H' { s with heap := h', gens := g', drawn := d', toks := t' } := by
  have neL : ∀ b o, X.s₀.heap.get? b = some o → b ≠ X.env.locals := fun b o e => Nat.ne_of_lt (Nat.lt_of_lt_of_le (Heap.lt_size e) I.ok.above)
  have neC : ∀ b o, X.s₀.heap.get? b = some o → b ∉ X.ex → b ∉ ch := fun b o e hx hb => by
    rcases (hch b hb).1 with z | z
    · exact hx z
    · exact absurd (Nat.lt_of_lt_of_le (Heap.lt_size e) z) (Nat.lt_irrefl _)
  have cellK : ∀ x c, X.env.cells.lookup x = some c → ∀ v, s.heap.IsCell c v → h'.IsCell c v := fun x c e v ⟨o, ho, hd⟩ => by
    have nch : c ∉ ch := fun z => (hch c z).2.2.1 x c e rfl
    by_cases hc : c ∈ X.fs
    · obtain ⟨sl, q⟩ := slot c o (I.cne x c e) hc nch ho (I.freeC x c e)
      exact ⟨_, q, hd⟩
    · exact ⟨o, keep c o (I.cne x c e) hc nch ho (I.freeC x c e), hd⟩
  refine ⟨I.ok, I.os, hg, ⟨fun b o e n hb hx => ?_, fun b o e n hb hx => ?_, fun b o e n hx => ?_, fun b o e hx => ?_, fun b xs e => tups b xs (I.base.tups b xs e), fun b o xs e => frzs b o xs (I.base.frzs b o xs e), fun b ps e => ?_⟩, ?_, fun x c e => ?_, ?_, fun x c e => ?_, fun p hp => ?_, hok, I.len⟩
  · exact keep b o (neL b o e) hb (neC b o e hx) (I.base.keep b o e n hb hx) (I.base.free b o e n hx)
  · obtain ⟨sl, e1⟩ := I.base.slot b o e n hb hx
    obtain ⟨sl', e2⟩ := slot b _ (neL b o e) hb (neC b o e hx) e1 (I.base.free b o e n hx)
    exact ⟨sl', e2⟩
  · obtain ⟨o', e1⟩ := I.base.there b o e hx
    exact free b o' (neC b o e hx) e1 (I.base.free b o e n hx)
  · obtain ⟨o', e1⟩ := I.base.there b o e hx
    exact there b o' (neC b o e hx) e1
  · obtain ⟨m1, e1⟩ := I.base.tbls b ps e
    obtain ⟨m2, e2⟩ := tbls b _ e1
    exact ⟨m1 ++ m2, by rw [e2, Array.append_assoc]⟩
  · obtain ⟨m, hn, hl⟩ := I.loc
    refine ⟨m, ns m hn, fun i x v e1 e2 e3 => ?_⟩
    obtain ⟨u, r, l⟩ := hl i x v e1 e2 e3
    refine ⟨u, r, ?_⟩
    rcases l with l | ⟨k, c, e, z⟩
    · exact .inl l
    · exact .inr ⟨k, c, e, cellK x c e _ z⟩
  · obtain ⟨v, z⟩ := I.cell x c e
    exact ⟨v, cellK x c e v z⟩
  · obtain ⟨m, ⟨o, _, _, ho, _⟩, _⟩ := I.loc
    exact free _ o (fun z => (hch _ z).2.1 rfl) ho I.free
  · obtain ⟨v, o, ho, hd⟩ := I.cell x c e
    exact free c o (fun z => (hch c z).2.2.1 x c e rfl) ho (I.freeC x c e)
  · obtain ⟨e, n, ne, nf, d⟩ := I.pin p hp
    have nch : p.1 ∉ ch := fun z => (hch p.1 z).2.2.2 p hp rfl
    exact ⟨keep p.1 p.2 ne nf nch e n, free p.1 p.2 nch e n, ne, nf, d⟩
theorem Inv.un {t' : Nat} (I : Inv X pins σ H s) (u : Un X.fs [] H H' s.heap h') (hok : HOk X.prog X.w H' h') : Inv X pins σ H' { s with heap := h', toks := t' } := by
  obtain ⟨m, ⟨o, es, ep, ho, r⟩, _⟩ := id I.loc
  obtain ⟨sl, hL⟩ := u.any ho I.free (by simp)
  exact I.step (g' := s.gens) (d' := s.drawn) (ch := []) (fun _ z => nomatch z) (fun b o _ hb _ e n => u.keep b o e n hb (by simp)) (fun b o _ hb _ e n => u.slot b o e n hb (by simp)) (fun b o _ e n => u.free b o e n (by simp)) (fun b o _ e => u.there b o e (by simp)) u.tups u.frzs u.tbls (fun m' hm => by
    obtain ⟨o', es', ep', ho', r'⟩ := hm
    rw [ho] at ho'; cases ho'
    exact ⟨_, es', ep', hL, r'⟩) hok I.bare
theorem Inv.call {g' : Array GenState} {t' : Nat} {d' : Drawn} {ch : List Addr} (I : Inv X pins σ H s) (u : Un (frs X.stack) ch H H' s.heap h') (hok : HOk X.prog X.w H' h') (hg : AllBare g')
    (hch : ∀ b ∈ ch, (b ∈ X.ex ∨ X.s₀.heap.objs.size ≤ b) ∧ b ≠ X.env.locals ∧ (∀ x c, X.env.cells.lookup x = some c → c ≠ b) ∧ ∀ p ∈ X.pn ++ pins, p.1 ≠ b) :
    Inv X pins σ H' { s with heap := h', gens := g', drawn := d', toks := t' } := by
  obtain ⟨m, ⟨o, es, ep, ho, r⟩, _⟩ := id I.loc
  obtain ⟨sl, hL⟩ := u.any ho I.free fun z => (hch _ z).2.1 rfl
  exact I.step (ch := ch) hch (fun b o hL hb hc e n => u.keep b o e n (fun z => (List.mem_cons.mp (I.stkSub b z)).elim hL hb) hc) (fun b o _ _ hc e n => u.any e n hc) (fun b o hc e n => u.free b o e n hc) (fun b o hc e => u.there b o e hc) u.tups u.frzs u.tbls (fun m' hm => by
    obtain ⟨o', es', ep', ho', r'⟩ := hm
    rw [ho] at ho'; cases ho'
    exact ⟨_, es', ep', hL, r'⟩) hok hg
theorem Inv.turned {t' : Nat} {it : Addr} (I : Inv X pins σ H s) (k : ∀ b o, b ≠ it → s.heap.get? b = some o → h'.get? b = some o) (hn : H it = none) (hL : it ≠ X.env.locals)
    (h1 : it ∈ X.ex ∨ X.s₀.heap.objs.size ≤ it) (h2 : ∀ x c, X.env.cells.lookup x = some c → c ≠ it) (h3 : ∀ p ∈ X.pn ++ pins, p.1 ≠ it) : Inv X pins σ H { s with heap := h', toks := t' } := by
  have nit : ∀ b u, H b = some u → b ≠ it := fun b u e z => by rw [z, hn] at e; cases e
  refine I.step (g' := s.gens) (d' := s.drawn) (ch := [it]) (fun b hb => ?_) (fun b o _ _ hc e _ => k b o (fun z => hc (by simp [z])) e) (fun b o _ _ hc e _ => ⟨o.slots, k b o (fun z => hc (by simp [z])) e⟩) (fun _ _ _ _ n => n)
    (fun b o hc e => ⟨o, k b o (fun z => hc (by simp [z])) e⟩) (fun _ _ e => e) (fun _ _ _ e => e) (fun b ps e => ⟨#[], by rw [e]; simp⟩) (fun m hm => ?_) (fun b u e => ?_) I.bare
  · have e : b = it := by simpa using hb
    subst e
    exact ⟨h1, hL, h2, h3⟩
  · obtain ⟨o, es, ep, ho, r⟩ := hm
    exact ⟨o, es, ep, k _ o (Ne.symm hL) ho, r⟩
  · refine (I.hok b u e).stay (fun c v hc q => k c v ?_ q) (fun _ q => q) fun _ _ q => q
    rcases hc with z | z
    · rw [z]; exact nit b u e
    · exact nit c _ z
theorem Inv.tok (I : Inv X pins σ H s) (t : Nat) : Inv X pins σ H { s with toks := t } := I.un (h' := s.heap) (t' := t) Un.refl I.hok
theorem Inv.kept {t' : Nat} (I : Inv X pins σ H s) (k : ∀ b u, s.heap.get? b = some u → h'.get? b = some u) : Inv X pins σ H { s with heap := h', toks := t' } := I.un (Un.kept k) (I.hok.kept k)
theorem Inv.laid {a : Addr} {o : HO} {t' : Nat} (I : Inv X pins σ H s) (k : ∀ b u, s.heap.get? b = some u → h'.get? b = some u) (hp : s.heap.objs.size ≤ a) (new : ObjOk X.prog X.w (upd H a o) h' a o) :
    Inv X pins σ (upd H a o) { s with heap := h', toks := t' } := I.un (Un.laid k hp (I.hok.fresh hp)) (I.hok.laid k hp new)
theorem Inv.write {x e : Addr} {o : HO} {t' : Nat} (I : Inv X pins σ H s) (mu : Mut (H x)) (he : e = x ∨ H e = some (.own x)) (k : ∀ b u, b ≠ e → s.heap.get? b = some u → h'.get? b = some u) (heo : ∃ u, h'.get? e = some u)
    (new : ObjOk X.prog X.w (upd H x o) h' x o) : Inv X pins σ (upd H x o) { s with heap := h', toks := t' } := I.un (Un.write mu he k heo) (I.hok.write mu he k heo new)
theorem Inv.weak {σ' : List (Option V)} (I : Inv X pins σ H s) (hl : σ'.length = σ.length) (w : ∀ (i : Nat) v, σ'[i]? = some (some v) → σ[i]? = some (some v)) : Inv X pins σ' H s :=
  ⟨I.ok, I.os, I.bare, I.base, let ⟨m, hn, hl'⟩ := I.loc; ⟨m, hn, fun i x v e1 e2 e3 => hl' i x v e1 (w i v e2) e3⟩, I.cell, I.free, I.freeC, I.pin, I.hok, hl.trans I.len⟩
theorem Inv.pins_of {pins' : List (Addr × Obj)} (I : Inv X pins σ H s) (h : ∀ p ∈ pins', s.heap.get? p.1 = some p.2 ∧ H p.1 = none ∧ p.1 ≠ X.env.locals ∧ p.1 ∉ X.fs ∧ ∀ v, p.2.data ≠ .cell v) : Inv X pins' σ H s :=
  ⟨I.ok, I.os, I.bare, I.base, I.loc, I.cell, I.free, I.freeC, fun p hp => (List.mem_append.mp hp).elim (fun z => I.pin p (List.mem_append_left _ z)) (h p), I.hok, I.len⟩

theorem nodup_ix {N : List Str} (hN : N.Nodup) {i j : Nat} {x : Str} (a : N[i]? = some x) (b : N[j]? = some x) : i = j := by
  obtain ⟨h1, e1⟩ := List.getElem?_eq_some_iff.mp a
  obtain ⟨h2, e2⟩ := List.getElem?_eq_some_iff.mp b
  exact (List.getElem_inj hN).mp (e1.trans e2.symm)

theorem store_ok2 {M : Model} {A : Around} {E : Value → Shared → Prop} {i : Nat} {x : Str} {v : V} {u : Value} {Q : Unit → Shared → Prop} (I : Inv X pins σ H s) (hN : X.N.Nodup) (hi : X.N[i]? = some x) (hx : Loc X.env.scope x) (r : RelV v u)
    (h : ∀ s', Inv X pins (σ.set i (some v)) H s' → (∃ a, Heap.SameBut a s.heap s'.heap ∧ (a = X.env.locals ∨ X.env.cells.lookup x = some a)) → Q () s') (hf : X.fn x = true ∨ X.env.scope.names.lookup x = some .local := by first | exact .inl rfl | exact .inr rfl | assumption) : wpAny M A (storeName X.env x u) Q E s := by
  obtain ⟨m, hn, hl⟩ := id I.loc
  have hcls : (X.env.scope.kind == .class || (X.env.scope.kind == .module && X.env.locals != X.env.globals)) = false := by rw [I.ok.kind]; rfl
  have hiσ : i < σ.length := by rw [I.len]; exact (List.getElem?_eq_some_iff.mp hi).1
  have cne := I.cne
  have tracked : ∀ {a : Addr} {h' : Heap}, (∃ o, s.heap.get? a = some o ∧ H a = none) → Heap.SameBut a s.heap h' → HOk X.prog X.w H h' := fun {a h'} ha hs b ob e => by
    obtain ⟨_, _, hfree⟩ := ha
    refine (I.hok b ob e).stay (fun c w' hc q => (hs.2 c ?_).trans q) (fun _ q => q) fun _ _ q => q
    rintro rfl
    rcases hc with rfl | hc
    · rw [hfree] at e; cases e
    · rw [hfree] at hc; cases hc
  rcases hx with hk | hk
  · refine wpAny_storeName_local hk hn (fun h' hn' hs => ?_) hcls
    obtain ⟨oL, _, _, hoL, _⟩ := id hn
    refine h _ ⟨I.ok, I.os, I.bare, ⟨fun b o e n hb hx => ?_, fun b o e n hb hx => ?_, I.base.free, fun b o e hx => ?_, I.base.tups, I.base.frzs, I.base.tbls⟩, ⟨_, hn', fun j y v' e1 e2 e3 => ?_⟩, fun y c e => ?_, I.free, I.freeC, fun p hp => ?_, tracked ⟨oL, hoL, I.free⟩ hs, by simpa using I.len⟩ ⟨_, hs, .inl rfl⟩
    · exact (hs.2 b (Nat.ne_of_lt (Nat.lt_of_lt_of_le (Heap.lt_size e) I.ok.above))).trans (I.base.keep b o e n hb hx)
    · obtain ⟨sl, e1⟩ := I.base.slot b o e n hb hx
      exact ⟨sl, (hs.2 b (Nat.ne_of_lt (Nat.lt_of_lt_of_le (Heap.lt_size e) I.ok.above))).trans e1⟩
    · obtain ⟨o', e1⟩ := I.base.there b o e hx
      exact ⟨o', (hs.2 b (Nat.ne_of_lt (Nat.lt_of_lt_of_le (Heap.lt_size e) I.ok.above))).trans e1⟩
    · by_cases hj : j = i
      · subst hj
        rw [hi] at e1; cases e1
        rw [List.getElem?_set_self hiσ] at e2
        cases e2
        exact ⟨u, r, .inl ⟨hk, by simp⟩⟩
      · rw [List.getElem?_set_ne (Ne.symm hj)] at e2
        obtain ⟨u', r', q⟩ := hl j y v' e1 e2 e3
        refine ⟨u', r', ?_⟩
        rcases q with ⟨k, e⟩ | ⟨k, c, e, z⟩
        · refine .inl ⟨k, ?_⟩
          have : y ≠ x := fun e => hj (nodup_ix hN e1 (e ▸ hi))
          simp [this, e]
        · exact .inr ⟨k, c, e, z.sameBut hs (cne y c e)⟩
    · obtain ⟨w', z⟩ := I.cell y c e
      exact ⟨w', z.sameBut hs (cne y c e)⟩
    · obtain ⟨e, n, ne, nf, d⟩ := I.pin p hp
      exact ⟨(hs.2 p.1 ne).trans e, n, ne, nf, d⟩
  · have hfn : X.fn x = true := by
      rcases hf with z | z
      · exact z
      · rw [z] at hk; cases hk
    obtain ⟨c, hc⟩ := I.ok.has x (.inl hk)
    obtain ⟨w', z⟩ := I.cell x c hc
    refine wpAny_storeName_cell I.ok.kind hk hc z (fun h' hc' hs => ?_)
    obtain ⟨oc, hoc, hocd⟩ := id z
    refine h { s with heap := h' } ⟨I.ok, I.os, I.bare, ⟨fun b o e n hb hx => ?_, fun b o e n hb hx => ?_, I.base.free, fun b o e hx => ?_, I.base.tups, I.base.frzs, I.base.tbls⟩, ⟨m, hn.sameBut hs (Ne.symm (cne x c hc)), fun j y v' e1 e2 e3 => ?_⟩, fun y c' e => ?_, I.free, I.freeC, fun p hp => ?_, tracked ⟨oc, hoc, I.freeC x c hc⟩ hs, by simpa using I.len⟩ ⟨c, hs, .inr hc⟩
    · exact (hs.2 b (Nat.ne_of_lt (Nat.lt_of_lt_of_le (Heap.lt_size e) (I.ok.cab x c hfn hc)))).trans (I.base.keep b o e n hb hx)
    · obtain ⟨sl, e1⟩ := I.base.slot b o e n hb hx
      exact ⟨sl, (hs.2 b (Nat.ne_of_lt (Nat.lt_of_lt_of_le (Heap.lt_size e) (I.ok.cab x c hfn hc)))).trans e1⟩
    · obtain ⟨o', e1⟩ := I.base.there b o e hx
      exact ⟨o', (hs.2 b (Nat.ne_of_lt (Nat.lt_of_lt_of_le (Heap.lt_size e) (I.ok.cab x c hfn hc)))).trans e1⟩
    · by_cases hj : j = i
      · subst hj
        rw [hi] at e1; cases e1
        rw [List.getElem?_set_self hiσ] at e2
        cases e2
        exact ⟨u, r, .inr ⟨.inl hk, c, hc, hc'⟩⟩
      · rw [List.getElem?_set_ne (Ne.symm hj)] at e2
        obtain ⟨u', r', q⟩ := hl j y v' e1 e2 e3
        refine ⟨u', r', ?_⟩
        rcases q with q | ⟨k, c', e, z'⟩
        · exact .inl q
        · refine .inr ⟨k, c', e, z'.sameBut hs ?_⟩
          rintro rfl
          exact hj (nodup_ix hN e1 (I.ok.inj _ _ _ e hc ▸ hi))
    · by_cases hcc : c' = c
      · subst hcc; exact ⟨_, hc'⟩
      · obtain ⟨w2, z2⟩ := I.cell y c' e
        exact ⟨w2, z2.sameBut hs hcc⟩
    · obtain ⟨e, n, ne, nf, d⟩ := I.pin p hp
      refine ⟨(hs.2 p.1 ?_).trans e, n, ne, nf, d⟩
      intro q
      rw [q, hoc] at e
      have q' : oc = p.2 := Option.some.inj e
      exact d w' (by rw [← q']; exact hocd)
theorem store_ok {M : Model} {A : Around} {E : Value → Shared → Prop} {i : Nat} {x : Str} {v : V} {u : Value} {Q : Unit → Shared → Prop} (I : Inv X pins σ H s) (hN : X.N.Nodup) (hi : X.N[i]? = some x) (hx : Loc X.env.scope x) (r : RelV v u)
    (h : ∀ s', Inv X pins (σ.set i (some v)) H s' → Q () s') (hf : X.fn x = true ∨ X.env.scope.names.lookup x = some .local := by first | exact .inl rfl | exact .inr rfl | assumption) : wpAny M A (storeName X.env x u) Q E s :=
  store_ok2 I hN hi hx r (fun s' I' _ => h s' I') hf
theorem Inv.call' {s' : Shared} {ch : List Addr} (I : Inv X pins σ H s) (ho : s'.os = s.os) (u : Un (frs X.stack) ch H H' s.heap s'.heap) (hok : HOk X.prog X.w H' s'.heap) (hg : AllBare s'.gens)
    (hch : ∀ b ∈ ch, (b ∈ X.ex ∨ X.s₀.heap.objs.size ≤ b) ∧ b ≠ X.env.locals ∧ (∀ x c, X.env.cells.lookup x = some c → c ≠ b) ∧ ∀ p ∈ X.pn ++ pins, p.1 ≠ b) : Inv X pins σ H' s' := by
  obtain ⟨h', g', d', t', o'⟩ := s'
  have e : o' = s.os := ho
  subst e
  exact I.call (g' := g') (t' := t') (d' := d') u hok hg hch
end

abbrev XK := Value → Option Addr → Hp → Prop
abbrev St := List (Option V)
abbrev VK := V → Hp → Prop
abbrev TE := St → Hp → VK → Prop
abbrev TT := St → Hp → (Bool → Hp → Prop) → Prop
abbrev TA := St → Hp → (List V → Hp → Prop) → Prop
structure Ends where
  nx : St → Hp → Prop
  rt : VK
  bk : St → Hp → Prop := fun _ _ => False
  ct : St → Hp → Prop := fun _ _ => False
abbrev TS := Ends → St → Hp → Prop

def EP (X : Cx) (pins : List (Addr × Obj)) (σ : St) (Q : VK) (u : Value) (s' : Shared) : Prop := ∃ v H', Inv X pins σ H' s' ∧ RelV v u ∧ Q v H'
def TP (X : Cx) (pins : List (Addr × Obj)) (σ : St) (Q : Bool → Hp → Prop) (b : Bool) (s' : Shared) : Prop := ∃ H', Inv X pins σ H' s' ∧ Q b H'
def AP (X : Cx) (pins : List (Addr × Obj)) (σ : St) (Q : List V → Hp → Prop) (us : List Value) (s' : Shared) : Prop := ∃ vs H', Inv X pins σ H' s' ∧ Vals vs us ∧ Q vs H'
def SP (X : Cx) (pins : List (Addr × Obj)) (D : Ends) (f : Flow) (s' : Shared) : Prop :=
  match f with
  | .next => ∃ σ' H', Inv X pins σ' H' s' ∧ D.nx σ' H'
  | .brk => ∃ σ' H', Inv X pins σ' H' s' ∧ D.bk σ' H'
  | .cont => ∃ σ' H', Inv X pins σ' H' s' ∧ D.ct σ' H'
  | .ret u => ∃ v σ' H', Inv X pins σ' H' s' ∧ RelV v u ∧ D.rt v H'

def PE (X : Cx) (e : Expr) (t : TE) : Prop :=
  ∀ (pins : List (Addr × Obj)) (s : Shared) (σ : St) (H : Hp) (Q : VK), Inv X pins σ H s → t σ H Q → wpAny (model X.prog X.w) X.A (eval e X.env) (EP X pins σ Q) X.xe s
def PT (X : Cx) (e : Expr) (t : TT) : Prop :=
  ∀ (pins : List (Addr × Obj)) (s : Shared) (σ : St) (H : Hp) (Q : Bool → Hp → Prop), Inv X pins σ H s → t σ H Q → wpAny (model X.prog X.w) X.A (isTrue e X.env (eval e X.env)) (TP X pins σ Q) X.xe s
def PW (X : Cx) (e : Expr) (t : TT) : Prop :=
  ∀ (whole : Sem Value) (pins : List (Addr × Obj)) (s : Shared) (σ : St) (H : Hp) (Q : Bool → Hp → Prop), Inv X pins σ H s → t σ H Q → wpAny (model X.prog X.w) X.A (isTrue e X.env whole) (TP X pins σ Q) X.xe s
theorem PW.pt {X : Cx} {e : Expr} {t : TT} (h : PW X e t) : PT X e t := h _
def PA (X : Cx) (es : List Expr) (t : TA) : Prop :=
  ∀ (pos : Pos) (pins : List (Addr × Obj)) (s : Shared) (σ : St) (H : Hp) (Q : List V → Hp → Prop), Inv X pins σ H s → t σ H Q → wpAny (model X.prog X.w) X.A (spliced (backTo pos (starEach es X.env))) (AP X pins σ Q) X.xe s
def PS (X : Cx) (st : Stmt) (t : TS) : Prop :=
  ∀ (pins : List (Addr × Obj)) (s : Shared) (σ : St) (H : Hp) (D : Ends), Inv X pins σ H s → t D σ H → wpAny (model X.prog X.w) X.A (exec st X.env) (SP X pins D) X.xe s
def PSs (X : Cx) (st : List Stmt) (t : TS) : Prop :=
  ∀ (pins : List (Addr × Obj)) (s : Shared) (σ : St) (H : Hp) (D : Ends), Inv X pins σ H s → t D σ H → wpAny (model X.prog X.w) X.A (execs st X.env) (SP X pins D) X.xe s
theorem thn {α : Type} {t : Sem α} {Q Q' : α → Shared → Prop} {M : Model} {A : Around} {E : Value → Shared → Prop} {s : Shared} (h : wpAny M A t Q E s) (hQ : ∀ a s, Q a s → Q' a s) : wpAny M A t Q' E s := wpAny_mono h hQ fun _ _ x => x
end L2

namespace L2
open PySem PySem.Spec PyProof.Rows
section
variable {X : Cx}

def tVar (i : Nat) : TE := fun σ H Q => ∃ v, σ[i]? = some (some v) ∧ Q v H
def tC (v : V) : TE := fun _ H Q => Q v H
theorem pe_var {i : Nat} {x : Str} {pos : Pos} (hN : X.N[i]? = some x) (hv : Vis X.env.scope x) (hd : (x == ("__debug__" : Str)) = false := by decide) (hcd : (x == ("__classdict__" : Str)) = false := by decide) : PE X (.Name x pos) (tVar i) := by
  intro pins s σ H Q I h
  obtain ⟨v, e, h⟩ := h
  obtain ⟨m, hn, hl⟩ := I.loc
  obtain ⟨u, r, l⟩ := hl i x v hN e hv
  have fin : EP X pins σ Q u s := ⟨v, H, I, r, h⟩
  rcases l with ⟨hk, hm⟩ | ⟨hk, c, hc, hcell⟩
  · exact wpAny_Name (wpAny_loadName_local I.ok.kind hk hn hm fin) hd
  · rcases hk with hk | hk
    · exact wpAny_Name (wpAny_loadName_cell I.ok.kind hk hc hcell fin) hd
    · exact wpAny_Name (wpAny_loadName_free I.ok.kind hk hc hcell fin hcd) hd
theorem pe_int {i j pos} : PE X (.Constant (.int i) j pos) (tC (.int i)) := fun _ _ _ H _ I h => wpAny_Constant_int ⟨.int i, H, I.tok _, ⟨_, rfl⟩, h⟩
theorem pe_bl {b j pos} : PE X (.Constant (.bool b) j pos) (tC (.bl b)) := fun _ _ _ H _ I h => Constant_bool ⟨.bl b, H, I, rfl, h⟩
theorem pe_non {j pos} : PE X (.Constant .none j pos) (tC .non) := fun _ _ _ H _ I h => Constant_none ⟨.non, H, I, rfl, h⟩
def Gl (X : Cx) (x : Str) : Prop := X.env.kindOf x = some .globalImplicit
theorem ld_glob {E : Value → Shared → Prop} {pins : List (Addr × Obj)} {s : Shared} {σ : St} {H : Hp} {x : Str} {u : Value} {pos : Pos} {Q : Value → Shared → Prop} (I : Inv X pins σ H s) (hg : Gl X x) (hm : X.mg x = some u) (h : Q u s)
    (hd : (x == ("__debug__" : Str)) = false := by decide) : wpAny (model X.prog X.w) X.A (eval (.Name x pos) X.env) Q E s :=
  Calls.Name_function_global I.ok.kind hg (Calls.loadGlobal_global (by rw [I.ok.glob]; exact I.mod.glob.keeps I.bk) hm h) hd
theorem ld_blt {E : Value → Shared → Prop} {pins : List (Addr × Obj)} {s : Shared} {σ : St} {H : Hp} {x : Str} {u : Value} {pos : Pos} {Q : Value → Shared → Prop} (I : Inv X pins σ H s) (hg : Gl X x) (hm : X.mg x = none) (hv : bootBuiltins x = some u) (h : Q u s)
    (hn : x ≠ "__name__" := by decide) (hd : (x == ("__debug__" : Str)) = false := by decide) : wpAny (model X.prog X.w) X.A (eval (.Name x pos) X.env) Q E s := by
  obtain ⟨mb, h1, h2⟩ := I.mod.blt
  exact Calls.Name_function_global I.ok.kind hg (Calls.loadGlobal_builtin (by rw [I.ok.glob]; exact I.mod.glob.keeps I.bk) hm (by rw [I.ok.blt]; exact h1.keeps I.bk) ((h2 x hn).trans hv) h) hd
theorem pe_glob {x : Str} {v : V} {u : Value} {pos : Pos} (hg : Gl X x) (hm : X.mg x = some u) (r : RelV v u) (hd : (x == ("__debug__" : Str)) = false := by decide) : PE X (.Name x pos) (tC v) :=
  fun _ _ _ H _ I h => ld_glob I hg hm ⟨v, H, I, r, h⟩ hd
theorem pe_bltn {x : Str} {v : V} {u : Value} {pos : Pos} (hg : Gl X x) (hm : X.mg x = none) (hv : bootBuiltins x = some u) (r : RelV v u) (hn : x ≠ "__name__" := by decide) (hd : (x == ("__debug__" : Str)) = false := by decide) : PE X (.Name x pos) (tC v) :=
  fun _ _ _ H _ I h => ld_blt I hg hm hv ⟨v, H, I, r, h⟩ hn hd

variable {a b : Expr} {ta tb : TE} {pos : Pos}
def tB (t : TE) : TT := fun σ H Q => t σ H fun x H1 => ∃ c, x = .bl c ∧ Q c H1
theorem pt_val {e : Expr} {t : TE} (h : PE X e t) (he : ∀ whole, isTrue e X.env whole = (do let v ← whole; standAt e.pos; holding [v] (truthy v)) := by intro _; rfl) : PT X e (tB t) := by
  intro pins s σ H Q I hw
  refine isTrue_plain (thn (h pins s σ H _ I hw) fun v s1 ⟨x, H1, I1, r1, q1⟩ => ?_) (he _)
  obtain ⟨d, rfl, q⟩ := q1
  cases r1
  exact wpAny_truthy_bool ⟨H1, I1, q⟩

variable {tA tB' : TT} {rest : List Expr}
def tOr (t u : TT) : TT := fun σ H Q => t σ H fun c H1 => if c = true then Q true H1 else u σ H1 Q
def tNot (t : TT) : TT := fun σ H Q => t σ H fun c H1 => Q (!c) H1
theorem pw_or1 (ha : PT X a tA) : PW X (.BoolOp .Or [a] pos) tA := by
  intro wh pins s σ H Q I h
  refine isTrue_or (thn (ha pins s σ H Q I h) fun c s1 e => ?_)
  cases c with
  | false => exact isTrue_or_nil e
  | true => exact e
theorem pw_or (ha : PT X a tA) (hb : PW X (.BoolOp .Or (b :: rest) pos) tB') : PW X (.BoolOp .Or (a :: b :: rest) pos) (tOr tA tB') := by
  intro wh pins s σ H Q I h
  refine isTrue_or (thn (ha pins s σ H _ I h) fun c s1 ⟨H1, I1, q1⟩ => ?_)
  cases c with
  | true => exact ⟨H1, I1, q1⟩
  | false => exact hb wh pins s1 σ H1 Q I1 q1
theorem pt_not (ha : PT X a tA) : PT X (.UnaryOp .Not a pos) (tNot tA) := by
  intro pins s σ H Q I h
  exact isTrue_not (ha pins s σ H (fun c H1 => Q (!c) H1) I h)
def tOrV (ta tb : TE) : TE := fun σ H Q => ta σ H fun x H1 => ∃ c, x = .bl c ∧ if c = true then Q (.bl true) H1 else tb σ H1 Q
theorem pe_one {op} {t : TE} (h : PE X a t) : PE X (.BoolOp op [a] pos) t := fun pins s σ H Q I hw => BoolOp_one (h pins s σ H Q I hw)
theorem pe_or (ha : PE X a ta) (hb : PE X (.BoolOp .Or (b :: rest) pos) tb) : PE X (.BoolOp .Or (a :: b :: rest) pos) (tOrV ta tb) := by
  intro pins s σ H Q I h
  refine BoolOp_or (thn (ha pins s σ H _ I h) fun v s1 ⟨x, H1, I1, r1, q1⟩ => ?_)
  obtain ⟨c, rfl, q1⟩ := q1
  cases r1
  refine wpAny_truthy_bool ?_
  cases c with
  | false => exact hb pins s1 σ H1 Q I1 q1
  | true => exact ⟨.bl true, H1, I1, rfl, q1⟩
def tIf (t : TT) (ta tb : TE) : TE := fun σ H Q => t σ H fun c H1 => if c = true then ta σ H1 Q else tb σ H1 Q
theorem pe_ifExp {c : Expr} (hc : PT X c tA) (ha : PE X a ta) (hb : PE X b tb) : PE X (.IfExp c a b pos) (tIf tA ta tb) := by
  intro pins s σ H Q I h
  refine wpAny_IfExp (thn (hc pins s σ H _ I h) fun d s1 ⟨H1, I1, q1⟩ => ?_)
  cases d with
  | true => exact ha pins s1 σ H1 Q I1 q1
  | false => exact hb pins s1 σ H1 Q I1 q1
end
end L2

namespace L2
open PySem PySem.Spec PyProof.Rows

def SqL (K : PySem.W.Frag) (H : Hp) (a : Addr) (xs : List V) : Prop :=
  Rd H a (.lst xs) ∨
    ∃ (o : Obj) (its : Array Value) (n : Nat), K.lookup a = some o ∧ o.cls = .type "list" ∧ o.dict = none ∧ o.data = .seq its n ∧ its.size ≤ sizeLine ∧ Vals xs its.toList
def SqT (K : PySem.W.Frag) (H : Hp) (a : Addr) (xs : List V) : Prop :=
  Rd H a (.tup xs) ∨
    ∃ (o : Obj) (its : Array Value) (n : Nat), K.lookup a = some o ∧ o.cls = .type "tuple" ∧ o.data = .seq its n ∧ its.size ≤ sizeLine ∧ Vals xs its.toList
def absV : Value → Option V
  | .none => some .non
  | .bool b => some (.bl b)
  | .int i _ => some (.int i)
  | .str x _ => some (.str x)
  | .bytes b _ => some (.byt b)
  | .float b _ => some (.flt b)
  | .ref a => some (.ref a)
  | .type n => some (.ty n)
  | _ => none
theorem RelV.abs {x : V} {u : Value} (r : RelV x u) : absV u = some x := by
  cases x with
  | non => cases r; rfl
  | bl _ => cases r; rfl
  | int _ => obtain ⟨t, rfl⟩ := r; rfl
  | str _ => obtain ⟨t, rfl⟩ := r; rfl
  | byt _ => obtain ⟨t, rfl⟩ := r; rfl
  | flt _ => obtain ⟨t, rfl⟩ := r; rfl
  | ref _ => cases r; rfl
  | ty _ => cases r; rfl
theorem RelV.inj {x y : V} {u : Value} (r : RelV x u) (q : RelV y u) : x = y := Option.some.inj (r.abs.symm.trans q.abs)
theorem Vals.inj : ∀ {xs ys : List V} {us : List Value}, Vals xs us → Vals ys us → xs = ys
  | _, _, _, .nil, .nil => rfl
  | _, _, _, .cons r t, .cons r' t' => by rw [r.inj r', Vals.inj t t']
section
variable {X : Cx} {pins : List (Addr × Obj)} {σ : St} {H : Hp} {s : Shared} {a : Addr} {xs ys : List V}
theorem Inv.list (I : Inv X pins σ H s) (h : SqL X.K H a xs) : ∃ its : List Value, Vals xs its ∧ PlainL s.heap a its.toArray ∧ xs.length ≤ sizeLine := by
  rcases h with h | ⟨o, its, n, hk, hc, hd, hs, hz, r⟩
  · obtain ⟨z, its, n, r, e⟩ := h.ok I.hok
    exact ⟨its, r, ⟨_, n, e, rfl, rfl, rfl⟩, z⟩
  · refine ⟨its.toList, r, ⟨o, n, I.kIn a o hk, hc, hd, by simpa using hs⟩, ?_⟩
    have e := r.length
    simp only [Array.length_toList] at e
    omega
theorem Inv.tuple (I : Inv X pins σ H s) (h : SqT X.K H a xs) : ∃ its : List Value, Vals xs its ∧ IsTup s.heap a its.toArray ∧ xs.length ≤ sizeLine := by
  rcases h with h | ⟨o, its, n, hk, hc, hs, hz, r⟩
  · obtain ⟨z, its, r, p⟩ := h.ok I.hok
    exact ⟨its, r, p, z⟩
  · refine ⟨its.toList, r, ⟨o, I.kIn a o hk, hc, n, by simpa using hs⟩, ?_⟩
    have e := r.length
    simp only [Array.length_toList] at e
    omega
theorem Inv.list_inj (I : Inv X pins σ H s) (h : SqL X.K H a xs) (h' : SqL X.K H a ys) : xs = ys := by
  obtain ⟨its, r, ⟨o, n, e, _, _, d⟩, _⟩ := I.list h
  obtain ⟨its', r', ⟨o', n', e', _, _, d'⟩, _⟩ := I.list h'
  rw [e] at e'; cases e'
  rw [d] at d'
  injection d' with d1 _
  have : its = its' := by simpa using congrArg Array.toList d1
  subst this
  exact r.inj r'
theorem Inv.tuple_inj (I : Inv X pins σ H s) (h : SqT X.K H a xs) (h' : SqT X.K H a ys) : xs = ys := by
  obtain ⟨its, r, ⟨o, e, _, n, d⟩, _⟩ := I.tuple h
  obtain ⟨its', r', ⟨o', e', _, n', d'⟩, _⟩ := I.tuple h'
  rw [e] at e'; cases e'
  rw [d] at d'
  injection d' with d1 _
  have : its = its' := by simpa using congrArg Array.toList d1
  subst this
  exact r.inj r'
end

abbrev Cx.wish (X : Cx) (E : Value → Shared → Prop) : Cx := { X with xe := E }
abbrev Cx.nox (X : Cx) : Cx := X.wish fun _ _ => False
theorem Cx.Ok.wish {X : Cx} (ok : X.Ok) (E : Value → Shared → Prop) : (X.wish E).Ok :=
  ⟨ok.mod, ok.kind, ok.glob, ok.blt, ok.above, ok.inj, ok.has, ok.cab, ok.hd, ok.frames, ok.stk, ok.exf, ok.bs, ok.bsz, ok.noex, ok.exfs, ok.funs, ok.frf⟩
theorem Cx.Ok.unwish {X : Cx} {E : Value → Shared → Prop} (ok : (X.wish E).Ok) : X.Ok :=
  ⟨ok.mod, ok.kind, ok.glob, ok.blt, ok.above, ok.inj, ok.has, ok.cab, ok.hd, ok.frames, ok.stk, ok.exf, ok.bs, ok.bsz, ok.noex, ok.exfs, ok.funs, ok.frf⟩
section
variable {X : Cx} {pins : List (Addr × Obj)} {σ : St} {H : Hp} {s : Shared} {E : Value → Shared → Prop}
theorem Inv.wish (I : Inv X pins σ H s) (E : Value → Shared → Prop) : Inv (X.wish E) pins σ H s := ⟨I.ok.wish E, I.os, I.bare, I.base, I.loc, I.cell, I.free, I.freeC, I.pin, I.hok, I.len⟩
theorem Inv.unwish (I : Inv (X.wish E) pins σ H s) : Inv X pins σ H s := ⟨I.ok.unwish, I.os, I.bare, I.base, I.loc, I.cell, I.free, I.freeC, I.pin, I.hok, I.len⟩
theorem SP.unwish {D : Ends} {f : Flow} {s' : Shared} (h : SP (X.wish E) pins D f s') : SP X pins D f s' := by
  cases f with
  | next => obtain ⟨σ', H', I, q⟩ := h; exact ⟨σ', H', I.unwish, q⟩
  | brk => obtain ⟨σ', H', I, q⟩ := h; exact ⟨σ', H', I.unwish, q⟩
  | cont => obtain ⟨σ', H', I, q⟩ := h; exact ⟨σ', H', I.unwish, q⟩
  | ret u => obtain ⟨v, σ', H', I, r, q⟩ := h; exact ⟨v, σ', H', I.unwish, r, q⟩
theorem PSs.nox {st : List Stmt} {t : TS} (h : PSs X.nox st t) : PSs X st t := fun pins s σ H D I hw =>
  wpAny_mono (h pins s σ H D (I.wish _) hw) (fun _ _ q => q.unwish) fun _ _ z => False.elim z
end

section
variable {X : Cx} {st : Stmt} {rest : List Stmt} {t u : TS} {e : Expr} {te : TE} {pos : Pos}
def tNext : TS := fun D σ H => D.nx σ H
def tSeq (t u : TS) : TS := fun D σ H => t { D with nx := u D } σ H
theorem pss_nil : PSs X [] tNext := fun _ _ σ H _ I h => wpAny_execs_nil ⟨σ, H, I, h⟩
theorem pss_cons (h1 : PS X st t) (h2 : PSs X rest u) : PSs X (st :: rest) (tSeq t u) := by
  intro pins s σ H D I h
  refine wpAny_execs_cons (thn (h1 pins s σ H { D with nx := u D } I h) fun f s1 q => ?_)
  cases f with
  | next =>
    obtain ⟨σ', H', I', q⟩ := q
    exact h2 pins s1 σ' H' D I' q
  | ret v => exact q
  | brk => exact q
  | cont => exact q
theorem pss_one (h1 : PS X st t) : PSs X [st] t := by
  intro pins s σ H D I h
  refine wpAny_execs_cons (thn (h1 pins s σ H D I h) fun f s1 q => ?_)
  cases f with
  | next => exact wpAny_execs_nil q
  | ret v => exact q
  | brk => exact q
  | cont => exact q
theorem Inv.quiet {pins : List (Addr × Obj)} {σ : St} {H : Hp} {s : Shared} (I : Inv X pins σ H s) : interactive X.env = false := by simp [interactive, I.ok.kind]
def tDrop (te : TE) : TS := fun D σ H => te σ H fun _ H1 => D.nx σ H1
theorem ps_expr (he : PE X e te) (hs : swapsWith e none pos.line X.env = pure false := by rfl) : PS X (.Expr e pos) (tDrop te) := by
  intro pins s σ H D I h
  exact wpAny_Expr_any (thn (he pins s σ H _ I h) fun v s1 ⟨x, H1, I1, r1, q1⟩ => ⟨σ, H1, I1, q1⟩) I.quiet hs
def tRet (te : TE) : TS := fun D σ H => te σ H D.rt
theorem ps_ret (he : PE X e te) : PS X (.Return (some e) pos) (tRet te) := by
  intro pins s σ H D I h
  exact wpAny_Return_some (thn (he pins s σ H _ I h) fun v s1 ⟨x, H1, I1, r1, q1⟩ => ⟨x, σ, H1, I1, r1, q1⟩)
def tIfS (c : TT) (t u : TS) : TS := fun D σ H => c σ H fun b H1 => if b = true then t D σ H1 else u D σ H1
theorem ps_if {c : Expr} {a b : List Stmt} {tc : TT} (hc : PT X c tc) (ha : PSs X a t) (hb : PSs X b u) : PS X (.If c a b pos) (tIfS tc t u) := by
  intro pins s σ H D I h
  refine wpAny_If (thn (hc pins s σ H _ I h) fun d s1 ⟨H1, I1, q1⟩ => ?_)
  cases d with
  | true => exact ha pins s1 σ H1 D I1 q1
  | false => exact hb pins s1 σ H1 D I1 q1
def tNever : TS := fun _ _ _ => False
theorem ps_never : PS X st tNever := fun _ _ _ _ _ _ h => h.elim
theorem pss_never {sts : List Stmt} : PSs X sts tNever := fun _ _ _ _ _ _ h => h.elim
end

abbrev TG := V → St → Hp → (St → Hp → Prop) → Prop
abbrev TGs := List V → St → Hp → (St → Hp → Prop) → Prop
def PG (X : Cx) (target : Expr) (t : TG) : Prop :=
  ∀ (pins : List (Addr × Obj)) (s : Shared) (σ : St) (H : Hp) (v : V) (u : Value) (Q : St → Hp → Prop), Inv X pins σ H s → RelV v u → t v σ H Q →
    wpAny (model X.prog X.w) X.A (assign target X.env u) (fun _ s' => ∃ σ' H', Inv X pins σ' H' s' ∧ Q σ' H') X.xe s
def PGs (X : Cx) (ts : List Expr) (t : TGs) : Prop :=
  ∀ (pins : List (Addr × Obj)) (s : Shared) (σ : St) (H : Hp) (vs : List V) (us : List Value) (Q : St → Hp → Prop), Inv X pins σ H s → Vals vs us → t vs σ H Q →
    wpAny (model X.prog X.w) X.A (assignInOrder ((assignEach ts X.env).map (·.2)) us) (fun _ s' => ∃ σ' H', Inv X pins σ' H' s' ∧ Q σ' H') X.xe s
abbrev TSet := V → V → V → Hp → (Hp → Prop) → Prop
def PSet (X : Cx) (t : TSet) : Prop :=
  ∀ (pins : List (Addr × Obj)) (s : Shared) (σ : St) (H : Hp) (o i v : V) (ov iv u : Value) (Q : Hp → Prop), Inv X pins σ H s → RelV o ov → RelV i iv → RelV v u → t o i v H Q →
    wpAny (model X.prog X.w) X.A (setItem ov iv u) (fun _ s' => ∃ H', Inv X pins σ H' s' ∧ Q H') X.xe s
section
variable {X : Cx} {pos : Pos}
def gName (i : Nat) : TG := fun v σ H Q => Q (σ.set i (some v)) H
theorem pg_name {i : Nat} {x : Str} (hN : X.N.Nodup) (hi : X.N[i]? = some x) (hx : Loc X.env.scope x) (hf : X.fn x = true ∨ X.env.scope.names.lookup x = some .local := by first | exact .inl rfl | exact .inr rfl | assumption) : PG X (.Name x pos) (gName i) := by
  intro pins s σ H v u Q I r h
  exact wpAny_assign_Name (store_ok I hN hi hx r (fun s' I' => ⟨_, H, I', h⟩) hf)
def gNil : TGs := fun vs σ H Q => vs = [] ∧ Q σ H
def gCons (t : TG) (u : TGs) : TGs := fun vs σ H Q => ∃ v r, vs = v :: r ∧ t v σ H fun σ' H' => u r σ' H' Q
theorem pgs_nil : PGs X [] gNil := by
  intro pins s σ H vs us Q I r h
  obtain ⟨e, h⟩ := h
  subst e
  cases r
  exact assignInOrder_nil ⟨σ, H, I, h⟩
theorem pgs_cons {e : Expr} {es : List Expr} {t : TG} {u : TGs} (h1 : PG X e t) (h2 : PGs X es u)
    (hs : (assignEach (e :: es) X.env).map (·.2) = assign e X.env :: (assignEach es X.env).map (·.2) := by rfl) : PGs X (e :: es) (gCons t u) := by
  intro pins s σ H vs us Q I r h
  obtain ⟨v, vr, e1, h⟩ := h
  subst e1
  cases r with
  | cons r rr =>
    rw [hs]
    refine assignInOrder_cons (thn (h1 pins s σ H _ _ _ I r h) fun _ s1 ⟨σ1, H1, I1, q1⟩ => ?_)
    exact h2 pins s1 σ1 H1 _ _ Q I1 rr q1
def gTup (K : PySem.W.Frag) (n : Nat) (t : TGs) : TG := fun v σ H Q => ∃ a xs, v = .ref a ∧ SqT K H a xs ∧ xs.length = n ∧ t xs σ H Q
theorem pg_tup {es : List Expr} {k : Nat} {t : TGs} {n : Nat} (hc : X.calm = true) (h : PGs X es t)
    (hn : (assignEach es X.env).length = n := by rfl) (hst : (assignEach es X.env).findIdx? (·.1) = none := by rfl) : PG X (.Tuple es k pos) (gTup X.K n t) := by
  intro pins s σ H v u Q I r hw
  obtain ⟨a, xs, e1, hq, hl, hw⟩ := hw
  subst e1
  cases r
  obtain ⟨its, rv, ht, hz⟩ := I.tuple hq
  refine assign_Tuple_tuple (I.ok.hd hc) ht (by simp [hn, ← hl, rv.length]) hst fun h' hx => ?_
  have I1 : Inv X pins σ H { s with heap := h' } := I.kept (t' := s.toks) fun b o e => hx b o (Nat.ne_of_lt (Heap.lt_size e)) e
  exact h pins _ σ H xs _ Q I1 (by simpa using rv) hw
def gSub (to ti : TE) (t : TSet) : TG := fun v σ H Q => to σ H fun o H1 => ti σ H1 fun i H2 => t o i v H2 fun H3 => Q σ H3
theorem pg_sub {o i : Expr} {to ti : TE} {t : TSet} (ho : PE X o to) (hi : PE X i ti) (hs : PSet X t)
    (ha : ∀ v, assign (.Subscript o i pos) X.env v = (do
      let ov ← holding [v] (eval o X.env)
      let iv ← holding [v, ov] (eval i X.env)
      standAt pos
      holding [v, ov, iv] (setItem ov iv v)
      release [v, ov, iv] []) := by intro _; rfl) : PG X (.Subscript o i pos) (gSub to ti t) := by
  intro pins s σ H v u Q I r h
  rw [ha]
  refine wpAny_bind (wpAny_holding (thn (ho pins s σ H _ I h) fun ov s1 ⟨x, H1, I1, r1, q1⟩ => ?_))
  refine wpAny_bind (wpAny_holding (thn (hi pins s1 σ H1 _ I1 q1) fun iv s2 ⟨y, H2, I2, r2, q2⟩ => ?_))
  refine wpAny_bind (wpAny_standAt (wpAny_bind (wpAny_holding (thn (hs pins s2 σ H2 x y v ov iv u _ I2 r1 r2 r q2) fun _ s3 ⟨H3, I3, q3⟩ => ?_))))
  exact wpAny_release ⟨σ, H3, I3, q3⟩
def tAsg (te : TE) (g : TG) : TS := fun D σ H => te σ H fun x H1 => g x σ H1 D.nx
theorem ps_asg {tg e : Expr} {te : TE} {g : TG} (he : PE X e te) (hg : PG X tg g) (hs : swapsWithSole [tg] e pos.line X.env = pure false := by rfl) (hw : swappedStores [tg] e X.env = pure none := by rfl)
    (h1 : (assignEach [tg] X.env).map (·.2) = [assign tg X.env] := by rfl) : PS X (.Assign [tg] e pos) (tAsg te g) := by
  intro pins s σ H D I h
  refine wpAny_Assign_stores (thn (he pins s σ H _ I h) fun v s1 ⟨x, H1, I1, r1, q1⟩ => ?_) hs hw
  rw [h1]
  exact thn (hg pins s1 σ H1 x v _ I1 r1 q1) fun _ s2 q => q
theorem ps_set {i : Nat} {x : Str} {e : Expr} {te : TE} {pos' : Pos} (hN : X.N.Nodup) (hi : X.N[i]? = some x) (hx : Loc X.env.scope x) (he : PE X e te) (hs : swapsWith e (some (.Name x pos')) pos.line X.env = pure false := by rfl) (hf : X.fn x = true ∨ X.env.scope.names.lookup x = some .local := by first | exact .inl rfl | exact .inr rfl | assumption) :
    PS X (.Assign [.Name x pos'] e pos) (tAsg te (gName i)) := by
  intro pins s σ H D I h
  refine wpAny_Assign_Name (thn (he pins s σ H _ I h) fun v s1 ⟨y, H1, I1, r1, q1⟩ => ?_) hs
  exact store_ok I1 hN hi hx r1 (fun s2 I2 => ⟨_, H1, I2, q1⟩) hf
end

section
variable {X : Cx} {pos : Pos}
end

structure It where
  go : Nat → Hp → Prop
  yld : Nat → Hp → V → Hp → Prop
  stop : Nat → Hp → Prop
def FpOk (X : Cx) (pins : List (Addr × Obj)) (H : Hp) (b : Addr) : Prop :=
  H b = none ∧ b ≠ X.env.locals ∧ b ∉ X.fs ∧ (b ∈ X.ex ∨ X.s₀.heap.objs.size ≤ b) ∧ (∀ x c, X.env.cells.lookup x = some c → c ≠ b) ∧ ∀ p ∈ X.pn ++ pins, p.1 ≠ b
theorem Inv.fpOk {X : Cx} {pins : List (Addr × Obj)} {σ : St} {H H' : Hp} {s : Shared} {b : Addr} (I : Inv X pins σ H s) (hb : s.heap.objs.size ≤ b) (hn : H' b = none) : FpOk X pins H' b := by
  refine ⟨hn, Nat.ne_of_gt (Nat.lt_of_lt_of_le I.lt hb), I.nofs hb, .inr (Nat.le_trans I.sz hb), fun x c e z => ?_, fun p hp z => ?_⟩
  · obtain ⟨v, q⟩ := I.cell x c e
    exact absurd (Nat.lt_of_lt_of_le q.lt (by rw [z]; exact hb)) (Nat.lt_irrefl _)
  · exact absurd (Nat.lt_of_lt_of_le (Heap.lt_size (I.pin p hp).1) (by rw [z]; exact hb)) (Nat.lt_irrefl _)
structure Turn (P : Program) (w : World) (K : PySem.W.Frag) (tg : Expr) (J : It) (fp : List Addr) (it : Addr) (tn : Nat → Heap → Prop) : Prop where
  mem : it ∈ fp
  obj : ∀ i h, tn i h → ∀ b ∈ fp, ∃ o, h.get? b = some o ∧ ∀ v, o.data ≠ .cell v
  keep : ∀ i h h', tn i h → (∀ b ∈ fp, ∀ o, h.get? b = some o → h'.get? b = some o) → tn i h'
  item : ∀ (X : Cx), X.prog = P → X.w = w → X.K = K → X.calm = true → ∀ (i : Nat) (pins : List (Addr × Obj)) (s : Shared) (σ : St) (H : Hp) (E : Value → Shared → Prop), Inv X pins σ H s → (∀ b ∈ fp, FpOk X pins H b) → tn i s.heap → J.go i H →
    wpAny (model P w) X.A (pyNext (.ref it)) (fun r s1 => ∃ u, r = some u ∧
      wpAny (model P w) X.A (letOwnedTupleGo tg (.ref it) u) (fun _ s2 => ∃ x H', Inv X pins σ H' s2 ∧ RelV x u ∧ J.yld i H x H' ∧ tn (i + 1) s2.heap ∧ ∀ b ∈ fp, H' b = none) E s1) E s
  done : ∀ (X : Cx), X.prog = P → X.w = w → X.K = K → X.calm = true → ∀ (i : Nat) (pins : List (Addr × Obj)) (s : Shared) (σ : St) (H : Hp) (E : Value → Shared → Prop), Inv X pins σ H s → (∀ b ∈ fp, FpOk X pins H b) → tn i s.heap → J.stop i H →
    wpAny (model P w) X.A (pyNext (.ref it)) (fun r s1 => r = none ∧ Inv X pins σ H s1) E s
  self : ∀ (A : Around) (i : Nat) (s : Shared) (Q : Value → Shared → Prop) (E : Value → Shared → Prop), tn i s.heap → Q (.ref it) s → wpAny (model P w) A (pyIter (.ref it)) Q E s
abbrev TI := St → Hp → (It → Hp → Prop) → Prop
def PIE (X : Cx) (pins : List (Addr × Obj)) (σ : St) (tg : Expr) (R : It → Hp → Prop) (itv : Value) (s2 : Shared) : Prop :=
  ∃ (it : Addr) (fp : List Addr) (tn : Nat → Heap → Prop) (J : It) (H' : Hp), itv = .ref it ∧ Inv X pins σ H' s2 ∧ Turn X.prog X.w X.K tg J fp it tn ∧ tn 0 s2.heap ∧ (∀ b ∈ fp, FpOk X pins H' b) ∧ R J H'
def PI (X : Cx) (tg iter : Expr) (wi : TI) : Prop :=
  ∀ (pins : List (Addr × Obj)) (s : Shared) (σ : St) (H : Hp) (R : It → Hp → Prop), Inv X pins σ H s → wi σ H R →
    wpAny (model X.prog X.w) X.A (eval iter X.env) (fun v s1 => wpAny (model X.prog X.w) X.A (pyIter v) (PIE X pins σ tg R) X.xe s1) X.xe s

theorem go_of {M : Model} {A : Around} {E : Value → Shared → Prop} {s : Shared} {tg : Expr} {it : Addr} {u : Value} {o : Obj} {n : String} {vs : Array Value} {Q : Unit → Shared → Prop} (ho : s.heap.get? it = some o) (hc : o.cls = .type n) (hd : o.data = .fields vs)
    (hn : ["enumerate", "zip", "dict_itemiterator", "dict_reverseitemiterator", "odict_iterator", "itertools.zip_longest", "itertools.pairwise"].contains n = false) (hQ : Q () s) : wpAny M A (letOwnedTupleGo tg (.ref it) u) Q E s := by
  unfold letOwnedTupleGo
  cases tg <;> first
    | exact wpAny_pure hQ
    | (cases u <;> first
        | exact wpAny_pure hQ
        | (refine wpAny_bind (wpAny_load ho ?_)
           rw [hc, hd]
           show wpAny M A (if (["enumerate", "zip", "dict_itemiterator", "dict_reverseitemiterator", "odict_iterator", "itertools.zip_longest", "itertools.pairwise"].contains n && vs[0]? == some (rawInt _)) = true then _ else _) Q E s
           rw [if_neg (by intro h; rw [hn, Bool.false_and] at h; cases h)]
           exact wpAny_pure hQ))

def Itl (K : PySem.W.Frag) (a : Addr) : It :=
  ⟨fun i H => ∃ xs x, SqL K H a xs ∧ xs[i]? = some x, fun i H x H' => H' = H ∧ ∀ xs, SqL K H a xs → xs[i]? = some x, fun i H => ∃ xs, SqL K H a xs ∧ xs.length ≤ i⟩
def Itt (K : PySem.W.Frag) (a : Addr) : It :=
  ⟨fun i H => ∃ xs x, SqT K H a xs ∧ xs[i]? = some x, fun i H x H' => H' = H ∧ ∀ xs, SqT K H a xs → xs[i]? = some x, fun i H => ∃ xs, SqT K H a xs ∧ xs.length ≤ i⟩
def Itr (lo : Int) (n : Nat) : It := ⟨fun i _ => i < n, fun i H x H' => H' = H ∧ x = .int (lo + i), fun i _ => n ≤ i⟩
theorem turn_list {P : Program} {w : World} {K : PySem.W.Frag} {tg : Expr} (a it : Addr) : Turn P w K tg (Itl K a) [it] it (fun i h => h.IsListIter it a i) where
  mem := by simp
  obj := fun i h st b hb => by
    have e : b = it := by simpa using hb
    subst e
    obtain ⟨o, e, c, d⟩ := st
    exact ⟨o, e, fun v z => by rw [d] at z; cases z⟩
  keep := fun i h h' st k => st.at fun o e => k it (by simp) o e
  item := by
    intro X hP hw hK hc i pins s σ H E I hf st hg
    subst hP hw hK
    obtain ⟨xs, x, hq, hx⟩ := hg
    obtain ⟨its, rv, p, hz⟩ := I.list hq
    obtain ⟨u, hu, ru⟩ := rv.get hx
    obtain ⟨f0, f1, f2, f3, f4, f5⟩ := hf it (by simp)
    refine wpAny_pyNext_list_item st p.isList (x := u) (by simpa using hu) fun h' st' sb => ?_
    have I1 : Inv X pins σ H { s with heap := h' } := I.turned (t' := s.toks) (fun b o hb e => (sb.2 b hb).trans e) f0 f1 f3 f4 f5
    obtain ⟨o, e, c, d⟩ := id st'
    exact ⟨u, rfl, go_of (s := { s with heap := h' }) e c d (by decide) ⟨x, H, I1, ru, ⟨rfl, fun ys hy => by rw [I.list_inj hy hq]; exact hx⟩, st', fun b hb => (hf b hb).1⟩⟩
  done := by
    intro X hP hw hK hc i pins s σ H E I hf st hg
    subst hP hw hK
    obtain ⟨xs, hq, hx⟩ := hg
    obtain ⟨its, rv, p, hz⟩ := I.list hq
    obtain ⟨f0, f1, f2, f3, f4, f5⟩ := hf it (by simp)
    have hl := rv.length
    exact wpAny_pyNext_list_end (I.ok.hd hc) st p.isList (by simp; omega) fun h' eb => ⟨rfl, I.turned (t' := s.toks) (fun b o hb e => eb b o hb e) f0 f1 f3 f4 f5⟩
  self := fun _ _ _ _ _ st h => wpAny_pyIter_listiter st h
theorem turn_tuple {P : Program} {w : World} {K : PySem.W.Frag} {tg : Expr} (a it : Addr) : Turn P w K tg (Itt K a) [it] it (fun i h => h.IsTupleIter it a i) where
  mem := by simp
  obj := fun i h st b hb => by
    have e : b = it := by simpa using hb
    subst e
    obtain ⟨o, e, c, d⟩ := st
    exact ⟨o, e, fun v z => by rw [d] at z; cases z⟩
  keep := fun i h h' st k => st.at fun o e => k it (by simp) o e
  item := by
    intro X hP hw hK hc i pins s σ H E I hf st hg
    subst hP hw hK
    obtain ⟨xs, x, hq, hx⟩ := hg
    obtain ⟨its, rv, p, hz⟩ := I.tuple hq
    obtain ⟨u, hu, ru⟩ := rv.get hx
    obtain ⟨f0, f1, f2, f3, f4, f5⟩ := hf it (by simp)
    refine wpAny_pyNext_tuple_item st (show s.heap.IsTuple a its.toArray from p) (x := u) (by simpa using hu) fun h' st' sb => ?_
    have I1 : Inv X pins σ H { s with heap := h' } := I.turned (t' := s.toks) (fun b o hb e => (sb.2 b hb).trans e) f0 f1 f3 f4 f5
    obtain ⟨o, e, c, d⟩ := id st'
    exact ⟨u, rfl, go_of (s := { s with heap := h' }) e c d (by decide) ⟨x, H, I1, ru, ⟨rfl, fun ys hy => by rw [I.tuple_inj hy hq]; exact hx⟩, st', fun b hb => (hf b hb).1⟩⟩
  done := by
    intro X hP hw hK hc i pins s σ H E I hf st hg
    subst hP hw hK
    obtain ⟨xs, hq, hx⟩ := hg
    obtain ⟨its, rv, p, hz⟩ := I.tuple hq
    obtain ⟨f0, f1, f2, f3, f4, f5⟩ := hf it (by simp)
    have hl := rv.length
    exact wpAny_pyNext_tuple_end (I.ok.hd hc) st (show s.heap.IsTuple a its.toArray from p) (by simp; omega) fun h' eb => ⟨rfl, I.turned (t' := s.toks) (fun b o hb e => eb b o hb e) f0 f1 f3 f4 f5⟩
  self := fun _ _ _ _ _ st h => wpAny_pyIter_tupleiter st h
theorem turn_range {P : Program} {w : World} {K : PySem.W.Frag} {tg : Expr} (it : Addr) (lo : Int) (n : Nat) : Turn P w K tg (Itr lo n) [it] it (fun i h => IsRangeIter h it (lo + (i : Nat) * 1) ((n : Int) - (i : Nat)) 1) where
  mem := by simp
  obj := fun i h st b hb => by
    have e : b = it := by simpa using hb
    subst e
    exact ⟨_, st, fun v z => by
      have z' : Data.fields _ = Data.cell v := z
      cases z'⟩
  keep := fun i h h' st k => k it (by simp) _ st
  item := by
    intro X hP hw hK hc i pins s σ H E I hf st hg
    subst hP hw hK
    obtain ⟨f0, f1, f2, f3, f4, f5⟩ := hf it (by simp)
    have W := Walks.range (prog := X.prog) (w := X.w) (I.ok.hd hc) it lo 1 n
    refine W.item i s _ _ hg st fun v h' tk hv st' kk => ?_
    obtain ⟨t, rfl⟩ := hv
    have I1 : Inv X pins σ H { s with heap := h', toks := tk } := I.turned (fun b o hb e => kk b o (by simpa using hb) e) f0 f1 f3 f4 f5
    refine ⟨_, rfl, go_of (s := { s with heap := h', toks := tk }) (n := "range_iterator") st' rfl rfl (by decide) ⟨.int (lo + i), H, I1, ⟨t, ?_⟩, ⟨rfl, rfl⟩, st', fun b hb => (hf b hb).1⟩⟩
    rw [Int.mul_one]
  done := by
    intro X hP hw hK hc i pins s σ H E I hf st hg
    subst hP hw hK
    obtain ⟨f0, f1, f2, f3, f4, f5⟩ := hf it (by simp)
    exact wpAny_pyNext_range_end (I.ok.hd hc) st (by have : n ≤ i := hg; omega) fun h' eb => ⟨rfl, I.turned (t' := s.toks) (fun b o hb e => eb b o hb e) f0 f1 f3 f4 f5⟩
  self := fun _ _ _ _ _ st h => wpAny_pyIter_rangeiter st h
end L2

namespace L2
open PySem PySem.Spec PyProof.Rows
section
variable {X : Cx} {tg : Expr}
def iList (K : PySem.W.Frag) (tl : TE) : TI := fun σ H R => tl σ H fun x H1 => ∃ a, x = .ref a ∧ (∃ xs, SqL K H1 a xs) ∧ R (Itl K a) H1
def iTup (K : PySem.W.Frag) (tl : TE) : TI := fun σ H R => tl σ H fun x H1 => ∃ a, x = .ref a ∧ (∃ xs, SqT K H1 a xs) ∧ R (Itt K a) H1
theorem pi_list {l : Expr} {tl : TE} (hl : PE X l tl) : PI X tg l (iList X.K tl) := by
  intro pins s σ H R I h
  refine thn (hl pins s σ H _ I h) fun v s1 ⟨x, H1, I1, r1, q1⟩ => ?_
  obtain ⟨a, e, ⟨xs, hq⟩, q⟩ := q1
  subst e
  cases r1
  obtain ⟨its, rv, p, hz⟩ := I1.list hq
  refine wpAny_pyIter_list p.isList ?_
  refine ⟨s1.heap.objs.size, [s1.heap.objs.size], _, _, H1, rfl, I1.kept (t' := s1.toks) fun b o e => Heap.get?_push_of_some _ e, turn_list a _, ⟨_, Heap.get?_push_size _ rfl, rfl, rfl⟩, fun b hb => ?_, q⟩
  have e : b = s1.heap.objs.size := by simpa using hb
  subst e
  exact I1.fpOk (Nat.le_refl _) (I1.hok.fresh (Nat.le_refl _))
theorem pi_tup {l : Expr} {tl : TE} (hl : PE X l tl) : PI X tg l (iTup X.K tl) := by
  intro pins s σ H R I h
  refine thn (hl pins s σ H _ I h) fun v s1 ⟨x, H1, I1, r1, q1⟩ => ?_
  obtain ⟨a, e, ⟨xs, hq⟩, q⟩ := q1
  subst e
  cases r1
  obtain ⟨its, rv, p, hz⟩ := I1.tuple hq
  refine wpAny_pyIter_tuple (show s1.heap.IsTuple a its.toArray from p) ?_
  refine ⟨s1.heap.objs.size, [s1.heap.objs.size], _, _, H1, rfl, I1.kept (t' := s1.toks) fun b o e => Heap.get?_push_of_some _ e, turn_tuple a _, ⟨_, Heap.get?_push_size _ rfl, rfl, rfl⟩, fun b hb => ?_, q⟩
  have e : b = s1.heap.objs.size := by simpa using hb
  subst e
  exact I1.fpOk (Nat.le_refl _) (I1.hok.fresh (Nat.le_refl _))
theorem range_it {pins : List (Addr × Obj)} {σ : St} {H : Hp} {s : Shared} {R : It → Hp → Prop} {E : Value → Shared → Prop} {lo hi : Int} {t u v : Tok} {tk : Nat} (I : Inv X pins σ H s) (h1 : -(2 ^ 62) ≤ lo) (h2 : lo < 2 ^ 62) (h3 : -(2 ^ 62) ≤ hi) (h4 : hi < 2 ^ 62)
    (q : R (Itr lo (hi - lo).toNat) H) : wpAny (model X.prog X.w) X.A (pyIter (.ref s.heap.objs.size)) (PIE X pins σ tg R) E { s with heap := s.heap.push { cls := .type "range", data := .fields #[.int lo t, .int hi u, .int 1 v] }, toks := tk } := by
  refine wpAny_pyIter_range (IsRange.new ..) (small_one h1 h2 h3 h4) ?_
  have I1 : Inv X pins σ H { s with heap := s.heap.push { cls := .type "range", data := .fields #[.int lo t, .int hi u, .int 1 v] }, toks := tk } := I.kept fun b o e => Heap.get?_push_of_some _ e
  refine ⟨(s.heap.push { cls := .type "range", data := .fields #[.int lo t, .int hi u, .int 1 v] }).objs.size, [(s.heap.push { cls := .type "range", data := .fields #[.int lo t, .int hi u, .int 1 v] }).objs.size], _, _, H, rfl,
    I1.kept (t' := tk) fun b o e => Heap.get?_push_of_some _ e, turn_range _ lo (hi - lo).toNat, ?_, fun b hb => ?_, q⟩
  · have e1 : lo + ((0 : Nat) : Int) * 1 = lo := by simp
    have e2 : (((hi - lo).toNat : Nat) : Int) - ((0 : Nat) : Int) = Builtin.Range.rangeSize lo hi 1 := by rw [rangeSize_one]; split <;> omega
    show IsRangeIter _ _ (lo + ((0 : Nat) : Int) * 1) ((((hi - lo).toNat : Nat) : Int) - ((0 : Nat) : Int)) 1
    rw [e1, e2]
    exact Heap.get?_push_size _ rfl
  · have e : b = (s.heap.push { cls := .type "range", data := .fields #[.int lo t, .int hi u, .int 1 v] }).objs.size := by simpa using hb
    subst e
    exact I1.fpOk (Nat.le_refl _) (I1.hok.fresh (Nat.le_refl _))
def iRng1 (ta : TA) : TI := fun σ H R => ta σ H fun vs H1 => ∃ j : Int, vs = [.int j] ∧ -(2 ^ 62) ≤ j ∧ j < 2 ^ 62 ∧ R (Itr 0 j.toNat) H1
def iRng2 (ta : TA) : TI := fun σ H R => ta σ H fun vs H1 => ∃ i j : Int, vs = [.int i, .int j] ∧ (-(2 ^ 62) ≤ i ∧ i < 2 ^ 62 ∧ -(2 ^ 62) ≤ j ∧ j < 2 ^ 62) ∧ R (Itr i (j - i).toNat) H1
theorem pi_range1 {a : Expr} {ta : TA} {p pos : Pos} (hg : Gl X "range") (hm : X.mg "range" = none) (ha : PA X [a] ta) (hs : starEach [a] X.env = [(false, eval a X.env)] := by rfl) : PI X tg (.Call (.Name "range" p) [a] [] pos) (iRng1 ta) := by
  intro pins s σ H R I h
  refine Call_ (ld_blt I hg hm boot_range (PyProof.Rows.callWith_type1 (thn (ha pos pins s σ H _ I h) fun us s1 ⟨vs, H1, I1, r1, q1⟩ => ?_) hs rfl))
  obtain ⟨j, e, q1, q2, q⟩ := q1
  subst e
  cases r1 with
  | cons r rr =>
    cases rr
    obtain ⟨t, rfl⟩ := r
    exact call_range_1 (range_it I1 (by omega) (by omega) q1 q2 (by simpa using q))
theorem pi_range2 {a b : Expr} {ta : TA} {p pos : Pos} (hg : Gl X "range") (hm : X.mg "range" = none) (ha : PA X [a, b] ta) (hs : starEach [a, b] X.env = [(false, eval a X.env), (false, eval b X.env)] := by rfl) (hs2 : starEach [b] X.env = [(false, eval b X.env)] := by rfl) :
    PI X tg (.Call (.Name "range" p) [a, b] [] pos) (iRng2 ta) := by
  intro pins s σ H R I h
  refine Call_ (ld_blt I hg hm boot_range (PyProof.Rows.callWith_type1 (thn (ha pos pins s σ H _ I h) fun us s1 ⟨vs, H1, I1, r1, q1⟩ => ?_) (by rw [hs, hs2]) (by rw [hs2]; rfl)))
  obtain ⟨i, j, e, ⟨q1, q2, q3, q4⟩, q⟩ := q1
  subst e
  cases r1 with
  | cons r rr =>
    cases rr with
    | cons r' rr =>
      cases rr
      obtain ⟨t, rfl⟩ := r
      obtain ⟨t', rfl⟩ := r'
      exact call_range_2 (range_it I1 q1 q2 q3 q4 q)

def tFor (wi : TI) (g : TG) (tb : TS) : TS := fun D σ H => wi σ H fun J H1 => ∃ W : Nat → Nat → St → Hp → Prop, (∃ m, W 0 m σ H1) ∧ ∀ i m σ H, W i m σ H →
  (J.stop i H ∧ D.nx σ H) ∨ (J.go i H ∧ ∃ N : St → Hp → Prop, (∀ σ' H', N σ' H' → ∃ m', m' < m ∧ W (i + 1) m' σ' H') ∧ ∀ x H', J.yld i H x H' → g x σ H' fun σ2 H2 => tb { D with nx := N, ct := N, bk := D.nx } σ2 H2)
def pinsAt (fp : List Addr) (h : Heap) : List (Addr × Obj) := fp.filterMap fun b => (h.get? b).map fun o => (b, o)
theorem mem_pinsAt {fp : List Addr} {h : Heap} {b : Addr} {o : Obj} (hb : b ∈ fp) (e : h.get? b = some o) : (b, o) ∈ pinsAt fp h := List.mem_filterMap.mpr ⟨b, hb, by rw [e]; rfl⟩
theorem of_pinsAt {fp : List Addr} {h : Heap} {p : Addr × Obj} (hp : p ∈ pinsAt fp h) : p.1 ∈ fp ∧ h.get? p.1 = some p.2 := by
  obtain ⟨b, hb, e⟩ := List.mem_filterMap.mp hp
  cases q : h.get? b with
  | none => rw [q] at e; cases e
  | some o =>
    rw [q] at e
    have e' : (b, o) = p := Option.some.inj e
    subst e'
    exact ⟨hb, q⟩
theorem Inv.pinned {pins : List (Addr × Obj)} {σ : St} {H : Hp} {s : Shared} {fp : List Addr} (I : Inv X pins σ H s) (hf : ∀ b ∈ fp, FpOk X pins H b) (ho : ∀ b ∈ fp, ∃ o, s.heap.get? b = some o ∧ ∀ v, o.data ≠ .cell v) : Inv X (pins ++ pinsAt fp s.heap) σ H s :=
  I.pins_of fun p hp => (List.mem_append.mp hp).elim (fun z => I.pin p (List.mem_append_right _ z)) fun z => by
    obtain ⟨hb, e⟩ := of_pinsAt z
    obtain ⟨f0, f1, f2, _⟩ := hf p.1 hb
    obtain ⟨o, e', d⟩ := ho p.1 hb
    rw [e] at e'; cases e'
    exact ⟨e, f0, f1, f2, d⟩
theorem Inv.unpinned {pins pl : List (Addr × Obj)} {σ : St} {H : Hp} {s : Shared} (I : Inv X (pins ++ pl) σ H s) : Inv X pins σ H s := I.pins_of fun p hp => I.pin p (List.mem_append_right _ (List.mem_append_left _ hp))
theorem ps_for {iter : Expr} {body : List Stmt} {wi : TI} {g : TG} {tb : TS} {pos : Pos} (hp : PassesOwn (model X.prog X.w) X.A X.env X.xe) (hc : X.calm = true) (hi : PI X tg iter wi) (hg : PG X tg g) (hb : PSs X body tb)
    (hs : ∀ x, foldedSetIterable iter X.env x = pure x := by intro _; rfl) : PS X (.For tg iter body [] pos) (tFor wi g tb) := by
  intro pins s σ H D I h
  refine wpAny_For (thn (hi pins s σ H _ I h) fun v s1 h1 => thn h1 fun itv s2 h2 => ?_) hs
  obtain ⟨it, fp, tn, J, H2, e, I2, T, st2, f2, W, ⟨m0, w0⟩, turn⟩ := h2
  subst e
  -- what stays true of the iterator's objects through the loop
  have stat : ∀ {H' : Hp}, (∀ b ∈ fp, H' b = none) → ∀ b ∈ fp, FpOk X pins H' b := fun hn b hb => ⟨hn b hb, (f2 b hb).2⟩
  refine codeAny_forLoop_any (fun n s' => ∃ i σ' H', Inv X pins σ' H' s' ∧ tn i s'.heap ∧ (∀ b ∈ fp, H' b = none) ∧ W i n σ' H') ?_ m0 ⟨0, σ, H2, I2, st2, fun b hb => (f2 b hb).1, w0⟩
  rintro n s3 ⟨i, σ3, H3, I3, st3, fr3, w3⟩
  rcases turn i n σ3 H3 w3 with ⟨stop, qn⟩ | ⟨go, N, hN, step⟩
  · refine wpAny_passesOwn hp (thn (T.done X rfl rfl rfl hc i pins s3 σ3 H3 X.xe I3 (stat fr3) st3 stop) fun r s4 ⟨hr, I4⟩ => ?_)
    subst hr
    exact wpAny_execs_nil ⟨σ3, H3, I4, qn⟩
  · refine wpAny_passesOwn hp (thn (T.item X rfl rfl rfl hc i pins s3 σ3 H3 X.xe I3 (stat fr3) st3 go) fun r s4 ⟨u, hr, h4⟩ => ?_)
    subst hr
    refine wpAny_passesOwn hp (thn h4 fun _ s5 ⟨x, H5, I5, r5, y5, st5, fr5⟩ => ?_)
    have I5' := I5.pinned (stat fr5) (T.obj _ _ st5)
    refine wpAny_passesOwn hp (thn (hg _ s5 σ3 H5 x u _ I5' r5 (step x H5 y5)) fun _ s6 ⟨σ6, H6, I6, q6⟩ => ?_)
    refine wpAny_passesOwn hp (thn (hb _ s6 σ6 H6 _ I6 q6) fun f s7 q7 => ?_)
    have again : ∀ {σ7 : St} {H7 : Hp}, Inv X (pins ++ pinsAt fp s5.heap) σ7 H7 s7 → N σ7 H7 → ∃ m, m < n ∧ ∃ i σ' H', Inv X pins σ' H' s7 ∧ tn i s7.heap ∧ (∀ b ∈ fp, H' b = none) ∧ W i m σ' H' := fun {σ7 H7} I7 n7 => by
      obtain ⟨m', hm, w7⟩ := hN σ7 H7 n7
      refine ⟨m', hm, i + 1, σ7, H7, I7.unpinned, T.keep _ _ _ st5 fun b hb o e => (I7.pin (b, o) (List.mem_append_right _ (List.mem_append_right _ (mem_pinsAt hb e)))).1, fun b hb => ?_, w7⟩
      obtain ⟨o, e, d⟩ := T.obj _ _ st5 b hb
      exact (I7.pin (b, o) (List.mem_append_right _ (List.mem_append_right _ (mem_pinsAt hb e)))).2.1
    cases f with
    | next => obtain ⟨σ7, H7, I7, n7⟩ := q7; exact again I7 n7
    | cont => obtain ⟨σ7, H7, I7, n7⟩ := q7; exact again I7 n7
    | brk => obtain ⟨σ7, H7, I7, q7⟩ := q7; exact ⟨σ7, H7, I7.unpinned, q7⟩
    | ret v => obtain ⟨x7, σ7, H7, I7, r7, q7⟩ := q7; exact ⟨x7, σ7, H7, I7.unpinned, r7, q7⟩
end

end L2

namespace L2
open PySem PySem.Spec PyProof.Rows

abbrev R2 := V → V → Hp → VK → Prop
def OpR (X : Cx) (f : Value → Value → Sem Value) (r : R2) : Prop :=
  ∀ (pins : List (Addr × Obj)) (s : Shared) (σ : St) (H : Hp) (x y : V) (v u : Value) (Q : VK), Inv X pins σ H s → RelV x v → RelV y u → r x y H Q →
    wpAny (model X.prog X.w) X.A (f v u) (EP X pins σ Q) X.xe s
def UnR (X : Cx) (f : Value → Sem Value) (r : V → Hp → VK → Prop) : Prop :=
  ∀ (pins : List (Addr × Obj)) (s : Shared) (σ : St) (H : Hp) (x : V) (v : Value) (Q : VK), Inv X pins σ H s → RelV x v → r x H Q →
    wpAny (model X.prog X.w) X.A (f v) (EP X pins σ Q) X.xe s
def CallR (X : Cx) (f : Value) (r : List V → Hp → VK → Prop) : Prop :=
  ∀ (pins : List (Addr × Obj)) (s : Shared) (σ : St) (H : Hp) (xs : List V) (us : List Value) (Q : VK), Inv X pins σ H s → Vals xs us → r xs H Q →
    wpAny (model X.prog X.w) X.A (call f us) (EP X pins σ Q) X.xe s
def TruR (X : Cx) (r : V → Hp → (Bool → Hp → Prop) → Prop) : Prop :=
  ∀ (pins : List (Addr × Obj)) (s : Shared) (σ : St) (H : Hp) (x : V) (v : Value) (Q : Bool → Hp → Prop), Inv X pins σ H s → RelV x v → r x H Q →
    wpAny (model X.prog X.w) X.A (truthy v) (TP X pins σ Q) X.xe s

def tOp (r : R2) (ta tb : TE) : TE := fun σ H Q => ta σ H fun x H1 => tb σ H1 fun y H2 => r x y H2 Q
def tUn (r : V → Hp → VK → Prop) (ta : TE) : TE := fun σ H Q => ta σ H fun x H1 => r x H1 Q
def rI (C : Int → Int → Prop) (g : Int → Int → V) : R2 := fun x y H Q => ∃ i j, x = .int i ∧ y = .int j ∧ C i j ∧ Q (g i j) H
def rI0 (g : Int → Int → V) : R2 := fun x y H Q => ∃ i j, x = .int i ∧ y = .int j ∧ Q (g i j) H
def rU (g : Int → V) : V → Hp → VK → Prop := fun x H Q => ∃ i, x = .int i ∧ Q (g i) H

section
variable {X : Cx} {a b c : Expr} {ta tb tc : TE} {pos : Pos}

theorem binT (ha : PE X a ta) (hb : PE X b tb) {pins : List (Addr × Obj)} {s : Shared} {σ : St} {H : Hp} {R : V → V → Hp → Prop} (I : Inv X pins σ H s)
    (h : ta σ H fun x H1 => tb σ H1 fun y H2 => R x y H2) {Q : Value → Shared → Prop} {f : Value → Value → Sem Value}
    (hf : ∀ v u s2 x y H2, Inv X pins σ H2 s2 → RelV x v → RelV y u → R x y H2 → wpAny (model X.prog X.w) X.A (f v u) Q X.xe s2) :
    wpAny (model X.prog X.w) X.A (eval a X.env) (fun v s₁ => wpAny (model X.prog X.w) X.A (eval b X.env) (fun u s₂ => wpAny (model X.prog X.w) X.A (f v u) Q X.xe s₂) X.xe s₁) X.xe s := by
  refine thn (ha pins s σ H _ I h) fun v s1 ⟨x, H1, I1, r1, q1⟩ => ?_
  refine thn (hb pins s1 σ H1 _ I1 q1) fun u s2 ⟨y, H2, I2, r2, q2⟩ => ?_
  exact hf v u s2 x y H2 I2 r1 r2 q2

theorem pe_op {op : Operator} {r : R2} (ho : OpR X (binaryOp op) r) (ha : PE X a ta) (hb : PE X b tb) : PE X (.BinOp a op b pos) (tOp r ta tb) := by
  intro pins s σ H Q I h
  exact wpAny_BinOp (binT ha hb I h fun v u s2 x y H2 I2 rx ry q => ho pins s2 σ H2 x y v u Q I2 rx ry q)
theorem pe_un {op : UnaryOp} {r : V → Hp → VK → Prop} (ho : UnR X (unaryOp op) r) (ha : PE X a ta) : PE X (.UnaryOp op a pos) (tUn r ta) := by
  intro pins s σ H Q I h
  exact UnaryOp_ (thn (ha pins s σ H _ I h) fun v s1 ⟨x, H1, I1, r1, q1⟩ => ho pins s1 σ H1 x v Q I1 r1 q1)
theorem opI {f : Value → Value → Sem Value} {C : Int → Int → Prop} {g : Int → Int → Int}
    (rule : ∀ (i j : Int) (t u : Tok) (s : Shared) (Q : Value → Shared → Prop) (E : Value → Shared → Prop), C i j → Q (.int (g i j) s.toks) { s with toks := s.toks + 1 } → wpAny (model X.prog X.w) X.A (f (.int i t) (.int j u)) Q E s) :
    OpR X f (rI C fun i j => .int (g i j)) := by
  intro pins s σ H x y v u Q I rx ry h
  obtain ⟨i, j, rfl, rfl, hc, q⟩ := h
  obtain ⟨t, rfl⟩ := rx
  obtain ⟨t', rfl⟩ := ry
  exact rule i j t t' s _ _ hc ⟨.int (g i j), H, I.tok _, ⟨_, rfl⟩, q⟩
theorem opI0 {f : Value → Value → Sem Value} {g : Int → Int → Int}
    (rule : ∀ (i j : Int) (t u : Tok) (s : Shared) (Q : Value → Shared → Prop) (E : Value → Shared → Prop), Q (.int (g i j) s.toks) { s with toks := s.toks + 1 } → wpAny (model X.prog X.w) X.A (f (.int i t) (.int j u)) Q E s) :
    OpR X f (rI0 fun i j => .int (g i j)) := by
  intro pins s σ H x y v u Q I rx ry h
  obtain ⟨i, j, rfl, rfl, q⟩ := h
  obtain ⟨t, rfl⟩ := rx
  obtain ⟨t', rfl⟩ := ry
  exact rule i j t t' s _ _ ⟨.int (g i j), H, I.tok _, ⟨_, rfl⟩, q⟩
theorem opB0 {f : Value → Value → Sem Value} {g : Int → Int → Bool}
    (rule : ∀ (i j : Int) (t u : Tok) (s : Shared) (Q : Value → Shared → Prop) (E : Value → Shared → Prop), Q (.bool (g i j)) s → wpAny (model X.prog X.w) X.A (f (.int i t) (.int j u)) Q E s) :
    OpR X f (rI0 fun i j => .bl (g i j)) := by
  intro pins s σ H x y v u Q I rx ry h
  obtain ⟨i, j, rfl, rfl, q⟩ := h
  obtain ⟨t, rfl⟩ := rx
  obtain ⟨t', rfl⟩ := ry
  exact rule i j t t' s _ _ ⟨.bl (g i j), H, I, rfl, q⟩

def CDiv (i j : Int) : Prop := 0 < j ∧ j < 1073741824
def CPow (i j : Int) : Prop := 0 ≤ j ∧ j ≤ 1000000 ∧ i.natAbs < 2 ^ 64
def CMul (i j : Int) : Prop := (-(2 ^ 64) < i ∧ i < 2 ^ 64) ∨ (-(2 ^ 64) < j ∧ j < 2 ^ 64)
theorem CMul.ok {i j : Int} (h : CMul i j) : IntMulOk i j := by
  rcases h with ⟨h1, h2⟩ | ⟨h1, h2⟩
  · exact .of_left (intBits_le_64 h1 h2)
  · exact .of_right (intBits_le_64 h1 h2)
theorem op_add : OpR X (binaryOp .Add) (rI0 fun i j => .int (i + j)) := opI0 fun _ _ _ _ _ _ _ q => add_int q
theorem op_sub : OpR X (binaryOp .Sub) (rI0 fun i j => .int (i - j)) := opI0 fun _ _ _ _ _ _ _ q => sub_int q
theorem op_mul : OpR X (binaryOp .Mult) (rI CMul fun i j => .int (i * j)) := opI fun _ _ _ _ _ _ _ hc q => mul_int q hc.ok
theorem op_fdiv : OpR X (binaryOp .FloorDiv) (rI CDiv fun i j => .int (i / j)) := opI fun i j _ _ _ _ _ hc q => by
  have h1 : (0 : Int) < j := hc.1
  have h2 : j < 1073741824 := hc.2
  exact floordiv_int (by omega) (by rw [Int.fdiv_eq_ediv_of_nonneg i (by omega)]; exact q) (.inl (PyProof.noPylong_small (by omega)))
theorem op_mod : OpR X (binaryOp .Mod) (rI (fun _ j => 0 < j) fun i j => .int (i % j)) := opI fun i j _ _ _ _ _ hc q => by
  have h1 : (0 : Int) < j := hc
  exact mod_int' (by omega) (by rw [Int.fmod_eq_emod_of_nonneg i (by omega)]; exact q)
theorem op_pow : OpR X (binaryOp .Pow) (rI CPow fun i j => .int (i ^ j.toNat)) := opI fun _ _ _ _ _ _ _ hc q => pow_int_small hc.1 hc.2.1 hc.2.2 q
theorem unI {f : Value → Sem Value} {g : Int → Int}
    (rule : ∀ (i : Int) (t : Tok) (s : Shared) (Q : Value → Shared → Prop) (E : Value → Shared → Prop), Q (.int (g i) s.toks) { s with toks := s.toks + 1 } → wpAny (model X.prog X.w) X.A (f (.int i t)) Q E s) :
    UnR X f (rU fun i => .int (g i)) := by
  intro pins s σ H x v Q I rx h
  obtain ⟨i, rfl, q⟩ := h
  obtain ⟨t, rfl⟩ := rx
  exact rule i t s _ _ ⟨.int (g i), H, I.tok _, ⟨_, rfl⟩, q⟩
theorem un_neg : UnR X (unaryOp .USub) (rU fun i => .int (-i)) := unI fun _ _ _ _ _ q => neg_int q
end

def scal : V → V → Bool
  | .non, .non => true | .non, .int _ => true | .int _, .non => true | .non, .bl _ => true | .bl _, .non => true | .non, .str _ => true | .str _, .non => true
  | .int _, .int _ => true | .bl _, .bl _ => true | .str _, .str _ => true | .byt _, .byt _ => true
  | .int _, .str _ => true | .str _, .int _ => true | .bl _, .str _ => true | .str _, .bl _ => true
  | _, _ => false
def rEq : R2 := fun x y H Q => scal x y = true ∧ Q (.bl (decide (x = y))) H
def rNe : R2 := fun x y H Q => scal x y = true ∧ Q (.bl (!decide (x = y))) H

theorem dec_int {i j : Int} : decide (V.int i = V.int j) = (i == j) := by
  rw [Bool.eq_iff_iff]
  simp
theorem dec_bl {i j : Bool} : decide (V.bl i = V.bl j) = (i == j) := by
  rw [Bool.eq_iff_iff]
  simp
theorem dec_str {i j : Str} : decide (V.str i = V.str j) = (i == j) := by
  rw [Bool.eq_iff_iff]
  simp
theorem dec_byt {i j : Array UInt8} : decide (V.byt i = V.byt j) = (i.toList == j.toList) := by
  rw [Bool.eq_iff_iff]
  cases i
  cases j
  simp

section
variable {X : Cx} {a b c : Expr} {ta tb tc : TE} {pos : Pos}
theorem fin_bl {pins : List (Addr × Obj)} {σ : St} {H : Hp} {s : Shared} {Q : VK} {k k' : Bool} (I : Inv X pins σ H s) (q : Q (.bl k) H) (e : k = k') : EP X pins σ Q (.bool k') s := by
  subst e
  exact ⟨.bl k, H, I, rfl, q⟩
theorem op_eq : OpR X (compareOp .Eq) rEq := by
  intro pins s σ H x y v u Q I rx ry h
  obtain ⟨hs, q⟩ := h
  cases x with
  | non =>
    cases rx
    cases y with
    | non => cases ry; exact PySem.EqNone.eq_none_none (fin_bl I q (by simp))
    | bl j => cases ry; exact PySem.EqNone.eq_none_bool (fin_bl I q (by simp))
    | int j => obtain ⟨t', rfl⟩ := ry; exact PySem.EqNone.eq_none_int (fin_bl I q (by simp))
    | str j => obtain ⟨t', rfl⟩ := ry; exact PySem.EqNone.eq_none_str (fin_bl I q (by simp))
    | _ => exact absurd (show false = true from hs) Bool.false_ne_true
  | bl i =>
    cases rx
    cases y with
    | non => cases ry; exact PySem.EqNone.eq_bool_none (fin_bl I q (by simp))
    | bl j => cases ry; exact eq_bool (fin_bl I q dec_bl)
    | str j => obtain ⟨t', rfl⟩ := ry; exact PySem.EqMixed.eq_bool_str (fin_bl I q (by simp))
    | _ => exact absurd (show false = true from hs) Bool.false_ne_true
  | int i =>
    obtain ⟨t, rfl⟩ := rx
    cases y with
    | non => cases ry; exact PySem.EqNone.eq_int_none (fin_bl I q (by simp))
    | int j => obtain ⟨t', rfl⟩ := ry; exact eq_int (fin_bl I q dec_int)
    | str j => obtain ⟨t', rfl⟩ := ry; exact PySem.EqMixed.eq_int_str (fin_bl I q (by simp))
    | _ => exact absurd (show false = true from hs) Bool.false_ne_true
  | str i =>
    obtain ⟨t, rfl⟩ := rx
    cases y with
    | non => cases ry; exact PySem.EqNone.eq_str_none (fin_bl I q (by simp))
    | bl j => cases ry; exact PySem.EqMixed.eq_str_bool (fin_bl I q (by simp))
    | int j => obtain ⟨t', rfl⟩ := ry; exact PySem.EqMixed.eq_str_int (fin_bl I q (by simp))
    | str j => obtain ⟨t', rfl⟩ := ry; exact eq_str (fin_bl I q dec_str)
    | _ => exact absurd (show false = true from hs) Bool.false_ne_true
  | byt i =>
    obtain ⟨t, rfl⟩ := rx
    cases y with
    | byt j => obtain ⟨t', rfl⟩ := ry; exact PySem.W.eq_bytes (fin_bl I q dec_byt)
    | _ => exact absurd (show false = true from hs) Bool.false_ne_true
  | _ => cases y <;> exact absurd (show false = true from hs) Bool.false_ne_true
theorem op_ne : OpR X (compareOp .NotEq) rNe := by
  intro pins s σ H x y v u Q I rx ry h
  obtain ⟨hs, q⟩ := h
  cases x with
  | non =>
    cases rx
    cases y with
    | non => cases ry; exact PySem.EqNone.ne_none_none (fin_bl I q (by simp))
    | bl j => cases ry; exact PySem.EqNone.ne_none_bool (fin_bl I q (by simp))
    | int j => obtain ⟨t', rfl⟩ := ry; exact PySem.EqNone.ne_none_int (fin_bl I q (by simp))
    | str j => obtain ⟨t', rfl⟩ := ry; exact PySem.EqNone.ne_none_str (fin_bl I q (by simp))
    | _ => exact absurd (show false = true from hs) Bool.false_ne_true
  | bl i =>
    cases rx
    cases y with
    | non => cases ry; exact PySem.EqNone.ne_bool_none (fin_bl I q (by simp))
    | bl j => cases ry; exact ne_bool (fin_bl I q (congrArg not dec_bl))
    | str j => obtain ⟨t', rfl⟩ := ry; exact PySem.EqMixed.ne_bool_str (fin_bl I q (by simp))
    | _ => exact absurd (show false = true from hs) Bool.false_ne_true
  | int i =>
    obtain ⟨t, rfl⟩ := rx
    cases y with
    | non => cases ry; exact PySem.EqNone.ne_int_none (fin_bl I q (by simp))
    | int j => obtain ⟨t', rfl⟩ := ry; exact ne_int (fin_bl I q (congrArg not dec_int))
    | str j => obtain ⟨t', rfl⟩ := ry; exact PySem.EqMixed.ne_int_str (fin_bl I q (by simp))
    | _ => exact absurd (show false = true from hs) Bool.false_ne_true
  | str i =>
    obtain ⟨t, rfl⟩ := rx
    cases y with
    | non => cases ry; exact PySem.EqNone.ne_str_none (fin_bl I q (by simp))
    | bl j => cases ry; exact PySem.EqMixed.ne_str_bool (fin_bl I q (by simp))
    | int j => obtain ⟨t', rfl⟩ := ry; exact PySem.EqMixed.ne_str_int (fin_bl I q (by simp))
    | str j => obtain ⟨t', rfl⟩ := ry; exact ne_str (fin_bl I q (congrArg not dec_str))
    | _ => exact absurd (show false = true from hs) Bool.false_ne_true
  | byt i =>
    obtain ⟨t, rfl⟩ := rx
    cases y with
    | byt j => obtain ⟨t', rfl⟩ := ry; exact PySem.W.ne_bytes (fin_bl I q (congrArg not dec_byt))
    | _ => exact absurd (show false = true from hs) Bool.false_ne_true
  | _ => cases y <;> exact absurd (show false = true from hs) Bool.false_ne_true

theorem op_lt : OpR X (compareOp .Lt) (rI0 fun i j => .bl (decide (i < j))) := opB0 fun _ _ _ _ _ _ _ q => lt_int q
theorem op_gt : OpR X (compareOp .Gt) (rI0 fun i j => .bl (decide (j < i))) := opB0 fun _ _ _ _ _ _ _ q => gt_int q
theorem op_ge : OpR X (compareOp .GtE) (rI0 fun i j => .bl (decide (j ≤ i))) := opB0 fun _ _ _ _ _ _ _ q => ge_int q
theorem op_isN : OpR X (compareOp .Is) (fun x y H Q => y = .non ∧ Q (.bl (decide (x = .non))) H) := by
  intro pins s σ H x y v u Q I rx ry h
  obtain ⟨rfl, q⟩ := h
  cases ry
  refine is_none_gen (fin_bl I q ?_)
  cases x <;> first
    | (cases rx; rfl)
    | (obtain ⟨t, rfl⟩ := rx; rfl)
theorem nomark (b : Expr) {op : CmpOp} (h : op ≠ .In := by decide) (h2 : op ≠ .NotIn := by decide) : behindInMarks op b = false := by
  have e1 : (op == CmpOp.In) = false := by cases op <;> first | rfl | exact absurd rfl h
  have e2 : (op == CmpOp.NotIn) = false := by cases op <;> first | rfl | exact absurd rfl h2
  cases b <;> simp [behindInMarks, e1, e2]
theorem pe_cmpR {op : CmpOp} {r : R2} (ho : OpR X (compareOp op) r) (ha : PE X a ta) (hb : PE X b tb) (hm : behindInMarks op b = false) : PE X (.Compare a [op] [b] pos) (tOp r ta tb) := by
  intro pins s σ H Q I h
  exact wpAny_Compare1 (binT ha hb I h fun v u s2 x y H2 I2 rx ry q => ho pins s2 σ H2 x y v u Q I2 rx ry q) hm
def tTest (t : TE) : TT := fun σ H Q => t σ H fun x H' => ∃ k, x = .bl k ∧ Q k H'
theorem pt_cmpR {op : CmpOp} {r : R2} (ho : OpR X (compareOp op) r) (ha : PE X a ta) (hb : PE X b tb) (hm : behindInMarks op b = false) : PT X (.Compare a [op] [b] pos) (tTest (tOp r ta tb)) := by
  intro pins s σ H Q I h
  refine wpAny_isTrue_Compare1 (thn (ha pins s σ H _ I h) fun v s1 ⟨x, H1, I1, r1, q1⟩ => thn (hb pins s1 σ H1 _ I1 q1) fun u s2 ⟨y, H2, I2, r2, q2⟩ =>
    thn (ho pins s2 σ H2 x y v u _ I2 r1 r2 q2) fun c s3 ⟨z, H3, I3, r3, k, e, q3⟩ => ?_) hm
  subst e
  cases r3
  exact wpAny_truthy_bool ⟨H3, I3, q3⟩
def TruV (K : PySem.W.Frag) (x : V) (H : Hp) (k : Bool) : Prop :=
  match x with
  | .non => k = false
  | .bl b => k = b
  | .int i => k = (i != 0)
  | .str y => y.length ≤ sizeLine ∧ k = ((y.length : Int) != 0)
  | .byt y => y.size ≤ sizeLine ∧ k = ((y.size : Int) != 0)
  | .ref p => (∃ xs, SqL K H p xs ∧ k = !xs.isEmpty) ∨ (∃ xs, SqT K H p xs ∧ k = !xs.isEmpty) ∨ ∃ kvs, H p = some (.dK kvs) ∧ k = !kvs.isEmpty
  | _ => False
theorem isEmpty_kv {κ : Type} {kvs : List (κ × V)} {vs : List (κ × Value)} (r : KV kvs vs) : (!vs.isEmpty) = !kvs.isEmpty := by
  cases r <;> rfl
theorem isEmpty_of {xs : List V} {its : List Value} (r : Vals xs its) : (!its.toArray.isEmpty) = !xs.isEmpty := by
  cases r <;> simp
theorem line63 : (sizeLine : Nat) < 2 ^ 63 := by rw [sizeLine_eq]; decide
theorem tru_ok : TruR X (fun x H Q => ∃ k, TruV X.K x H k ∧ Q k H) := by
  intro pins s σ H x v Q I rx h
  obtain ⟨k, e, q⟩ := h
  have hl := line63
  have hs : sizeLine = 16777216 := sizeLine_eq
  cases x with
  | non =>
    cases rx
    have e' : k = false := e
    subst e'
    exact truthy_none ⟨H, I, q⟩
  | bl b =>
    cases rx
    have e' : k = b := e
    subst e'
    exact wpAny_truthy_bool ⟨H, I, q⟩
  | int i =>
    obtain ⟨t, rfl⟩ := rx
    have e' : k = (i != 0) := e
    subst e'
    exact PySem.P.truthy_int ⟨H, I, q⟩
  | str y =>
    obtain ⟨t, rfl⟩ := rx
    obtain ⟨hy, e'⟩ : y.length ≤ sizeLine ∧ k = ((y.length : Int) != 0) := e
    subst e'
    exact PySem.P.truthy_str (by omega) ⟨H, I.tok _, q⟩
  | byt y =>
    obtain ⟨t, rfl⟩ := rx
    obtain ⟨hy, e'⟩ : y.size ≤ sizeLine ∧ k = ((y.size : Int) != 0) := e
    subst e'
    exact PySem.W.truthy_bytes (by omega) ⟨H, I.tok _, q⟩
  | ref p =>
    cases rx
    have e' : (∃ xs, SqL X.K H p xs ∧ k = !xs.isEmpty) ∨ (∃ xs, SqT X.K H p xs ∧ k = !xs.isEmpty) ∨ ∃ kvs, H p = some (.dK kvs) ∧ k = !kvs.isEmpty := e
    rcases e' with ⟨xs, hx, e'⟩ | ⟨xs, hx, e'⟩ | ⟨kvs, hx, e'⟩
    · subst e'
      obtain ⟨its, r, pl, hz⟩ := I.list hx
      have hlen := r.length
      exact wpAny_truthy_list pl.isList (by simp only [List.size_toArray]; omega) ⟨H, I.tok _, by rw [isEmpty_of r]; exact q⟩
    · subst e'
      obtain ⟨its, r, pl, hz⟩ := I.tuple hx
      have hlen := r.length
      exact truthy_tuple pl (by simp only [List.size_toArray]; omega) ⟨H, I.tok _, by rw [isEmpty_of r]; exact q⟩
    · subst e'
      obtain ⟨hz, hS, vs, r, m⟩ : kvs.length ≤ sizeLine ∧ (p == sysModules) = false ∧ ∃ vs, KV kvs vs ∧ s.heap.DictOf (mixKind X.prog X.w) p vs := I.hok p _ hx
      have hlen : kvs.length = vs.length := Paired.length r
      exact wpAny_truthy_dict hS m (by omega) ⟨H, I.tok _, by rw [isEmpty_kv r]; exact q⟩
  | _ => exact (show False from e).elim
theorem pt_truth (ha : PE X a ta) (he : ∀ whole, isTrue a X.env whole = (do let v ← whole; standAt a.pos; holding [v] (truthy v))) :
    PT X a (fun σ H Q => ta σ H fun x H' => ∃ k, TruV X.K x H' k ∧ Q k H') := by
  intro pins s σ H Q I h
  exact isTrue_plain (thn (ha pins s σ H _ I h) fun v s1 ⟨x, H1, I1, r1, q1⟩ => tru_ok pins s1 σ H1 x v Q I1 r1 q1) (he _)

theorem vals1 {x : V} {us : List Value} (r : Vals [x] us) : ∃ u, us = [u] ∧ RelV x u := by
  cases r with
  | cons r1 r2 => cases r2; exact ⟨_, rfl, r1⟩
theorem vals2 {x y : V} {us : List Value} (r : Vals [x, y] us) : ∃ u w', us = [u, w'] ∧ RelV x u ∧ RelV y w' := by
  cases r with
  | cons r1 r2 =>
    cases r2 with
    | cons r3 r4 => cases r4; exact ⟨_, _, rfl, r1, r3⟩
theorem call_max2 (hc : X.calm = true) : CallR X (.builtin "max") (fun xs H Q => ∃ i j, xs = [.int i, .int j] ∧ Q (.int (if j > i then j else i)) H) := by
  intro pins s σ H xs us Q I r h
  obtain ⟨i, j, rfl, q⟩ := h
  obtain ⟨u, w', rfl, ⟨t, rfl⟩, ⟨t', rfl⟩⟩ := vals2 r
  refine max_two_ints (I.ok.hd hc) fun h' tk k => ⟨_, H, I.kept k, ?_, q⟩
  by_cases hj : j > i
  · rw [if_pos hj, if_pos hj]; exact ⟨_, rfl⟩
  · rw [if_neg hj, if_neg hj]; exact ⟨_, rfl⟩
end
end L2

namespace L2
open PySem PySem.Spec PyProof.Rows

structure ObjM (h : Heap) (x dx C : Addr) (mA : Str → Option Value) : Prop where
  obj : h.get? x = some (PySem.W.instObj C dx)
  ns : h.Ns1 dx mA
  ne : dx ≠ x

theorem lookIn_ns {h : Heap} {dx : Addr} {mA : Str → Option Value} (n : h.Ns1 dx mA) : ∃ od, h.get? dx = some od ∧ ∀ name, PySem.W.lookIn name od = some (mA name) := by
  obtain ⟨o, es, ep, ho, hd, hk, _, hm⟩ := n
  refine ⟨o, ho, fun name => ?_⟩
  have e := hm name
  unfold nsFind findBy at e
  rw [← Array.find?_toList] at e
  unfold PySem.W.lookIn
  rw [hd]
  dsimp only
  split
  · rename_i y q
    rw [q] at e
    exact congrArg some e
  · rename_i q
    rw [q] at e
    have a : es.toList.any (·.refKey) = false := by
      rw [List.any_eq_false]
      intro y hy
      obtain ⟨z, t, hkey⟩ := hk y (Array.mem_toList_iff.mp hy)
      simp [DictEntry.refKey, hkey]
    have a' : ¬ es.toList.any (·.refKey) = true := by rw [a]; exact Bool.false_ne_true
    rw [if_neg a']
    exact congrArg some e

theorem ObjM.look {h : Heap} {x dx C : Addr} {mA : Str → Option Value} (I : ObjM h x dx C mA) : ∃ od, PySem.W.InstAt h x (PySem.W.instObj C dx) C (some od) ∧ ∀ name, PySem.W.lookIn name od = some (mA name) :=
  let ⟨od, ho, hl⟩ := lookIn_ns I.ns
  ⟨od, ⟨I.obj, rfl, rfl, ho⟩, hl⟩

section
variable {prog : Program} {w : World} {A : Around} {E : Value → Shared → Prop} {s : Shared} {K : PySem.W.Frag} {x dx C f : Addr} {mA : Str → Option Value} {name : Str} {v : Value}

end

section
variable {P : Program} {w : World} {H H' : Hp} {h h' : Heap} {a C dx : Addr} {fs fs' : List (Str × V)}
theorem ins_get (hok : HOk P w H h) (e : H a = some (.ins C dx fs)) : ∃ mA, ObjM h a dx C mA ∧ (∀ f, RelO (fs.lookup f) (mA f)) ∧ PySem.Within mA (fs.map (·.1)) ∧ fs.length ≤ 1000 ∧ H dx = some (.own a) := by
  obtain ⟨d, z, ne, ob, mA, n, r, q⟩ := (show ObjOk P w H h a (.ins C dx fs) from hok a _ e)
  exact ⟨mA, ⟨ob, n, ne⟩, r, q, z, d⟩
end

structure Cls (K : PySem.W.Frag) (C : Addr) : Prop where
  pg : PySem.W.plainGet K C Str.empty = true
  hd : PySem.W.hasDictIn K C = true
  po : PySem.W.plainOver K C = true
  sa : PySem.W.findIn K (.ref C) "__setattr__" = some (some (.builtin "object.__setattr__"))
theorem Cls.get {K : PySem.W.Frag} {C : Addr} (c : Cls K C) (f : Str) : PySem.W.plainGet K C f = true := c.pg
section
variable {X : Cx} {pins : List (Addr × Obj)} {σ : St} {H : Hp} {s : Shared} {a C dx : Addr} {fs : List (Str × V)} {f : Str} {v : V} {A : Around} {E : Value → Shared → Prop}

end

section
variable {X : Cx} {o e value : Expr} {f : Str} {pos pos' tpos : Pos} {ta tv : TE}
end

section
variable {X : Cx} {pins : List (Addr × Obj)} {σ : St} {H : Hp} {s : Shared} {A : Around} {E : Value → Shared → Prop} {Q : Value → Shared → Prop} {c : Value} {b : Bool}
inductive TyOf (K : PySem.W.Frag) (H : Hp) : V → Value → Prop where
  | non : TyOf K H .non (.type "NoneType")
  | bl (x : Bool) : TyOf K H (.bl x) (.type "bool")
  | int (i : Int) : TyOf K H (.int i) (.type "int")
  | str (x : Str) : TyOf K H (.str x) (.type "str")
  | flt (x : UInt64) : TyOf K H (.flt x) (.type "float")
  | lst {a : Addr} {xs : List V} (e : H a = some (.lst xs)) : TyOf K H (.ref a) (.type "list")
  | frz {a : Addr} {o : Obj} {xs : List V} (e : H a = some (.frz o (.lst xs))) : TyOf K H (.ref a) (.type "list")
  | tup {a : Addr} {xs : List V} (e : H a = some (.tup xs)) : TyOf K H (.ref a) (.type "tuple")
  | dK {a : Addr} {kvs : List (Key × V)} (e : H a = some (.dK kvs)) : TyOf K H (.ref a) (.type "dict")
  | dT {a : Addr} {kvs : List (List Key × V)} (e : H a = some (.dT kvs)) : TyOf K H (.ref a) (.type "dict")
  | ins {a C dx : Addr} {fs : List (Str × V)} (e : H a = some (.ins C dx fs)) (cl : Cls K C) (ha : PySem.W.findIn K (.ref C) "__class__" = some (some (.builtin "object.__class__")))
      (hn : PySem.W.specialIn K (.builtin "object.__class__") "__get__" = some (some (.builtin "getset_descriptor.__get__"))) (htk : PySem.W.takesIn K (.builtin "object.__class__") = some true)
      (hm : PySem.W.mroIn K C (.type "object") = some true) : TyOf K H (.ref a) (.ref C)
theorem isinst_ok {x : V} {u t : Value} (I : Inv X pins σ H s) (rx : RelV x u) (ty : TyOf X.K H x t) (e : PySem.W.kitOne X.K t c = some b) (h : ∀ tk, Q (.bool b) { s with toks := tk }) :
    wpAny (model X.prog X.w) A (call (.builtin "isinstance") [u, c]) Q E s := by
  cases ty with
  | non => cases (show u = Value.none from rx); exact PySem.W.kia_one PySem.W.kitx_none I.kIn True.intro e (fun z => nomatch z) h
  | bl y => cases (show u = Value.bool y from rx); exact PySem.W.kia_one PySem.W.kitx_bool I.kIn True.intro e (fun z => nomatch z) h
  | int i => obtain ⟨t, q⟩ := (show ∃ t, u = Value.int i t from rx); cases q; exact PySem.W.kia_one PySem.W.kitx_int I.kIn True.intro e (fun z => nomatch z) h
  | str y => obtain ⟨t, q⟩ := (show ∃ t, u = Value.str y t from rx); cases q; exact PySem.W.kia_one PySem.W.kitx_str I.kIn True.intro e (fun z => nomatch z) h
  | flt y => obtain ⟨t, q⟩ := (show ∃ t, u = Value.float y t from rx); cases q; exact PySem.W.kia_one PySem.W.kitx_float I.kIn True.intro e (fun z => nomatch z) h
  | @lst a xs ea =>
    cases (show u = Value.ref a from rx)
    obtain ⟨_, _, n, _, h1⟩ := (show ObjOk X.prog X.w H s.heap a (.lst xs) from I.hok a _ ea)
    exact PySem.W.kia_one PySem.W.kitx_list I.kIn ⟨_, h1, rfl⟩ e (fun z => nomatch z) h
  | @frz a ob xs ea =>
    cases (show u = Value.ref a from rx)
    obtain ⟨_, _, _, n, _, h1⟩ := (show ObjOk X.prog X.w H s.heap a (.frz ob (.lst xs)) from I.hok a _ ea)
    exact PySem.W.kia_one PySem.W.kitx_list I.kIn ⟨_, h1, rfl⟩ e (fun z => nomatch z) h
  | @tup a xs ea =>
    cases (show u = Value.ref a from rx)
    obtain ⟨_, _, _, p⟩ := (show ObjOk X.prog X.w H s.heap a (.tup xs) from I.hok a _ ea)
    obtain ⟨o, h1, h2, _⟩ := p
    exact PySem.W.kia_one PySem.W.kitx_tuple I.kIn ⟨o, h1, h2⟩ e (fun z => nomatch z) h
  | @dK a kvs ea =>
    cases (show u = Value.ref a from rx)
    obtain ⟨_, _, vs, _, p⟩ := (show ObjOk X.prog X.w H s.heap a (.dK kvs) from I.hok a _ ea)
    obtain ⟨o, es, ep, h1, h2, _⟩ := p
    exact PySem.W.kia_one PySem.W.kitx_dict I.kIn ⟨o, h1, h2.1⟩ e (fun z => nomatch z) h
  | @dT a kvs ea =>
    cases (show u = Value.ref a from rx)
    obtain ⟨_, _, xs, _, o, es, ep, h1, h2, _⟩ := (show ObjOk X.prog X.w H s.heap a (.dT kvs) from I.hok a _ ea)
    exact PySem.W.kia_one PySem.W.kitx_dict I.kIn ⟨o, h1, h2.1⟩ e (fun z => nomatch z) h
  | @ins a C dx fs ea cl ha hn htk hm =>
    cases (show u = Value.ref a from rx)
    obtain ⟨mA, O, _⟩ := ins_get I.hok ea
    obtain ⟨od, J, _⟩ := O.look
    exact PySem.W.kia_one (PySem.W.kitx_own (cl.get _) cl.hd ha hn htk hm) I.kIn J e (fun z => nomatch z) h
end
end L2

namespace L2
open PySem PySem.Spec PyProof.Rows

structure Room (k : Nat) (A : Around) : Prop where
  hd : A.handled = none
  dp : A.depth + 3 * k + 5 < recursionLimit
  un : A.units + 16 * k + 200 < cLine
  gd : A.guards = some []
theorem Room.mono {j k : Nat} {A : Around} (r : Room k A) (h : j ≤ k) : Room j A := ⟨r.hd, by have := r.dp; omega, by have := r.un; omega, r.gd⟩
theorem Room.deeper {k : Nat} {A : Around} (r : Room (k + 1) A) (env : Env) : Room k (A.deeper env) :=
  ⟨r.hd, by have := r.dp; show A.depth + 1 + 3 * k + 5 < _; omega, by have := r.un; show A.units + 3 + 16 * k + 200 < _; omega, r.gd⟩
theorem Room.in1 {k : Nat} {A : Around} (r : Room (k + 1) A) : Room k A.in1 :=
  ⟨r.hd, by have := r.dp; show A.depth + 3 * k + 5 < _; omega, by have := r.un; show A.units + 1 + 16 * k + 200 < _; omega, r.gd⟩
theorem Room.depth {k : Nat} {A : Around} (r : Room k A) : A.depth < recursionLimit := by have := r.dp; omega
theorem Room.units {k : Nat} {A : Around} (r : Room k A) : A.units + 64 < cLine := by have := r.un; omega
def tNil : TA := fun _ H Q => Q [] H
def tCons (ta : TE) (tr : TA) : TA := fun σ H Q => ta σ H fun x H1 => tr σ H1 fun xs H2 => Q (x :: xs) H2
section
variable {X : Cx} {e : Expr} {es : List Expr} {te : TE} {t : TA} {pos : Pos}
theorem pa_nil : PA X [] tNil := fun _ _ _ _ H Q I h => Calls.spliced_nil ⟨[], H, I, .nil, h⟩
theorem pa_cons (ha : PE X e te) (hr : PA X es t) (hs : starEach (e :: es) X.env = (false, eval e X.env) :: starEach es X.env := by rfl) : PA X (e :: es) (tCons te t) := by
  intro pos pins s σ H Q I h
  rw [hs]
  show wpAny _ _ (spliced ((false, eval e X.env) :: backTo pos (starEach es X.env))) _ _ s
  refine Calls.spliced_cons (thn (ha pins s σ H _ I h) fun u s1 ⟨x, H1, I1, r1, q1⟩ => ?_)
  exact thn (hr pos pins s1 σ H1 _ I1 q1) fun us s2 ⟨xs, H2, I2, r2, q2⟩ => ⟨x :: xs, H2, I2, .cons r1 r2, q2⟩

def tTup (t : TA) : TE := fun σ H Q => t σ H fun xs H1 => xs.length ≤ sizeLine ∧ ∀ p, H1 p = none → Q (.ref p) (upd H1 p (.tup xs))
def tLst (t : TA) : TE := fun σ H Q => t σ H fun xs H1 => xs.length ≤ sizeLine ∧ ∀ p, H1 p = none → Q (.ref p) (upd H1 p (.lst xs))
theorem pe_tup {x1} (h : PA X es t) : PE X (.Tuple es x1 pos) (tTup t) := by
  intro pins s σ H Q I hq
  refine wpAny_Tuple_spliced (thn (h pos pins s σ H _ I hq) fun us s1 ⟨xs, H1, I1, r, z, q⟩ => ⟨by rw [← r.length]; exact z, ?_⟩)
  have hf : H1 s1.heap.objs.size = none := I1.hok.fresh (Nat.le_refl _)
  refine ⟨.ref s1.heap.objs.size, upd H1 s1.heap.objs.size (.tup xs), I1.laid (t' := s1.toks) (fun b u e => Heap.get?_push_of_some _ e) (Nat.le_refl _) ?_, rfl, q _ hf⟩
  exact ⟨z, us, r, ⟨_, Heap.get?_push_size _ rfl, rfl, _, rfl⟩⟩
theorem pe_lst (h : PA X es t) : PE X (.List es pos) (tLst t) := by
  intro pins s σ H Q I hq
  refine wpAny_List_spliced (thn (h pos pins s σ H _ I hq) fun us s1 ⟨xs, H1, I1, r, z, q⟩ => ⟨by rw [← r.length]; exact z, ?_⟩)
  have hf : H1 s1.heap.objs.size = none := I1.hok.fresh (Nat.le_refl _)
  refine ⟨.ref s1.heap.objs.size, upd H1 s1.heap.objs.size (.lst xs), I1.laid (t' := s1.toks) (fun b u e => Heap.get?_push_of_some _ e) (Nat.le_refl _) ?_, rfl, q _ hf⟩
  exact ⟨z, us, 0, r, Heap.get?_push_size _ rfl⟩
end

abbrev Sp := List V → Hp → VK → XK → Prop
abbrev CXT := List Env → Hp → Shared → XK → Value → Shared → Prop

structure Env0 (P : Program) (w : World) (K : PySem.W.Frag) (mg : Str → Option Value) (base : Heap) (A : Around) (outer : List Env) (s : Shared) (H : Hp) : Prop where
  frames : A.frames = some outer
  mod : Mod K mg base
  bs : ∀ b o, base.get? b = some o → s.heap.get? b = some o ∧ H b = none
  bsz : base.objs.size ≤ s.heap.objs.size
  funs : s.heap.FunFrames base outer
  frf : ∀ b ∈ frs outer, H b = none
  hok : HOk P w H s.heap
  bare : AllBare s.gens
def CE (outer : List Env) (P : Program) (w : World) (H : Hp) (s : Shared) (Q : VK) (u : Value) (s' : Shared) : Prop :=
  ∃ v H', s'.os = s.os ∧ AllBare s'.gens ∧ Un (frs outer) [] H H' s.heap s'.heap ∧ HOk P w H' s'.heap ∧ RelV v u ∧ Q v H'
def CR (CX : CXT) (outer : List Env) (P : Program) (w : World) (H : Hp) (s : Shared) (Q : VK) (E : XK) (r : Result) (s' : Shared) : Prop :=
  match r with
  | .ok (.ret u) => CE outer P w H s Q u s'
  | .ok _ => False
  | .error e => CX outer H s E e s'
structure FnOk (P : Program) (w : World) (K : PySem.W.Frag) (mg : Str → Option Value) (base : Heap) (CX : CXT) (k : Nat) (f : Addr) (fd : FuncData) (ps : List Str) (sp : Sp) : Prop where
  len : ∀ vs H Q E, sp vs H Q E → vs.length = ps.length
  run : ∀ (A : Around) (outer : List Env) (s : Shared) (H : Hp) (args : Args) (us : List Value) (vs : List V) (Q : VK) (E : XK), Room k A → Env0 P w K mg base A outer s H → BindsTo s fd args (ps.zip us) → Vals vs us → sp vs H Q E →
    codeAny (model P w) A (.call (.ref f) args) (CR CX outer P w H s Q E) s
section
variable {X : Cx} {pins : List (Addr × Obj)} {σ : St} {H : Hp} {s s' : Shared}
theorem Inv.env0 (I : Inv X pins σ H s) : Env0 X.prog X.w X.K X.mg X.base X.A X.stack s H :=
  ⟨I.ok.frames, I.ok.mod, I.bs, Nat.le_trans I.ok.bsz I.sz, I.stack, I.stkFree, I.hok, I.bare⟩
theorem Inv.after {Q : VK} {u : Value} (I : Inv X pins σ H s) (h : CE X.stack X.prog X.w H s Q u s') : EP X pins σ Q u s' := by
  obtain ⟨v, H', os, bare, un, hok, r, q⟩ := h
  obtain ⟨hh, g, d, t, os'⟩ := s'
  obtain rfl : os' = s.os := os
  exact ⟨v, H', I.call (h' := hh) (g' := g) (d' := d) (t' := t) (ch := []) un hok bare (fun b z => absurd z (by simp)), r, q⟩
end

def tCall (sp : Sp) (dvs : List V) (E : XK) (t : TA) : TE := fun σ H Q => t σ H fun vs H1 => sp (vs ++ dvs) H1 Q E
def Binds (K : PySem.W.Frag) (fd : FuncData) (ps : List Str) (ds : List Value) : Prop :=
  ∀ (s : Shared) (us : List Value), K.In s.heap → (us ++ ds).length = ps.length → BindsTo s fd ⟨us, []⟩ (ps.zip (us ++ ds))
theorem Binds.all {K : PySem.W.Frag} {fd : FuncData} {ps : List Str} (h : ∀ us : List Value, us.length = ps.length → bindArgs fd ⟨us, []⟩ = pure (ps.zip us)) : Binds K fd ps [] := fun s us _ hl => by
  rw [List.append_nil] at hl ⊢
  exact .of_eq (h us hl)

def Passes (CX : CXT) (X : Cx) (E : XK) : Prop := ∀ (pins : List (Addr × Obj)) (σ : St) (H : Hp) (s : Shared) (e : Value) (s' : Shared), Inv X pins σ H s → CX X.stack H s E e s' → X.xe e s'

section
variable {X : Cx} {CX : CXT} {k : Nat} {f C : Addr} {fd : FuncData} {ps : List Str} {sp : Sp} {dvs : List V} {ds : List Value} {E : XK} {x m : Str} {p pos apos : Pos} {e o : Expr} {es : List Expr} {ta : TE} {t : TA}

theorem run_fn {pins : List (Addr × Obj)} {σ : St} {H : Hp} {s : Shared} {Q : VK} {us : List Value} {vs : List V} (F : FnOk X.prog X.w X.K X.mg X.base CX k f fd ps sp) (hr : Room k X.A) (hb : Binds X.K fd ps ds) (hd : Vals dvs ds) (hx : Passes CX X E)
    (I : Inv X pins σ H s) (r : Vals vs us) (h : sp (vs ++ dvs) H Q E) : wpAny (model X.prog X.w) X.A (call (.ref f) us) (EP X pins σ Q) X.xe s := by
  have r2 : Vals (vs ++ dvs) (us ++ ds) := r.append hd
  have hl : (us ++ ds).length = ps.length := by rw [← r2.length]; exact F.len _ _ _ _ h
  refine wpAny_call (codeAny_mono (F.run X.A X.stack s H ⟨us, []⟩ (us ++ ds) (vs ++ dvs) Q E hr I.env0 (hb s us I.kIn hl) r2 h) fun r s' hq => ?_)
  cases r with
  | error e => exact hx pins σ H s e s' I hq
  | ok fl =>
    cases fl with
    | ret u => exact I.after hq
    | next => exact False.elim hq
    | brk => exact False.elim hq
    | cont => exact False.elim hq

theorem pe_call (F : FnOk X.prog X.w X.K X.mg X.base CX k f fd ps sp) (hr : Room k X.A) (hg : Gl X x) (hm : X.mg x = some (.ref f)) (hk : PySem.W.keepIn X.K (.ref f) = true) (hb : Binds X.K fd ps ds) (hd : Vals dvs ds) (hx : Passes CX X E)
    (ha : PA X (e :: es) t) (hdb : (x == ("__debug__" : Str)) = false := by decide) (he : starEach (e :: es) X.env = (false, eval e X.env) :: starEach es X.env := by rfl) (hpl : (backTo pos (starEach es X.env)).any (·.1) = false := by rfl) :
    PE X (.Call (.Name x p) (e :: es) [] pos) (tCall sp dvs E t) := by
  intro pins s σ H Q I h
  refine wpAny_Call_Name_kw (ld_glob I hg hm ?_ hdb)
  refine PySem.W.callWith_K (h₀ := X.base) I.ok.mod.kin hk (thn (ha pos pins s σ H _ I h) fun us s1 ⟨vs, H1, I1, r, q⟩ => ⟨I1.kIn, ?_⟩) he hpl
  exact run_fn F hr hb hd hx I1 r q
theorem pe_call0 (F : FnOk X.prog X.w X.K X.mg X.base CX k f fd ps sp) (hr : Room k X.A) (hg : Gl X x) (hm : X.mg x = some (.ref f)) (hk : PySem.W.keepIn X.K (.ref f) = true) (hb : Binds X.K fd ps ds) (hd : Vals dvs ds) (hx : Passes CX X E)
    (hdb : (x == ("__debug__" : Str)) = false := by decide) : PE X (.Call (.Name x p) [] [] pos) (tCall sp dvs E tNil) := by
  intro pins s σ H Q I h
  refine wpAny_Call_Name_kw (ld_glob I hg hm ?_ hdb)
  exact PySem.W.callWith_K0 I.kIn hk (run_fn (us := []) F hr hb hd hx I .nil h)

end

section
variable {X : Cx} {CX : CXT} {k : Nat} {f C : Addr} {fd : FuncData} {ps ks : List Str} {sp : Sp} {E : XK} {x m : Str} {p pos apos kpos : Pos} {e o : Expr} {es : List Expr} {kws : List Keyword} {te ta : TE} {t tk : TA} {nm : Option Str}
variable {g : List Value → List Value → List Value} {gV : List V → List V → List V}
end

structure FnScope (N P : List Str) (sc : Scope) : Prop where
  kind : sc.kind = .function
  co : sc.isCoroutine = false
  gen : sc.isGenerator = false
  nd : N.Nodup
  pre : N.take P.length = P
  par : ∀ x ∈ P, sc.names.lookup x = some .local ∨ sc.names.lookup x = some .cell
  nofree : ∀ y ∈ sc.names, y.2 ≠ .free

theorem bindL_out {kindOf : Str → Option NameKind} {x : Str} : ∀ {binds : List (Str × Value)} {m : Str → Option Value}, (∀ v, (x, v) ∉ binds) → bindL kindOf binds m x = m x
  | [], _, _ => rfl
  | (n, v) :: r, m, h => by
    unfold bindL
    rw [bindL_out fun w hw => h w (List.mem_cons_of_mem _ hw)]
    split
    · have : x ≠ n := by rintro rfl; exact h v List.mem_cons_self
      simp [this]
    · rfl
theorem bindC_out {kindOf : Str → Option NameKind} {x : Str} : ∀ {binds : List (Str × Value)} {m : Str → Option Value}, (∀ v, (x, v) ∉ binds) → bindC kindOf binds m x = m x
  | [], _, _ => rfl
  | (n, v) :: r, m, h => by
    unfold bindC
    rw [bindC_out fun w hw => h w (List.mem_cons_of_mem _ hw)]
    split
    · rfl
    · have : x ≠ n := by rintro rfl; exact h v List.mem_cons_self
      simp [this]
theorem bindL_get {kindOf : Str → Option NameKind} {x : Str} {v : Value} : ∀ {P : List Str} {vs : List Value} {i : Nat} {m : Str → Option Value}, P.Nodup → P[i]? = some x → vs[i]? = some v → kindOf x = some .local →
    bindL kindOf (P.zip vs) m x = some v
  | [], _, _, _, _, h, _, _ => by simp at h
  | _ :: _, [], _, _, _, _, h, _ => by simp at h
  | p :: P, w :: vs, 0, m, nd, h1, h2, hk => by
    simp at h1 h2; subst h1; subst h2
    show bindL kindOf ((p, w) :: P.zip vs) m p = _
    unfold bindL
    rw [bindL_out fun v hv => (List.nodup_cons.mp nd).1 (List.of_mem_zip hv).1, if_pos hk]
    simp
  | p :: P, w :: vs, i + 1, m, nd, h1, h2, hk => by
    show bindL kindOf ((p, w) :: P.zip vs) m x = _
    unfold bindL
    exact bindL_get (i := i) (List.nodup_cons.mp nd).2 (by simpa using h1) (by simpa using h2) hk
theorem bindC_get {kindOf : Str → Option NameKind} {x : Str} {v : Value} : ∀ {P : List Str} {vs : List Value} {i : Nat} {m : Str → Option Value}, P.Nodup → P[i]? = some x → vs[i]? = some v → kindOf x ≠ some .local →
    bindC kindOf (P.zip vs) m x = some v
  | [], _, _, _, _, h, _, _ => by simp at h
  | _ :: _, [], _, _, _, _, h, _ => by simp at h
  | p :: P, w :: vs, 0, m, nd, h1, h2, hk => by
    simp at h1 h2; subst h1; subst h2
    show bindC kindOf ((p, w) :: P.zip vs) m p = _
    unfold bindC
    rw [bindC_out fun v hv => (List.nodup_cons.mp nd).1 (List.of_mem_zip hv).1, if_neg hk]
    simp
  | p :: P, w :: vs, i + 1, m, nd, h1, h2, hk => by
    show bindC kindOf ((p, w) :: P.zip vs) m x = _
    unfold bindC
    exact bindC_get (i := i) (List.nodup_cons.mp nd).2 (by simpa using h1) (by simpa using h2) hk

def start (N : List Str) (vs : List V) : St := vs.map some ++ List.replicate (N.length - vs.length) none

def cxOf (CX : CXT) (P : Program) (w : World) (K : PySem.W.Frag) (mg : Str → Option Value) (base : Heap) (N : List Str) (qual : Str) (scope : Scope) (f : Addr) (cd : Value) (A : Around) (outer : List Env) (s : Shared) (H : Hp) (E : XK) : Cx where
  prog := P
  w := w
  K := K
  mg := mg
  base := base
  A := A.deeper (envOfC qual scope s.heap.objs.size f cd)
  N := N
  s₀ := s
  H₀ := H
  env := envOfC qual scope s.heap.objs.size f cd
  outer := outer
  stack := envOfC qual scope s.heap.objs.size f cd :: outer
  ex := []
  calm := true
  fn := fun _ => true
  pn := []
  xe := fun e s' => wpAny (model P w) (A.deeper (envOfC qual scope s.heap.objs.size f cd)) (leaving (envOfC qual scope s.heap.objs.size f cd) e) (fun _ s'' => CX outer H s E e s'') (fun e' s'' => CX outer H s E e' s'') s'

theorem cell_has {sc : Scope} {n : Nat} {x : Str} (h : sc.names.lookup x = some .cell) : ∃ c, (cellsFrom n sc.names []).lookup x = some c := by
  have q := PySem.W.cellsFrom_some sc.names n [] (.inl h)
  exact Option.isSome_iff_exists.mp q

theorem inv_start {CX : CXT} {P : Program} {w : World} {K : PySem.W.Frag} {mg : Str → Option Value} {base : Heap} {N ps : List Str} {qual : Str} {scope : Scope} {f : Addr} {cd : Value} {A : Around} {outer : List Env} {s s1 : Shared} {H : Hp} {E : XK} {us : List Value} {vs : List V}
    (S : FnScope N ps scope) (hd : A.handled = none) (e0 : Env0 P w K mg base A outer s H) (hl : vs.length = ps.length) (r : Vals vs us)
    (x : InCallC s s.heap.objs.size (bindL (envOfC qual scope s.heap.objs.size f cd).kindOf (ps.zip us) fun _ => none) (cellsFrom (s.heap.objs.size + 1) scope.names []) (bindC (envOfC qual scope s.heap.objs.size f cd).kindOf (ps.zip us) fun _ => none) s1) :
    Inv (cxOf CX P w K mg base N qual scope f cd A outer s H E) [] (start N vs) H s1 := by
  have hpl : ps.length ≤ N.length := by have := congrArg List.length S.pre; rw [List.length_take] at this; omega
  obtain ⟨h1, tk, rfl, hk⟩ := x.done
  have noA : ∀ b : Addr, b ∉ (cxOf CX P w K mg base N qual scope f cd A outer s H E).ex := fun b z => absurd (show b ∈ ([] : List Addr) from z) (by simp)
  refine ⟨⟨e0.mod, S.kind, rfl, rfl, Nat.le_refl _, fun y z c h1 h2 => ?_, fun y hy => ?_, fun y c _ h => ?_, fun _ => hd, Around.frames_deeper e0.frames, .inr ⟨rfl, rfl⟩, fun b z => absurd z (noA b), e0.bs, e0.bsz, fun b _ _ => noA b, fun b z => absurd z (noA b), e0.funs, e0.frf⟩,
    rfl, e0.bare, Un.kept hk, ⟨_, x.toInCall.ns, fun i y v h1 h2 h3 => ?_⟩, fun y c h => ⟨_, x.cell y c h⟩, e0.hok.fresh (Nat.le_refl _), fun y c h => ?_, fun p hp => absurd (show p ∈ ([] : List (Addr × Obj)) from hp) (by simp), e0.hok.kept hk, ?_⟩
  · exact name_of_addr x.apart (PySem.mem_of_lookup h1) (PySem.mem_of_lookup h2)
  · have hy : scope.names.lookup y = some .cell ∨ scope.names.lookup y = some .free := hy
    rcases hy with hy | hy
    · exact cell_has hy
    · exact absurd rfl (S.nofree _ (PySem.mem_of_lookup hy))
  · exact Nat.le_of_lt (x.above y c (PySem.mem_of_lookup h))
  · have hi : i < vs.length := by
      unfold start at h2
      by_cases hi : i < vs.length
      · exact hi
      · rw [List.getElem?_append_right (by simpa using hi)] at h2
        rw [List.getElem?_replicate] at h2
        split at h2 <;> cases h2
    have ha : vs[i]? = some v := by
      unfold start at h2
      rw [List.getElem?_append_left (by simpa using hi), List.getElem?_map] at h2
      cases e : vs[i]? with
      | none => rw [e] at h2; cases h2
      | some a => rw [e] at h2; cases h2; rfl
    obtain ⟨u, hu, rv⟩ := r.get ha
    have hp : ps[i]? = some y := by
      rw [← S.pre, List.getElem?_take_of_lt (by omega)]; exact h1
    have ndP : ps.Nodup := by rw [← S.pre]; exact S.nd.sublist (List.take_sublist _ _)
    refine ⟨u, rv, ?_⟩
    rcases S.par y (List.mem_of_getElem? hp) with k | k
    · exact .inl ⟨k, bindL_get ndP hp hu k⟩
    · obtain ⟨c, e⟩ := cell_has (n := s.heap.objs.size + 1) k
      refine .inr ⟨.inl k, c, e, ?_⟩
      have q := x.cell y c e
      rw [bindC_get ndP hp hu (by show scope.names.lookup y ≠ _; rw [k]; decide)] at q
      exact q
  · exact e0.hok.fresh (Nat.le_of_lt (x.above y c (PySem.mem_of_lookup h)))
  · unfold start
    show _ = N.length
    rw [List.length_append, List.length_map, List.length_replicate]
    omega

theorem fn_of {CX : CXT} {P : Program} {w : World} {K : PySem.W.Frag} {mg : Str → Option Value} {base : Heap} {k : Nat} {f : Addr} {name qual : Str} {params : Arguments} {body : List Stmt} {scope : Scope} {dV kV doc pm cdv ct oc : Value} {an od : Option Addr}
    {osl : Array (Option Value)} {N ps : List Str} {sp : Sp} (lk : K.lookup f = some ⟨oc, od, .func (PySem.W.fnOf name qual params body scope dV kV doc pm an cdv ct), osl⟩) (hcd : PySem.W.codeIn K cdv qual = true) (S : FnScope N ps scope)
    (len : ∀ vs H Q E, sp vs H Q E → vs.length = ps.length)
    (hbody : ∀ (A : Around) (outer : List Env) (s : Shared) (H : Hp) (vs : List V) (Q : VK) (E : XK), Room k (A.deeper (envOfC qual scope s.heap.objs.size f cdv)) → sp vs H Q E →
      ∃ t, PSs (cxOf CX P w K mg base N qual scope f cdv A outer s H E) body t ∧ t { nx := fun _ H' => Q .non H', rt := Q } (start N vs) H) :
    FnOk P w K mg base CX (k + 1) f (PySem.W.fnOf name qual params body scope dV kV doc pm an cdv ct) ps sp := by
  refine ⟨len, fun A outer s H args us vs Q E hr e0 hb r hsp => ?_⟩
  have hl := len _ _ _ _ hsp
  have KX : K.In s.heap := e0.mod.kin.keeps fun b o e => (e0.bs b o e).1
  have lim : s.heap.NoLimit := e0.mod.nolimit.keeps fun b o e => (e0.bs b o e).1
  have hkind : ∀ y ∈ ps.zip us, scope.names.lookup y.1 = some .local ∨ (scope.names.lookup y.1 = some .cell ∧ ((cellsFrom (s.heap.objs.size + 1) scope.names []).lookup y.1).isSome = true) := fun ⟨n, v⟩ hy => by
    rcases S.par n (List.of_mem_zip hy).1 with q | q
    · exact .inl q
    · exact .inr ⟨q, PySem.W.cellsFrom_some _ _ _ (.inl q)⟩
  refine codeAny_call_function hr.depth (KX _ _ lk) rfl S.co S.gen rfl (PySem.W.codeRec_of KX hcd) (hb _ _ _ _ ?_)
  refine wpAny_newFunctionEnv_cells S.kind hkind fun env he s1 x => ?_
  subst he
  refine ⟨lim.keeps x.toInCall.keep, codeAny_func ?_⟩
  obtain ⟨t, ht, hq⟩ := hbody A outer s H vs Q E (hr.deeper _) hsp
  have I : Inv (cxOf CX P w K mg base N qual scope f cdv A outer s H E) [] (start N vs) H s1 := inv_start S hr.hd e0 hl r x
  refine wpAny_mono (ht [] s1 (start N vs) H _ I hq) (fun fl s' hs => ?_) fun e s' hs => hs
  have fin : ∀ {σ' : St} {H' : Hp} {v : V} {u : Value}, Inv (cxOf CX P w K mg base N qual scope f cdv A outer s H E) [] σ' H' s' → RelV v u → Q v H' → CE outer P w H s Q u s' :=
    fun {σ' H' v u} J rv q => ⟨v, H', J.os, J.bare, J.base, J.hok, rv, q⟩
  cases fl with
  | ret u =>
    obtain ⟨v, σ', H', J, rv, q⟩ := hs
    exact fin J rv q
  | next =>
    obtain ⟨σ', H', J, q⟩ := hs
    exact fin (v := V.non) (u := Value.none) J rfl q
  | brk =>
    obtain ⟨_, _, _, q⟩ := hs
    exact False.elim q
  | cont =>
    obtain ⟨_, _, _, q⟩ := hs
    exact False.elim q
end L2

namespace L2
open PySem PySem.Spec PyProof.Rows
section
variable {X : Cx} {x : Str} {p pos : Pos} {e : Expr} {es : List Expr} {t : TA} {id T : String} {r : List V → Hp → VK → Prop}

def tCB (r : List V → Hp → VK → Prop) (t : TA) : TE := fun σ H Q => t σ H fun vs H1 => r vs H1 Q
theorem pe_callB (hc : CallR X (.builtin id) r) (hg : Gl X x) (hm : X.mg x = none) (hv : bootBuiltins x = some (.builtin id)) (ha : PA X (e :: es) t) (hn : x ≠ "__name__" := by decide) (hdb : (x == ("__debug__" : Str)) = false := by decide)
    (he : starEach (e :: es) X.env = (false, eval e X.env) :: starEach es X.env := by rfl) (hpl : (backTo pos (starEach es X.env)).any (·.1) = false := by rfl) : PE X (.Call (.Name x p) (e :: es) [] pos) (tCB r t) := by
  intro pins s σ H Q I h
  refine wpAny_Call_Name_kw (ld_blt I hg hm hv ?_ hn hdb)
  exact PyProof.Rows.callWith_builtin1 (thn (ha pos pins s σ H _ I h) fun us s1 ⟨vs, H1, I1, r1, q1⟩ => hc pins s1 σ H1 vs us Q I1 r1 q1) he hpl
theorem pe_callTy (hc : CallR X (.type T) r) (hg : Gl X x) (hm : X.mg x = none) (hv : bootBuiltins x = some (.type T)) (ha : PA X (e :: es) t) (hn : x ≠ "__name__" := by decide) (hdb : (x == ("__debug__" : Str)) = false := by decide)
    (he : starEach (e :: es) X.env = (false, eval e X.env) :: starEach es X.env := by rfl) (hpl : (backTo pos (starEach es X.env)).any (·.1) = false := by rfl) : PE X (.Call (.Name x p) (e :: es) [] pos) (tCB r t) := by
  intro pins s σ H Q I h
  refine wpAny_Call_Name_kw (ld_blt I hg hm hv ?_ hn hdb)
  exact PyProof.Rows.callWith_type1 (thn (ha pos pins s σ H _ I h) fun us s1 ⟨vs, H1, I1, r1, q1⟩ => hc pins s1 σ H1 vs us Q I1 r1 q1) he hpl
end
end L2

namespace HT
open PySem PyProof.Rows

section
open PySem.SeqAt
open PySem.AutoSeq1 (wpAny_loadPart')
open PySem.MeetsSeq PySem.MeetsSeq2 PySem.MeetsSeq3

end

section
variable {prog : Program} {w : World} {A : Around} {E : Value → Shared → Prop} {s : Shared}

theorem cat_tup {t b : Addr} {vs ws : List Value} {Q : Value → Shared → Prop} (ht : IsTup s.heap t vs.toArray) (hb : IsTup s.heap b ws.toArray) (hv : vs ≠ [])
    (h1 : ws = [] → Q (.ref t) s) (h2 : ws ≠ [] → Q (.ref s.heap.objs.size) { s with heap := s.heap.push { cls := .type "tuple", data := .seq (vs ++ ws).toArray } })
    (hsz : vs.length + ws.length ≤ sizeLine) : wpAny (model prog w) A (binaryOp .Add (.ref t) (.ref b)) Q E s := by
  obtain ⟨⟨cls, dd, data, sl⟩, ho, hc, n, hd⟩ := id ht
  obtain ⟨⟨cls2, dd2, data2, sl2⟩, ho2, hc2, n2, hd2⟩ := id hb
  simp only at hc hd hc2 hd2
  subst hc hd hc2 hd2
  have e : vs.toArray ++ ws.toArray = (vs ++ ws).toArray := by simp
  by_cases hw : ws = []
  · exact concat_meets ⟨_, ho, rfl⟩ ⟨_, ho2, rfl⟩ noFill_tuple_add seq_tuple_add PySem.F.slot_tuple_add PySem.F.entry_tuple_add (PySem.F.args_tuple_add_2 _ _)
      (tuple_addW1 t b vs.toArray ws.toArray n n2 dd dd2 sl sl2 (by simpa using hv) (by simp [hw])) ⟨ho, ho2, h1 hw⟩
  · refine concat_meets ⟨_, ho, rfl⟩ ⟨_, ho2, rfl⟩ noFill_tuple_add seq_tuple_add PySem.F.slot_tuple_add PySem.F.entry_tuple_add (PySem.F.args_tuple_add_2 _ _)
      (tuple_addW2 t b vs.toArray ws.toArray n n2 dd dd2 sl sl2 (by simpa using hv) (by simpa using hw) (by rw [List.size_toArray, List.size_toArray]; exact hsz)) ⟨ho, ho2, ?_⟩
    rw [e]
    exact h2 hw

def sIx (n d : Nat) : Option Int → Nat
  | none => d
  | some v => if v < 0 then (v + (n : Int)).toNat else min v.toNat n
theorem sIx_none (n d : Nat) : sIx n d none = d := rfl
theorem sIx_nat (n d k : Nat) : sIx n d (some (k : Int)) = min k n := by
  show (if (k : Int) < 0 then ((k : Int) + (n : Int)).toNat else min (k : Int).toNat n) = min k n
  rw [if_neg (by omega), Int.toNat_natCast]
end
end HT

namespace L2
open PySem PySem.Spec PyProof.Rows

abbrev TO := St → Hp → (Option Int → Hp → Prop) → Prop
def PO (X : Cx) (e : Option Expr) (t : TO) : Prop :=
  ∀ (pins : List (Addr × Obj)) (s : Shared) (σ : St) (H : Hp) (Q : Option Int → Hp → Prop), Inv X pins σ H s → t σ H Q →
    wpAny (model X.prog X.w) X.A (evalPart e X.env) (fun u s' => ∃ o H', Inv X pins σ H' s' ∧ IsPart u o ∧ Q o H') X.xe s
def tNoPart : TO := fun _ H Q => Q none H
def tPart (t : TE) : TO := fun σ H Q => t σ H fun x H1 => ∃ i, x = .int i ∧ Q (some i) H1

theorem intsAre_of {ns : List Int} : ∀ {us : List Value}, Vals (ns.map V.int) us → IntsAre us ns := by
  induction ns with
  | nil => intro us r; rw [List.map_nil] at r; cases r; exact .nil
  | cons n ns ih =>
    intro us r
    rw [List.map_cons] at r
    cases r with
    | cons r1 r2 =>
      obtain ⟨t, e⟩ := r1
      subst e
      exact .cons n t (ih r2)

section
variable {X : Cx} {e : Expr} {te : TE} {lo hi : Option Expr} {tl th : TO} {pos p2 : Pos}

theorem po_none : PO X none tNoPart := by
  intro pins s σ H Q I h
  rw [evalPart_none]
  exact wpAny_pure ⟨none, H, I, .none, h⟩
theorem po_some (h : PE X e te) : PO X (some e) (tPart te) := by
  intro pins s σ H Q I hw
  rw [evalPart_some]
  refine thn (h pins s σ H _ I hw) fun u s1 ⟨x, H1, I1, r1, q1⟩ => ?_
  obtain ⟨i, rfl, q⟩ := q1
  obtain ⟨t, rfl⟩ := r1
  exact ⟨some i, H1, I1, .int i t, q⟩

def SlR (X : Cx) (r : V → Option Int → Option Int → Hp → VK → Prop) : Prop :=
  ∀ (pins : List (Addr × Obj)) (s : Shared) (σ : St) (H : Hp) (x : V) (v vl vu : Value) (lo hi : Option Int) (sl : Addr) (Q : VK), Inv X pins σ H s → RelV x v → s.heap.IsSliceOf sl vl vu .none → IsPart vl lo → IsPart vu hi → r x lo hi H Q →
    ∃ T id, typeLookup (.type T) "__getitem__" = pure (some (.builtin id)) ∧ s.TypeIs v T ∧ wpAny (model X.prog X.w) X.A (getItem v (.ref sl)) (EP X pins σ Q) X.xe s
def tSl (r : V → Option Int → Option Int → Hp → VK → Prop) (te : TE) (tl th : TO) : TE := fun σ H Q => te σ H fun x H1 => tl σ H1 fun l H2 => th σ H2 fun u H3 => r x l u H3 Q
theorem pe_slice {r : V → Option Int → Option Int → Hp → VK → Prop} (hr : SlR X r) (he : PE X e te) (hl : PO X lo tl) (hu : PO X hi th) : PE X (.Subscript e (.Slice lo hi none p2) pos) (tSl r te tl th) := by
  intro pins s σ H Q I h
  refine Subscript_ (thn (he pins s σ H _ I h) fun v s1 ⟨x, H1, I1, r1, q1⟩ => ?_)
  refine wpAny_Slice (thn (hl pins s1 σ H1 _ I1 q1) fun vl s2 ⟨l, H2, I2, pl, q2⟩ => thn (hu pins s2 σ H2 _ I2 q2) fun vu s3 ⟨u, H3, I3, pu, q3⟩ => ?_)
  rw [evalPart_none]
  refine wpAny_pure ?_
  have I4 : Inv X pins σ H3 { s3 with heap := s3.heap.push { cls := .type "slice", data := .fields #[vl, vu, .none] } } := I3.kept (t' := s3.toks) fun b ob q => Heap.get?_push_of_some _ q
  obtain ⟨T, id, hT, ht, hg⟩ := hr pins { s3 with heap := s3.heap.push { cls := .type "slice", data := .fields #[vl, vu, .none] } } σ H3 x v vl vu l u s3.heap.objs.size Q I4 r1 (Heap.IsSliceOf.new ..) pl pu q3
  show wpAny (model X.prog X.w) X.A (subscriptTail e (.Slice lo hi none p2) v (.ref s3.heap.objs.size)) (EP X pins σ Q) X.xe { s3 with heap := s3.heap.push { cls := .type "slice", data := .fields #[vl, vu, .none] } }
  exact tail_any (ops := [.ref s3.heap.objs.size, v]) ht hT hg (by with_unfolding_all rfl)

def cutV (xs : List V) (lo hi : Option Int) : List V := (xs.drop (HT.sIx xs.length 0 lo)).take (HT.sIx xs.length xs.length hi - HT.sIx xs.length 0 lo)
theorem cutV_length (xs : List V) (lo hi : Option Int) : (cutV xs lo hi).length ≤ xs.length := by
  unfold cutV
  rw [List.length_take, List.length_drop]
  omega
def rCatT (K : PySem.W.Frag) : R2 := fun x y H Q => ∃ a b xs ys, x = .ref a ∧ y = .ref b ∧ SqT K H a xs ∧ SqT K H b ys ∧ xs ≠ [] ∧ xs.length + ys.length ≤ sizeLine ∧
  (ys = [] → Q (.ref a) H) ∧ (ys ≠ [] → ∀ p, H p = none → Q (.ref p) (upd H p (.tup (xs ++ ys))))
theorem Vals.nil_iff {xs : List V} {us : List Value} (r : Vals xs us) : us = [] ↔ xs = [] := by
  cases r with
  | nil => simp
  | cons _ _ => simp
theorem op_catT : OpR X (binaryOp .Add) (rCatT X.K) := by
  intro pins s σ H x y v u Q I rx ry h
  obtain ⟨a, b, xs, ys, rfl, rfl, ha, hb, hx, hz, q1, q2⟩ := h
  cases rx
  cases ry
  obtain ⟨its, r1, p1, _⟩ := I.tuple ha
  obtain ⟨its2, r2, p2, _⟩ := I.tuple hb
  refine HT.cat_tup p1 p2 (fun z => hx (r1.nil_iff.mp z)) (fun z => ⟨.ref a, H, I, rfl, q1 (r2.nil_iff.mp z)⟩) (fun z => ?_) (by rw [← r1.length, ← r2.length]; exact hz)
  refine ⟨.ref s.heap.objs.size, _, I.laid (t' := s.toks) (o := .tup (xs ++ ys)) (fun b ob q => Heap.get?_push_of_some _ q) (Nat.le_refl _) ?_, rfl, q2 (fun w => z (r2.nil_iff.mpr w)) _ (I.hok.fresh (Nat.le_refl _))⟩
  exact ⟨by rw [List.length_append]; exact hz, _, r1.append r2, IsTup.new _ _⟩
end
end L2

namespace L2
open PySem PySem.Spec PyProof.Rows

def ixN (n : Nat) (i : Int) : Option Nat := if 0 ≤ i then (if i < n then some i.toNat else none) else if -(n : Int) ≤ i then some (i + n).toNat else none
def atI {α : Type} (xs : List α) (i : Int) : Option α := (ixN xs.length i).bind fun j => xs[j]?
theorem ixN_seq {n : Nat} {i : Int} {j : Nat} (h : ixN n i = some j) : seqIndex? i n = some j ∧ j < n ∧ -(n : Int) ≤ i ∧ i < n := by
  unfold ixN at h
  by_cases h0 : 0 ≤ i
  · rw [if_pos h0] at h
    by_cases h1 : i < n
    · rw [if_pos h1] at h
      have e : i.toNat = j := Option.some.inj h
      exact ⟨by rw [seqIndex_of h0 h1, e], by omega, by omega, h1⟩
    · rw [if_neg h1] at h; cases h
  · rw [if_neg h0] at h
    by_cases h1 : -(n : Int) ≤ i
    · rw [if_pos h1] at h
      have e : (i + n).toNat = j := Option.some.inj h
      exact ⟨by rw [seqIndex_neg (by omega) h1, e], by omega, h1, by omega⟩
    · rw [if_neg h1] at h; cases h
theorem atI_get {α : Type} {xs : List α} {i : Int} {v : α} (h : atI xs i = some v) : ∃ j, seqIndex? i xs.length = some j ∧ xs[j]? = some v ∧ j < xs.length ∧ -(xs.length : Int) ≤ i ∧ i < xs.length := by
  unfold atI at h
  cases e : ixN xs.length i with
  | none => rw [e] at h; cases h
  | some j =>
    rw [e] at h
    obtain ⟨h1, h2, h3, h4⟩ := ixN_seq e
    exact ⟨j, h1, h, h2, h3, h4⟩
theorem atI_nat {α : Type} {xs : List α} {j : Nat} {v : α} (h : xs[j]? = some v) : atI xs (j : Int) = some v := by
  have hj : j < xs.length := (List.getElem?_eq_some_iff.mp h).1
  have e : ixN xs.length (j : Int) = some j := by
    unfold ixN
    rw [if_pos (by omega), if_pos (by omega)]; simp
  unfold atI; rw [e]; exact h
def PlainIx (b : Expr) : Prop := ∀ o i, subscripted b false o i = operate [o, i] (getItem o i)
def IxR (X : Cx) (r : R2) : Prop :=
  ∀ (value slice : Expr) (pins : List (Addr × Obj)) (s : Shared) (σ : St) (H : Hp) (x y : V) (v u : Value) (Q : VK), Inv X pins σ H s → RelV x v → RelV y u → r x y H Q →
    subscripted slice false v u = operate [v, u] (getItem v u) → wpAny (model X.prog X.w) X.A (subscriptTail value slice v u) (EP X pins σ Q) X.xe s
def MtR (X : Cx) (id : String) (r : V → List V → Hp → VK → Prop) : Prop :=
  ∀ (pins : List (Addr × Obj)) (s : Shared) (σ : St) (H : Hp) (x : V) (xs : List V) (v : Value) (us : List Value) (Q : VK), Inv X pins σ H s → RelV x v → Vals xs us → r x xs H Q →
    wpAny (model X.prog X.w) X.A (call (.builtin id) (v :: us)) (EP X pins σ Q) X.xe s
section
variable {X : Cx} {a b : Expr} {ta tb : TE} {pos : Pos}
theorem IxR.or {r r' : R2} (h : IxR X r) (h' : IxR X r') : IxR X (fun x y H Q => r x y H Q ∨ r' x y H Q) := by
  intro value slice pins s σ H x y v u Q I rx ry q hs
  rcases q with q | q
  · exact h value slice pins s σ H x y v u Q I rx ry q hs
  · exact h' value slice pins s σ H x y v u Q I rx ry q hs
theorem pe_ix {r : R2} (hr : IxR X r) (ha : PE X a ta) (hb : PE X b tb) (hs : PlainIx b) : PE X (.Subscript a b pos) (tOp r ta tb) := by
  intro pins s σ H Q I h
  exact Subscript_ (binT ha hb I h fun v u s2 x y H2 I2 rx ry q => hr a b pins s2 σ H2 x y v u Q I2 rx ry q (hs _ _))

def rIxL (K : PySem.W.Frag) : R2 := fun x y H Q => ∃ p xs i v, x = .ref p ∧ y = .int i ∧ SqL K H p xs ∧ atI xs i = some v ∧ Q v H
def rIxT (K : PySem.W.Frag) : R2 := fun x y H Q => ∃ p xs i v, x = .ref p ∧ y = .int i ∧ SqT K H p xs ∧ atI xs i = some v ∧ Q v H
def rIxS : R2 := fun x y H Q => ∃ z i c, x = .str z ∧ y = .int i ∧ z.length ≤ sizeLine ∧ atI z.cps.toList i = some c ∧ Q (.str ⟨#[c]⟩) H
theorem ix_list : IxR X (rIxL X.K) := by
  intro value slice pins s σ H x y v u Q I rx ry h hs
  obtain ⟨p, xs, i, z, rfl, rfl, hq, he, q⟩ := h
  cases rx
  obtain ⟨t, rfl⟩ := ry
  obtain ⟨its, r, pl, hz⟩ := I.list hq
  obtain ⟨j, h1, h2, h3, h4, h5⟩ := atI_get he
  obtain ⟨w, ew, rw'⟩ := r.get h2
  have hl := r.length
  have hn := line63
  have fin : EP X pins σ Q w s := ⟨z, H, I, rw', q⟩
  by_cases h0 : 0 ≤ i
  · have hj : i.toNat = j := by
      rw [seqIndex_of h0 h5] at h1
      exact Option.some.inj h1
    exact item_listR pl.isList h0 (by omega) (by rw [hj]; simpa using ew) fin hs
  · have hj : (i + (its.toArray.size : Int)).toNat = j := by
      rw [seqIndex_neg (by omega) h4] at h1
      rw [List.size_toArray, ← hl]
      exact Option.some.inj h1
    exact subscriptTail_builtinR (x := w) pl.isList.typeIs slot_list_getitem.lookup
      (wpAny_getItem_list_neg (Q := fun r s' => r = w ∧ EP X pins σ Q r s') pl.isList (by omega) (by rw [List.size_toArray] <;> omega) (by omega) (by rw [hj]; simpa using ew) ⟨rfl, fin⟩) hs
theorem ix_tup : IxR X (rIxT X.K) := by
  intro value slice pins s σ H x y v u Q I rx ry h hs
  obtain ⟨p, xs, i, z, rfl, rfl, hq, he, q⟩ := h
  cases rx
  obtain ⟨t, rfl⟩ := ry
  obtain ⟨its, r, pl, hz⟩ := I.tuple hq
  obtain ⟨j, h1, h2, h3, h4, h5⟩ := atI_get he
  obtain ⟨w, ew, rw'⟩ := r.get h2
  have hl := r.length
  have hn := line63
  have fin : EP X pins σ Q w s := ⟨z, H, I, rw', q⟩
  exact subscriptTail_builtinR (x := w) pl.typeIs slot_tuple_getitem.lookup
    (getItem_tuple (j := j) (Q := fun r s' => r = w ∧ EP X pins σ Q r s') pl (by omega) (by omega) (by rw [List.size_toArray, ← hl]; exact h1) (by simpa using ew) ⟨rfl, fin⟩) hs
theorem ix_str : IxR X rIxS := by
  intro value slice pins s σ H x y v u Q I rx ry h hs
  obtain ⟨z, i, c, rfl, rfl, hz, he, q⟩ := h
  obtain ⟨t, rfl⟩ := rx
  obtain ⟨t', rfl⟩ := ry
  obtain ⟨j, h1, h2, h3, h4, h5⟩ := atI_get he
  have hl : z.cps.toList.length = z.length := by simp [Str.length]
  rw [hl] at h1 h4 h5
  have hn := line63
  exact tail_any (typeIs_str s z t) slot_str_getitem.lookup (getItem_str (c := c) (by
    have e1 : decide (i < -(2 ^ 63 : Int)) = false := decide_eq_false (by omega)
    have e2 : decide (i ≥ 2 ^ 63) = false := decide_eq_false (by omega)
    rw [e1, e2, Bool.or_false]) (by rw [h1]; simpa using h2) ⟨.str ⟨#[c]⟩, H, I.tok _, ⟨_, rfl⟩, q⟩) hs
def rIx (K : PySem.W.Frag) : R2 := fun x y H Q => rIxL K x y H Q ∨ rIxT K x y H Q ∨ rIxS x y H Q
theorem ix_seq : IxR X (rIx X.K) := ix_list.or (ix_tup.or ix_str)

theorem mapSeq_set (its : List Value) (n j : Nat) (u : Value) : Obj.mapSeq (·.setIfInBounds j u) { cls := .type "list", data := .seq its.toArray n } = { cls := .type "list", data := .seq (its.set j u).toArray n } := by
  simp [Obj.mapSeq]
theorem Inv.lst {pins : List (Addr × Obj)} {σ : St} {H : Hp} {s : Shared} {p : Addr} {xs : List V} (I : Inv X pins σ H s) (h : H p = some (.lst xs)) :
    ∃ (its : List Value) (n : Nat), Vals xs its ∧ s.heap.get? p = some { cls := .type "list", data := .seq its.toArray n } ∧ xs.length ≤ sizeLine := by
  obtain ⟨z, its, n, r, e⟩ := I.hok p _ h
  exact ⟨its, n, r, e, z⟩
theorem Inv.lstUpd {pins : List (Addr × Obj)} {σ : St} {H : Hp} {s : Shared} {p : Addr} {xs ys : List V} {its its' : List Value} {n n' : Nat} {f : Obj → Obj} (I : Inv X pins σ H s) (h : H p = some (.lst xs))
    (ho : s.heap.get? p = some { cls := .type "list", data := .seq its.toArray n }) (hf : f { cls := .type "list", data := .seq its.toArray n } = { cls := .type "list", data := .seq its'.toArray n' }) (r : Vals ys its') (hz : ys.length ≤ sizeLine) (t : Nat) :
    Inv X pins σ (upd H p (.lst ys)) { s with heap := s.heap.update p f, toks := t } := by
  have e : (s.heap.update p f).get? p = some { cls := .type "list", data := .seq its'.toArray n' } := by
    rw [Heap.get?_update_self f ho (by rw [hf] <;> rfl), hf]
  refine I.write (x := p) (e := p) (by rw [h]; trivial) (.inl rfl) (fun b u hb q => (Heap.get?_update_other _ _ (Ne.symm hb)).trans q) ⟨_, e⟩ ?_
  exact ⟨hz, its', n', r, e⟩
def rSetL : V → V → V → Hp → (Hp → Prop) → Prop := fun o i v H Q => ∃ p xs k j, o = .ref p ∧ i = .int k ∧ H p = some (.lst xs) ∧ ixN xs.length k = some j ∧ Q (upd H p (.lst (xs.set j v)))
theorem set_list : PSet X rSetL := by
  intro pins s σ H o i v ov iv u Q I ro ri rv h
  obtain ⟨p, xs, k, j, rfl, rfl, hp, hj, q⟩ := h
  cases ro
  obtain ⟨t, rfl⟩ := ri
  obtain ⟨its, n, r, ho, hz⟩ := I.lst hp
  obtain ⟨h1, h2, h3, h4⟩ := ixN_seq hj
  have hl := r.length
  have hn := line63
  have I' : Inv X pins σ (upd H p (.lst (xs.set j v))) { s with heap := s.heap.update p (Obj.mapSeq (·.setIfInBounds j u)) } :=
    I.lstUpd hp ho (mapSeq_set its n j u) (r.set rv j) (by rw [List.length_set]; exact hz) s.toks
  by_cases h0 : 0 ≤ k
  · have hk : k.toNat = j := by
      rw [seqIndex_of h0 h4] at h1
      exact Option.some.inj h1
    exact PySem.W.ki_setAt ho h0 (by omega) (by rw [List.size_toArray, ← hl]; exact h4) (by rw [hk]; exact ⟨_, I', q⟩)
  · have hk : (k + (its.toArray.size : Int)).toNat = j := by
      rw [seqIndex_neg (by omega) h3] at h1
      rw [List.size_toArray, ← hl]
      exact Option.some.inj h1
    exact PySem.W.ki_setBack ho (by omega) (by rw [List.size_toArray, ← hl]; exact h3) (by omega) (by rw [hk]; exact ⟨_, I', q⟩)

theorem slice_bounds (lo hi : Option Int) (n : Nat) : (sliceBounds lo hi none n).1 = ((HT.sIx n 0 lo : Nat) : Int) ∧ (sliceBounds lo hi none n).2.1 = ((HT.sIx n n hi : Nat) : Int) ∧ (sliceBounds lo hi none n).2.2 = 1 := by
  refine ⟨?_, ?_, rfl⟩
  · cases lo with
    | none => simp [sliceBounds, HT.sIx]
    | some i =>
      simp only [sliceBounds, HT.sIx, Option.getD_none, show (1 : Int) > 0 by decide, if_true]
      by_cases h : i < 0
      · simp only [h, if_true] <;> omega
      · simp only [h, if_false] <;> omega
  · cases hi with
    | none => simp [sliceBounds, HT.sIx]
    | some i =>
      simp only [sliceBounds, HT.sIx, Option.getD_none, show (1 : Int) > 0 by decide, if_true]
      by_cases h : i < 0
      · simp only [h, if_true] <;> omega
      · simp only [h, if_false] <;> omega
theorem slicePick_cut (its : List Value) (lo hi : Option Int) : slicePick its.toArray lo hi none = ((its.drop (HT.sIx its.length 0 lo)).take (HT.sIx its.length its.length hi - HT.sIx its.length 0 lo)).toArray := by
  obtain ⟨h1, h2, h3⟩ := slice_bounds lo hi its.toArray.size
  unfold slicePick
  rw [h1, h2, h3]
  simp only [sliceRange_one, pick_run, List.size_toArray] <;> rfl
def rSlL (K : PySem.W.Frag) : V → Option Int → Option Int → Hp → VK → Prop := fun x lo hi H Q => ∃ a xs, x = .ref a ∧ SqL K H a xs ∧ ∀ p, H p = none → Q (.ref p) (upd H p (.lst (cutV xs lo hi)))
theorem sl_list : SlR X (rSlL X.K) := by
  intro pins s σ H x v vl vu lo hi sl Q I rx hs pl pu h
  obtain ⟨a, xs, rfl, hx, q⟩ := h
  cases rx
  obtain ⟨its, r, ht, hz⟩ := I.list hx
  have hlen := r.length
  refine ⟨"list", _, slot_list_getitem.lookup, ht.isList.typeIs, ?_⟩
  refine wpAny_getItem_list_slice ht.isList hs pl pu .none (by simp) ?_ (by rw [List.size_toArray] <;> omega)
  rw [slicePick_cut, ← hlen]
  refine ⟨.ref s.heap.objs.size, _, I.laid (t' := s.toks) (o := .lst (cutV xs lo hi)) (fun b ob q => Heap.get?_push_of_some _ q) (Nat.le_refl _) ?_, rfl, q _ (I.hok.fresh (Nat.le_refl _))⟩
  exact ⟨Nat.le_trans (cutV_length xs lo hi) hz, _, 0, (r.drop (HT.sIx xs.length 0 lo)).take (HT.sIx xs.length xs.length hi - HT.sIx xs.length 0 lo), Heap.get?_push_size _ rfl⟩

theorem call_len_seq : CallR X (.builtin "len") (fun xs H Q => ∃ p ys, xs = [.ref p] ∧ (SqL X.K H p ys ∨ SqT X.K H p ys) ∧ Q (.int ys.length) H) := by
  intro pins s σ H xs us Q I r h
  obtain ⟨p, ys, rfl, hq, q⟩ := h
  obtain ⟨u, rfl, rx⟩ := vals1 r
  cases rx
  have hn := line63
  rcases hq with hq | hq
  · obtain ⟨its, r', pl, hz⟩ := I.list hq
    have hlen := r'.length
    exact Calls.call_len_list pl.isList (by simp only [List.size_toArray] <;> omega) ⟨.int ys.length, H, I.tok _, ⟨s.toks + 1, by rw [List.size_toArray, hlen]⟩, q⟩
  · obtain ⟨its, r', pl, hz⟩ := I.tuple hq
    have hlen := r'.length
    exact len_tuple pl (by simp only [List.size_toArray] <;> omega) ⟨.int ys.length, H, I.tok _, ⟨s.toks + 1, by rw [List.size_toArray, hlen]⟩, q⟩
theorem call_list_of : CallR X (.type "list") (fun xs H Q => ∃ p ys, xs = [.ref p] ∧ (SqL X.K H p ys ∨ SqT X.K H p ys) ∧ ∀ l, H l = none → Q (.ref l) (upd H l (.lst ys))) := by
  intro pins s σ H xs us Q I r h
  obtain ⟨p, ys, rfl, hq, q⟩ := h
  obtain ⟨u, rfl, rx⟩ := vals1 r
  cases rx
  have fin : ∀ (its : List Value), Vals ys its → ys.length ≤ sizeLine → ∀ (h' : Heap) (c' : Nat), (∀ b o', s.heap.get? b = some o' → h'.get? b = some o') →
      h'.get? s.heap.objs.size = some { cls := .type "list", dict := none, data := .seq its.toArray c', slots := #[] } → EP X pins σ Q (.ref s.heap.objs.size) { s with heap := h' } := fun its r' hz h' c' kp e =>
    ⟨.ref s.heap.objs.size, _, I.laid (t' := s.toks) kp (Nat.le_refl _) (show ObjOk X.prog X.w _ h' _ (.lst ys) from ⟨hz, its, c', r', e⟩), rfl, q _ (I.hok.fresh (Nat.le_refl _))⟩
  rcases hq with hq | hq
  · obtain ⟨its, r', pl, hz⟩ := I.list hq
    have hlen := r'.length
    obtain ⟨o, ho, hc, n, hd⟩ := pl.isList
    exact call_list_seq p (.inl rfl) ho hc hd (fun h' c' kp e => fin its r' hz h' c' kp e) (by simp only [List.size_toArray] <;> omega)
  · obtain ⟨its, r', pl, hz⟩ := I.tuple hq
    have hlen := r'.length
    obtain ⟨o, ho, hc, n, hd⟩ := pl
    exact call_list_seq p (.inr rfl) ho hc hd (fun h' c' kp e => fin its r' hz h' c' kp e) (by simp only [List.size_toArray] <;> omega)
theorem call_tuple_of : CallR X (.type "tuple") (fun xs H Q => ∃ p ys, xs = [.ref p] ∧ ((SqL X.K H p ys ∧ ∀ l, H l = none → Q (.ref l) (upd H l (.tup ys))) ∨ (SqT X.K H p ys ∧ Q (.ref p) H))) := by
  intro pins s σ H xs us Q I r h
  obtain ⟨p, ys, rfl, h⟩ := h
  obtain ⟨u, rfl, rx⟩ := vals1 r
  cases rx
  rcases h with ⟨hq, q⟩ | ⟨hq, q⟩
  · obtain ⟨its, r', pl, hz⟩ := I.list hq
    have hlen := r'.length
    refine call_tuple_list pl.isList (fun h' kp => ?_) (by simp only [List.size_toArray] <;> omega)
    have I1 : Inv X pins σ H { s with heap := h' } := I.kept (t' := s.toks) kp
    have I2 : Inv X pins σ (upd H h'.objs.size (.tup ys)) { s with heap := h'.push { cls := .type "tuple", data := .seq its.toArray } } :=
      I1.laid (t' := s.toks) (fun b o e => Heap.get?_push_of_some _ e) (Nat.le_refl _) (show ObjOk X.prog X.w _ _ _ (.tup ys) from ⟨hz, its, r', IsTup.new _ _⟩)
    exact ⟨.ref h'.objs.size, _, I2, rfl, q _ (I1.hok.fresh (Nat.le_refl _))⟩
  · obtain ⟨its, r', pl, hz⟩ := I.tuple hq
    exact call_tuple_same pl ⟨.ref p, H, I, rfl, q⟩

def tyV (K : PySem.W.Frag) (T : String) (x : V) (H : Hp) : Prop := match x with
  | .str _ => T = "str"
  | .int _ => T = "int"
  | .ref p => (T = "list" ∧ ∃ xs, SqL K H p xs) ∨ (T = "tuple" ∧ ∃ o, K.lookup p = some o ∧ o.cls = .type "tuple" ∧ o.dict = none) ∨
      (T = "dict" ∧ ((∃ kvs, H p = some (.dK kvs)) ∨ ∃ kvs, H p = some (.dT kvs))) ∨ (T = "set" ∧ ∃ S n, H p = some (.set S n))
  | _ => False
theorem tyV_is {pins : List (Addr × Obj)} {σ : St} {H : Hp} {s : Shared} {T : String} {x : V} {v : Value} (I : Inv X pins σ H s) (r : RelV x v) (ty : tyV X.K T x H) :
    s.TypeIs v T ∧ ∀ a, v = .ref a → ∃ ob, s.heap.get? a = some ob ∧ ob.dict = none := by
  cases x with
  | str z =>
    obtain ⟨t, rfl⟩ := r
    cases (show T = "str" from ty)
    exact ⟨typeIs_str s z t, fun _ e => nomatch e⟩
  | int i =>
    obtain ⟨t, rfl⟩ := r
    cases (show T = "int" from ty)
    exact ⟨typeIs_int s i t, fun _ e => nomatch e⟩
  | ref p =>
    cases r
    rcases ty with ⟨rfl, xs, hq⟩ | ⟨rfl, o, hk, hc, hd⟩ | ⟨rfl, hk⟩ | ⟨rfl, S, n, hk⟩
    · obtain ⟨its, _, pl, _⟩ := I.list hq
      refine ⟨pl.isList.typeIs, fun a e => ?_⟩
      cases e
      obtain ⟨o, n, e, c, hd, _⟩ := pl
      exact ⟨o, e, hd⟩
    · refine ⟨⟨o, I.kIn p o hk, hc⟩, fun a e => ?_⟩
      cases e
      exact ⟨o, I.kIn _ o hk, hd⟩
    · have z : ∃ o, s.heap.get? p = some o ∧ o.ExactDict := by
        rcases hk with ⟨kvs, hk⟩ | ⟨kvs, hk⟩
        · obtain ⟨_, _, _, _, o, _, _, e, ex, _⟩ := I.hok p _ hk
          exact ⟨o, e, ex⟩
        · obtain ⟨_, _, _, _, o, _, _, e, ex, _⟩ := I.hok p _ hk
          exact ⟨o, e, ex⟩
      obtain ⟨o, e, ex⟩ := z
      refine ⟨⟨o, e, ex.1⟩, fun a e2 => ?_⟩
      cases e2
      exact ⟨o, e, ex.2.1⟩
    · obtain ⟨o, _, _, _, e, ex, _⟩ := I.hok p _ hk
      refine ⟨⟨o, e, ex.1⟩, fun a e2 => ?_⟩
      cases e2
      exact ⟨o, e, ex.2.1⟩
  | _ => exact False.elim ty
def tBM (K : PySem.W.Frag) (T : String) (r : V → List V → Hp → VK → Prop) (to : TE) (t : TA) : TE := fun σ H Q => to σ H fun x H1 => tyV K T x H1 ∧ t σ H1 fun xs H2 => r x xs H2 Q
variable {o e : Expr} {es : List Expr} {to : TE} {t : TA} {name : Str} {apos cpos : Pos} {T id : String} {r : V → List V → Hp → VK → Prop}
theorem pe_bm (pa : PlainAttrs T) (slot : Slot T name id) (hty : typeOf (.builtin id) = pure (.type "method_descriptor")) (hm : MtR X id r) (ho : PE X o to) (ha : PA X (e :: es) t)
    (hbase : attributeBase o name X.env (eval o X.env) = eval o X.env := by rfl)
    (hfew : ((backTo cpos (starEach (e :: es) X.env)).all (fun x => !x.1) && (backToKw cpos (keywordEach [] X.env)).all (fun x => x.1.isSome)
      && decide ((e :: es).length + ([] : List Keyword).length + (if ([] : List Keyword).isEmpty then 0 else 1) < 30)) = true := by rfl)
    (hline : (apos.endLine == cpos.line) = true := by rfl) (hs : starEach (e :: es) X.env = (false, eval e X.env) :: starEach es X.env := by rfl) (hplain : (backTo cpos (starEach es X.env)).any (·.1) = false := by rfl) :
    PE X (.Call (.Attribute o name apos) (e :: es) [] cpos) (tBM X.K T r to t) := by
  intro pins s σ H Q I h
  refine wpAny_Call_method_late hbase hfew hline rfl (thn (ho pins s σ H _ I h) fun v s1 ⟨x, H1, I1, r1, ty, q1⟩ => ?_)
  obtain ⟨h1, h2⟩ := tyV_is I1 r1 ty
  refine ⟨T, id, pa, slot, hty, h1, h2, ?_⟩
  have hA := ha cpos pins s1 σ H1 _ I1 q1
  rw [hs] at hA ⊢
  refine Calls.callWith_builtin (by show (false || (backTo cpos (starEach es X.env)).any (·.1)) = false; rw [hplain] <;> rfl) (Calls.evalArgs_plain ?_)
  exact thn hA fun us s2 ⟨vs, H2, I2, r2, q2⟩ => hm pins s2 σ H2 x vs v us Q I2 r1 r2 q2
/- xs.append(e), list.index on a module's tuple .. are MtR facts of 06m -/
end
end L2

namespace L2
open PySem PySem.Spec PyProof.Rows

def MtM (X : Cx) (id : String) (r : V → List V → Hp → VK → Prop) : Prop :=
  ∀ (pins : List (Addr × Obj)) (s : Shared) (σ : St) (H : Hp) (x : V) (xs : List V) (v : Value) (us : List Value) (Q : VK), Inv X pins σ H s → RelV x v → Vals xs us → r x xs H Q →
    wpAny (model X.prog X.w) X.A (call (.builtin id) (v :: us)) (EP X pins σ Q) X.xe s

theorem Vals.one : ∀ {x : V} {us : List Value}, Vals [x] us → ∃ u, us = [u] ∧ RelV x u
  | _, _, .cons r .nil => ⟨_, rfl, r⟩
section
variable {X : Cx} {pins : List (Addr × Obj)} {σ : St} {H : Hp} {s : Shared} {l b : Addr} {xs ys zs : List V}

theorem Inv.lset {its its' : List Value} {n : Nat} {f : Array Value → Array Value} {t' : Nat} (I : Inv X pins σ H s) (hH : H l = some (.lst xs))
    (e : s.heap.get? l = some { cls := .type "list", data := .seq its.toArray n }) (hf : f its.toArray = its'.toArray) (hv : Vals ys its') (hz : ys.length ≤ sizeLine) :
    Inv X pins σ (upd H l (.lst ys)) { s with heap := s.heap.update l (Obj.mapSeq f), toks := t' } := by
  have q := PySem.IsL.update e f
  rw [hf] at q
  refine I.write (x := l) (e := l) (by rw [hH]; exact trivial) (.inl rfl) (fun b' u hb hu => (Heap.get?_update_other s.heap (Obj.mapSeq f) (Ne.symm hb)).trans hu) ⟨_, q⟩ ?_
  exact ⟨hz, its', _, hv, q⟩
theorem Inv.lnew {its : List Value} {t' : Nat} (I : Inv X pins σ H s) (hv : Vals ys its) (hz : ys.length ≤ sizeLine) :
    Inv X pins σ (upd H s.heap.objs.size (.lst ys)) { s with heap := s.heap.push { cls := .type "list", data := .seq its.toArray }, toks := t' } :=
  I.laid (fun _ _ q => Heap.get?_push_of_some _ q) (Nat.le_refl _) ⟨hz, its, 0, hv, Heap.get?_push_size _ rfl⟩
theorem Inv.fresh (I : Inv X pins σ H s) : H s.heap.objs.size = none := I.hok.fresh (Nat.le_refl _)
theorem Inv.lstM (I : Inv X pins σ H s) (hH : H l = some (.lst xs)) : xs.length ≤ sizeLine ∧ ∃ (its : List Value) (n : Nat), Vals xs its ∧ xs.length = its.length ∧ s.heap.get? l = some { cls := .type "list", data := .seq its.toArray n } := by
  obtain ⟨z, its, n, r, e⟩ := I.hok l _ hH
  exact ⟨z, its, n, r, r.length, e⟩

theorem notLongL {n : Nat} (h : n ≤ sizeLine) : Builtin.List.listTooLong n = false := by
  unfold Builtin.List.listTooLong
  exact decide_eq_false (by omega)
end

section
variable {X : Cx}

def rExtend : V → List V → Hp → VK → Prop := fun x vs H Q => ∃ l b xs zs, x = .ref l ∧ vs = [.ref b] ∧ H l = some (.lst xs) ∧ H b = some (.lst zs) ∧ xs.length + zs.length ≤ sizeLine ∧ Q .non (upd H l (.lst (xs ++ zs)))
theorem mt_extend : MtM X "list.extend" rExtend := by
  intro pins s σ H x vs v us Q I rx rv h
  obtain ⟨l, b, xs, zs, rfl, rfl, hH, hB, hz, q⟩ := h
  cases rx
  obtain ⟨u, rfl, ru⟩ := rv.one
  cases ru
  obtain ⟨z, its, n, r, hl, e⟩ := I.lstM hH
  obtain ⟨z2, its2, n2, r2, hl2, e2⟩ := I.lstM hB
  have hsz : its.toArray.size + its2.toArray.size ≤ sizeLine := by rw [List.size_toArray, List.size_toArray]; omega
  have hlong : ¬ (!its.toArray.isEmpty && Builtin.List.listTooLong (its.toArray.size + its2.toArray.size)) = true := by
    rw [notLongL hsz, Bool.and_false]
    exact Bool.false_ne_true
  refine call_meets F.slot_list_extend ⟨_, e, rfl⟩ F.entry_list_extend (F.args_list_extend_2 _ _)
    (AutoSeq1.list_extend_list_list_0 l its.toArray n b its2.toArray n2 hlong (by rw [List.size_toArray]; omega) (by omega)) ⟨e, e2, ?_⟩
  refine ⟨.non, _, I.lset (its' := its ++ its2) hH e (by simp) (r.append r2) ?_, rfl, q⟩
  rw [List.length_append]
  omega

def rCat : R2 := fun x y H Q => ∃ l b xs zs, x = .ref l ∧ y = .ref b ∧ H l = some (.lst xs) ∧ H b = some (.lst zs) ∧ xs.length + zs.length ≤ sizeLine ∧ ∀ p, H p = none → Q (.ref p) (upd H p (.lst (xs ++ zs)))
theorem op_cat : OpR X (binaryOp .Add) rCat := by
  intro pins s σ H x y v u Q I rx ry h
  obtain ⟨l, b, xs, zs, rfl, rfl, hH, hB, hz, q⟩ := h
  cases rx
  cases ry
  obtain ⟨z, its, n, r, hl, e⟩ := I.lstM hH
  obtain ⟨z2, its2, n2, r2, hl2, e2⟩ := I.lstM hB
  refine PySem.P.add_list e e2 ?_ (by rw [List.size_toArray, List.size_toArray]; omega)
  have ea : its.toArray ++ its2.toArray = (its ++ its2).toArray := by simp
  rw [ea]
  exact ⟨.ref _, _, I.lnew (t' := s.toks) (r.append r2) (by rw [List.length_append]; omega), rfl, q _ I.fresh⟩
end

section
variable {prog : Program} {w : World} {A : Around} {E : Value → Shared → Prop} {s : Shared}
end

section
variable {X : Cx}
end
end L2

namespace Att
open PySem PySem.W PySem.Calls PyProof.Rows

theorem ints_of_wellAll {P : Params} {h : Heap} : ∀ (ns : List Int) (vs : List Value), WellAll P h vs (ns.map WData.int) → IntsAre vs ns := by
  intro ns
  induction ns with
  | nil =>
    intro vs w
    rw [List.map_nil] at w
    cases w
    exact .nil
  | cons n ns ih =>
    intro vs w
    rw [List.map_cons] at w
    cases w with
    | cons a b =>
      cases a
      exact .cons _ _ (ih _ b)

theorem script_of {l : OpenLaw} {n : Nat} (hn : l.most = some n) {P : Params} {h : Heap} {args : List WData} {vals : List Value}
    (hpre : l.row.toRowW.claim.pre args = true) (hwl : WellAll P h vals args) :
    ∃ a vs ns, vals = [Value.ref a] ∧ args = [WData.list (ns.map WData.int)] ∧ h.get? a = some { cls := .type "list", data := .seq vs.toArray } ∧ IntsAre vs ns ∧ ns.length ≤ n := by
  have hsh : WShape.hasAll [] args [.list .int] = true := (pre_splitW hpre).1
  have hc : l.pre.holds [] { args := args } = true := (pre_splitW hpre).2
  obtain ⟨d, r, rfl, h1, h2⟩ := hasAllW_cons hsh
  obtain rfl := hasAllW_nil h2
  obtain ⟨xs, rfl, h3⟩ := hasW_list h1
  obtain ⟨ns, rfl⟩ := items_int h3
  have hlen : ns.length ≤ n := by
    unfold OpenLaw.pre at hc
    have h4 : (WTm.not (.lt (.lit (.int (n : Int))) (.len (.arg 0)))).holds [] { args := [.list (ns.map .int)] } = true := by
      have h4 := (holds_andW hc).1
      rw [hn] at h4
      exact h4
    have h5 := condW_of h4 (w_not (w_lt w_lit (w_len_list (w_arg rfl))))
    rw [List.length_map] at h5
    refine Nat.le_of_not_lt fun q => ?_
    have q' : (n : Int) < ((ns.length : Nat) : Int) := by omega
    first
      | (rw [decide_eq_true q'] at h5; exact absurd h5 (by decide))
      | (simp at h5; omega)
  cases hwl with
  | cons w1 w2 =>
    cases w2
    cases w1 with
    | list ho hall => exact ⟨_, _, ns, rfl, rfl, ho, ints_of_wellAll ns _ hall, hlen⟩

theorem post_true (l : OpenLaw) (args : List WData) : l.row.toRowW.claim.post args (.bool true) args = true :=
  postW_of (r := l.row.toRowW) (X := (true == true))
    (show WShape.has [] (.bool true) .bool = true by first | rfl | decide | simp [WShape.has, WShape.arms, WShape.armsAll])
    (show (WTm.eq .res (.lit (.bool true))).value [] { args := args, res := some (.bool true), after := args } = some (.bool (true == true)) from w_eq_bool (w_res rfl) w_lit) rfl

theorem attach_call {l : OpenLaw} {n : Nat} {q : Program} {loose : List Str} {XP : (Str → Option Value) → Heap → Prop} {YP : World → Heap → Prop} {d : DefRec}
    (hn : l.most = some n) (hdf : d.params.defaults = [])
    (call : ∀ (w : World) (s₀ s₁ : Shared) (mg mb : Str → Option Value) (fa : Addr) (o : Obj) (pm cd doc : Value) (a : Addr) (vs : List Value) (ns : List Int),
      Ground q loose [] XP w s₀ mg mb s₁.heap → YP w s₁.heap →
      s₁.heap.get? fa = some o → o.data = .func (docDef d.name d.params d.body d.scope pm cd doc) → s₁.heap.CodeRec cd d.name → mg d.name = some (.ref fa) →
      s₁.heap.get? a = some { cls := .type "list", data := .seq vs.toArray } → IntsAre vs ns → ns.length ≤ n → s₁.gens = #[] →
      codeAny (model l.prog w) callerA (.call (.ref fa) ⟨[.ref a], []⟩) (fun r s' => r = .ok (.ret (.bool true)) ∧ OldK s₁.heap s'.heap ∧ s'.os = s₁.os ∧ AllBare s'.gens) s₁) :
    WalkO q loose XP YP l.row.toRowW d [] (fun f vs => PySem.call f vs) := by
  intro w s₀ s₁ mg mb G Y fa o pm cd doc dV kV ho hd hcd hD hmg hg args vals as hpre hlay hrd hwl hlo
  obtain rfl : dV = .none := Dflts.none hD hdf
  obtain rfl : kV = .none := Dflts.noKw hD
  obtain ⟨a, vs, ns, rfl, rfl, hobj, hints, hlen⟩ := script_of hn hpre hwl
  refine enter_call (codeAny_mono (call w s₀ s₁ mg mb fa o pm cd doc a vs ns G Y ho (fd_plain hd) hcd hmg hobj hints hlen hg) fun r s' hq => ?_)
  obtain ⟨rfl, h2, h3, h4⟩ := hq
  exact ⟨.inl ⟨.bool true, .bool true, [], rfl, fun _ => rfl, .bool true, post_true l _, fun _ => ⟨List.Pairwise.nil, fun _ hm => (nomatch hm)⟩⟩, h2, h3, h4⟩

section
variable {prog : Program} {w : World} {A : Around} {E : Value → Shared → Prop} {s : Shared} {K : Frag}

end
end Att

namespace L2
open PySem PySem.Spec PyProof.Rows

theorem vals_ints : ∀ {vs : List Value} {ns : List Int}, IntsAre vs ns → Vals (ns.map V.int) vs
  | _, _, .nil => .nil
  | _, _, .cons n t h => .cons ⟨t, rfl⟩ (vals_ints h)

end L2

namespace L2
open PySem PySem.Spec PyProof.Rows

end L2

/- THE LAST THEOREM (shape; LID, My.* are yours):
   My.Adr: a structure of the addresses that your layer names (classes, functions); My.Txt K t: a structure (Prop) of the equations over K;
   My.txt_mk : {K} {implicit addresses ..} (e1 : nsIn K mainGlobals "law" = some (some (.ref f))) (e2 : K.lookup f = some ⟨oc, od, .func (fnOf "law" "law" params body scope dV kV doc pm an cdv ct), sl⟩) (e3 : codeIn K cdv "law" = true) .. : ∃ t, My.Txt K t

set_option maxRecDepth 100000 in
set_option maxHeartbeats 0 in
theorem PySem.Challenge.cw_LID_holds : PySem.Challenge.rw_LID.Holds := by
  w_on; o_law; k_head; (case hw => w_witness2)
  k_fill
  refine L2.walk_of (l := PySem.Challenge.rw_LID) (n := 63) (k := 40) (x := "script") (CX := fun w => ..) (sp := fun _ => My.sp_law) rfl (by decide) rfl ⟨rfl, by decide, by decide⟩ (fun w h Y => PySem.W.kIn_of Y) ?F ?S ?C
  case F =>
    intro w mg fa h KX G hmg
    have T : ∃ t, My.Txt (L2.KOf KX) t := by
      dsimp only [L2.KOf]                          -- K must stand as «<heap const> w.params» for k_is
      refine' My.txt_mk ?e1 ?e2 ?e3 ..
      (case e1 => PySem.W.k_is)                    -- in the order: a name -> its address -> its object -> its parts
      (case e2 => PySem.W.k_is)
      ..
    obtain ⟨t, T⟩ := T
    have e0 := hmg.symm.trans (PySem.W.mg_of KX G T.law)
    cases e0                                       -- fa is the law's own address
    exact ⟨_, fun s u => .of_eq rfl, fun base kb nb => My.law_fn T kb nb⟩     -- if «.of_eq rfl» comes too early: refine' ⟨_, ?b, fun base kb nb => My.law_fn T kb nb⟩; exact fun s u => .of_eq rfl
  case S => exact fun w H a ns hl hO hS => ..
  case C => exact ..
(the tactic k_is has no namespace: write k_is) -/

namespace L2
open PySem PySem.Spec PyProof.Rows

def defArgs (s : Stmt) : Arguments := match s with
  | .FunctionDef _ a _ _ _ _ _ _ _ _ => a
  | _ => { posonlyargs := [], args := [], vararg := none, kwonlyargs := [], kw_defaults := [], kwarg := none, defaults := [] }
def defBody (s : Stmt) : List Stmt := match s with
  | .FunctionDef _ _ b _ _ _ _ _ _ _ => b
  | _ => []
def defScope (s : Stmt) : Scope := match s with
  | .FunctionDef _ _ _ _ _ _ sc _ _ _ => sc
  | _ => { kind := .function, names := [], isGenerator := false, isCoroutine := false }

abbrev CX0 : CXT := fun _ _ _ _ _ _ => False
abbrev E0 : XK := fun _ _ _ => False
theorem pass0 {X : Cx} : Passes CX0 X E0 := fun _ _ _ _ _ _ _ h => h.elim

structure Fun (K : PySem.W.Frag) (x qual : Str) (st : Stmt) (f : Addr) (fd : FuncData) : Prop where
  ex : ∃ (oc : Value) (od : Option Addr) (kV doc pm : Value) (an : Option Addr) (cdv ct : Value) (osl : Array (Option Value)),
    fd = PySem.W.fnOf x qual (defArgs st) (defBody st) (defScope st) .none kV doc pm an cdv ct ∧ K.lookup f = some ⟨oc, od, .func fd, osl⟩ ∧ PySem.W.codeIn K cdv qual = true
  kp : PySem.W.keepIn K (.ref f) = true
section
variable {P : Program} {w : World} {K : PySem.W.Frag} {mg : Str → Option Value} {base : Heap}
theorem Fun.ok {x qual : Str} {st : Stmt} {f : Addr} {fd : FuncData} {N ps : List Str} {k : Nat} {sp : Sp} (F : Fun K x qual st f fd) (S : FnScope N ps (defScope st)) (len : ∀ vs H Q E, sp vs H Q E → vs.length = ps.length)
    (hbody : ∀ (cdv : Value) (A : Around) (outer : List Env) (s : Shared) (H : Hp) (vs : List V) (Q : VK) (E : XK), Room k (A.deeper (envOfC qual (defScope st) s.heap.objs.size f cdv)) → sp vs H Q E →
      ∃ t, PSs (cxOf CX0 P w K mg base N qual (defScope st) f cdv A outer s H E).nox (defBody st) t ∧ t { nx := fun _ H' => Q .non H', rt := Q } (start N vs) H) : FnOk P w K mg base CX0 (k + 1) f fd ps sp := by
  obtain ⟨oc, od, kV, doc, pm, an, cdv, ct, osl, rfl, lk, hcd⟩ := F.ex
  refine fn_of lk hcd S len fun A outer s H vs Q E hr hsp => ?_
  obtain ⟨t, h, q⟩ := hbody cdv A outer s H vs Q E hr hsp
  exact ⟨t, h.nox, q⟩
theorem Fun.binds {x qual : Str} {st : Stmt} {f : Addr} {fd : FuncData} {ps : List Str} (F : Fun K x qual st f fd)
    (h : ∀ (kV doc pm : Value) (an : Option Addr) (cdv ct : Value) (us : List Value), us.length = ps.length → bindArgs (PySem.W.fnOf x qual (defArgs st) (defBody st) (defScope st) .none kV doc pm an cdv ct) ⟨us, []⟩ = pure (ps.zip us)) : Binds K fd ps [] := by
  obtain ⟨oc, od, kV, doc, pm, an, cdv, ct, osl, rfl, lk, hcd⟩ := F.ex
  exact .all (h kV doc pm an cdv ct)
theorem fun_mk {x qual : Str} {st : Stmt} {f : Addr} {oc : Value} {od an : Option Addr} {osl : Array (Option Value)} {kV doc pm cdv ct : Value} (l : K.lookup f = some ⟨oc, od, .func (PySem.W.fnOf x qual (defArgs st) (defBody st) (defScope st) .none kV doc pm an cdv ct), osl⟩)
    (c : PySem.W.codeIn K cdv qual = true) (k : PySem.W.keepIn K (.ref f) = true) : Fun K x qual st f (PySem.W.fnOf x qual (defArgs st) (defBody st) (defScope st) .none kV doc pm an cdv ct) := ⟨⟨oc, od, kV, doc, pm, an, cdv, ct, osl, rfl, l, c⟩, k⟩
end
section
variable {X : Cx}
theorem pv (i : Nat) {x : Str} {pos : Pos} (hN : X.N[i]? = some x := by rfl) (hv : Vis X.env.scope x := by first | exact Or.inl rfl | exact Or.inr (Or.inl rfl) | exact Or.inr (Or.inr rfl)) (hd : (x == ("__debug__" : Str)) = false := by decide)
    (hcd : (x == ("__classdict__" : Str)) = false := by decide) : PE X (.Name x pos) (tVar i) := pe_var hN hv hd hcd
end

theorem iteF {A B : Prop} (h : B) : if false = true then A else B := by
  rw [if_neg Bool.false_ne_true]
  exact h
theorem iteT {A B : Prop} (h : A) : if true = true then A else B := by
  rw [if_pos rfl]
  exact h
end L2
section
set_option maxHeartbeats 4000000
namespace L2
open PySem PySem.Spec PyProof.Rows

theorem bt_int : bootBuiltins "int" = some (.type "int") := by decide +kernel
theorem bt_bool : bootBuiltins "bool" = some (.type "bool") := by decide +kernel
theorem bt_list : bootBuiltins "list" = some (.type "list") := by decide +kernel
theorem bt_tuple : bootBuiltins "tuple" = some (.type "tuple") := by decide +kernel
theorem bt_len : bootBuiltins "len" = some (.builtin "len") := by decide +kernel
theorem bt_isinstance : bootBuiltins "isinstance" = some (.builtin "isinstance") := by decide +kernel

def Has (P : Program) (w : World) (K : PySem.W.Frag) (mg : Str → Option Value) (base : Heap) (k : Nat) (x : Str) (ps : List Str) (sp : Sp) : Prop :=
  ∃ (f : Addr) (fd : FuncData), FnOk P w K mg base CX0 k f fd ps sp ∧ mg x = some (.ref f) ∧ PySem.W.keepIn K (.ref f) = true ∧ Binds K fd ps [] ∧ ∃ (oc : Value) (od : Option Addr) (osl : Array (Option Value)), K.lookup f = some ⟨oc, od, .func fd, osl⟩
theorem pe_fn {X : Cx} {j k : Nat} {x : Str} {ps : List Str} {sp : Sp} {e : Expr} {es : List Expr} {t : TA} {p pos : Pos} (E : Has X.prog X.w X.K X.mg X.base k x ps sp) (hr : Room j X.A) (ha : PA X (e :: es) t)
    (hk : k ≤ j := by decide) (hg : Gl X x := by rfl) (hdb : (x == ("__debug__" : Str)) = false := by decide) (he : starEach (e :: es) X.env = (false, eval e X.env) :: starEach es X.env := by rfl)
    (hpl : (backTo pos (starEach es X.env)).any (·.1) = false := by rfl) : PE X (.Call (.Name x p) (e :: es) [] pos) (tCall sp [] E0 t) := by
  obtain ⟨f, fd, F, hm, kp, hb, _⟩ := E
  exact pe_call F (hr.mono hk) hg hm kp hb .nil pass0 ha hdb he hpl
def Src (K : PySem.W.Frag) (mg : Str → Option Value) (x : Str) (st : Stmt) : Prop := ∃ (f : Addr) (fd : FuncData), Fun K x x st f fd ∧ mg x = some (.ref f)
theorem Src.has {P : Program} {w : World} {K : PySem.W.Frag} {mg : Str → Option Value} {base : Heap} {x : Str} {st : Stmt} {N ps : List Str} {k : Nat} {sp : Sp} (S : Src K mg x st) (sc : FnScope N ps (defScope st))
    (hb : ∀ (kV doc pm : Value) (an : Option Addr) (cdv ct : Value) (us : List Value), us.length = ps.length → bindArgs (PySem.W.fnOf x x (defArgs st) (defBody st) (defScope st) .none kV doc pm an cdv ct) ⟨us, []⟩ = pure (ps.zip us))
    (len : ∀ vs H Q E, sp vs H Q E → vs.length = ps.length)
    (hbody : ∀ (f : Addr) (cdv : Value) (A : Around) (outer : List Env) (s : Shared) (H : Hp) (vs : List V) (Q : VK) (E : XK), Room k (A.deeper (envOfC x (defScope st) s.heap.objs.size f cdv)) → sp vs H Q E →
      ∃ t, PSs (cxOf CX0 P w K mg base N x (defScope st) f cdv A outer s H E).nox (defBody st) t ∧ t { nx := fun _ H' => Q .non H', rt := Q } (start N vs) H) : Has P w K mg base (k + 1) x ps sp := by
  obtain ⟨f, fd, F, hm⟩ := S
  exact ⟨f, fd, F.ok sc len fun cdv A outer s H vs Q E hr h => hbody f cdv A outer s H vs Q E hr h, hm, F.kp, F.binds hb, let ⟨oc, od, kV, doc, pm, an, cdv, ct, osl, _, lk, _⟩ := F.ex; ⟨oc, od, osl, lk⟩⟩
theorem src_mk {K : PySem.W.Frag} {h : Heap} {mg : Str → Option Value} {x : Str} {st : Stmt} {f : Addr} {oc : Value} {od an : Option Addr} {osl : Array (Option Value)} {kV doc pm cdv ct : Value} (X : K.In h) (G : h.Ns mainGlobals mg)
    (a : PySem.W.nsIn K mainGlobals x = some (some (.ref f))) (l : K.lookup f = some ⟨oc, od, .func (PySem.W.fnOf x x (defArgs st) (defBody st) (defScope st) .none kV doc pm an cdv ct), osl⟩)
    (c : PySem.W.codeIn K cdv x = true) (k : PySem.W.keepIn K (.ref f) = true) : Src K mg x st := ⟨f, _, fun_mk l c k, PySem.W.mg_of X G a⟩

def tH (ms : List Int) : Int := reduceHash (Builtin.Tuple.tupleHashOf (ms.map hashInt))
def DctE (x : List Int × Addr × Value) : DictEntry := ⟨tH x.1, .ref x.2.1, x.2.2⟩
abbrev EV : List (List Int × Addr × V) → List (List Int × Addr × Value) → Prop := Paired fun p q => p.1 = q.1 ∧ p.2.1 = q.2.1 ∧ RelV p.2.2 q.2.2
def DctP (a : Addr) (es : List (List Int × Addr × V)) (h : Heap) : Prop :=
  es.length ≤ sizeLine ∧ (a == sysModules) = false ∧ (es.map (·.1)).Nodup ∧ ∃ xs, EV es xs ∧ ∃ o ds ep, h.get? a = some o ∧ o.ExactDict ∧ o.data = .dict ds ep ∧ ds.toList = xs.map DctE
def DctO (a : Addr) (ob : Obj) (es : List (List Int × Addr × V)) : HO := .ext fun h => DctP a es h ∧ h.get? a = some ob
theorem dctB_of {X : Cx} {pins : List (Addr × Obj)} {σ : St} {H : Hp} {s : Shared} {a : Addr} {ob : Obj} {es : List (List Int × Addr × V)} (I : Inv X pins σ H s) (e : H a = some (DctO a ob es)) : DctP a es s.heap ∧ s.heap.get? a = some ob :=
  (show ObjOk X.prog X.w H s.heap a (.ext fun h => DctP a es h ∧ h.get? a = some ob) from I.hok a _ e).1
theorem dctP_of {X : Cx} {pins : List (Addr × Obj)} {σ : St} {H : Hp} {s : Shared} {a : Addr} {ob : Obj} {es : List (List Int × Addr × V)} (I : Inv X pins σ H s) (e : H a = some (DctO a ob es)) : DctP a es s.heap := (dctB_of I e).1
inductive TyO (K : PySem.W.Frag) (H : Hp) : V → String → Prop where
  | non : TyO K H .non "NoneType"
  | bl (x : Bool) : TyO K H (.bl x) "bool"
  | int (i : Int) : TyO K H (.int i) "int"
  | str (x : Str) : TyO K H (.str x) "str"
  | lst {a : Addr} {xs : List V} (e : SqL K H a xs) : TyO K H (.ref a) "list"
  | tup {a : Addr} {xs : List V} (e : SqT K H a xs) : TyO K H (.ref a) "tuple"
  | dK {a : Addr} {kvs : List (Key × V)} (e : H a = some (.dK kvs)) : TyO K H (.ref a) "dict"
  | dT {a : Addr} {kvs : List (List Key × V)} (e : H a = some (.dT kvs)) : TyO K H (.ref a) "dict"
  | dE {a : Addr} {ob : Obj} {es : List (List Int × Addr × V)} (e : H a = some (DctO a ob es)) : TyO K H (.ref a) "dict"
def isiB (t c : String) : Option Bool := PySem.W.kitOne [] (.type t) (.type c)
theorem kitOne_K {K : PySem.W.Frag} {t c : String} : PySem.W.kitOne K (.type t) (.type c) = isiB t c := rfl
theorem isiB_int_int : isiB "int" "int" = some true := by decide +kernel
theorem isiB_int_bool : isiB "int" "bool" = some false := by decide +kernel
def rIsi (K : PySem.W.Frag) : List V → Hp → VK → Prop := fun xs H Q => ∃ x t c b, xs = [x, .ty c] ∧ TyO K H x t ∧ isiB t c = some b ∧ Q (.bl b) H
theorem call_isi {X : Cx} : CallR X (.builtin "isinstance") (rIsi X.K) := by
  intro pins s σ H xs us Q I r h
  obtain ⟨x, t, c, b, rfl, ty, e, q⟩ := h
  obtain ⟨u, w', rfl, rx, rc⟩ := vals2 r
  obtain rfl : w' = Value.type c := rc
  have e' : PySem.W.kitOne X.K (.type t) (.type c) = some b := by rw [kitOne_K]; exact e
  have fin : ∀ tk, EP X pins σ Q (.bool b) { s with toks := tk } := fun tk => ⟨.bl b, H, I.tok tk, rfl, q⟩
  cases ty with
  | non => exact isinst_ok I rx (.non) e' fin
  | bl y => exact isinst_ok I rx (.bl y) e' fin
  | int i => exact isinst_ok I rx (.int i) e' fin
  | str y => exact isinst_ok I rx (.str y) e' fin
  | dK ea => exact isinst_ok I rx (.dK ea) e' fin
  | dT ea => exact isinst_ok I rx (.dT ea) e' fin
  | @dE a ob es ea =>
    cases rx
    obtain ⟨_, _, _, _, _, o, _, _, h1, h2, _⟩ := dctP_of I ea
    exact PySem.W.kia_one PySem.W.kitx_dict I.kIn ⟨o, h1, h2.1⟩ e' (fun z => nomatch z) fin
  | lst ea =>
    cases rx
    obtain ⟨its, _, pl, _⟩ := I.list ea
    obtain ⟨o, h1, h2, _⟩ := pl.isList
    exact PySem.W.kia_one PySem.W.kitx_list I.kIn ⟨o, h1, h2⟩ e' (fun z => nomatch z) fin
  | tup ea =>
    cases rx
    obtain ⟨its, _, p, _⟩ := I.tuple ea
    obtain ⟨o, h1, h2, _⟩ := p
    exact PySem.W.kia_one PySem.W.kitx_tuple I.kIn ⟨o, h1, h2⟩ e' (fun z => nomatch z) fin

section
variable {X : Cx} {pins : List (Addr × Obj)} {σ : St} {H : Hp} {s : Shared}
end
section
variable {X : Cx}
def Tups (K : PySem.W.Frag) (H : Hp) (ps : List Addr) (mss : List (List Int)) : Prop := Paired (fun p ms => SqT K H p (List.map V.int ms)) ps mss
end
def intsV : List Value → Option (List Int)
  | [] => some []
  | .int i _ :: r => (intsV r).map (i :: ·)
  | _ :: _ => none
theorem intsV_ok : ∀ {us : List Value} {ns : List Int}, intsV us = some ns → Vals (ns.map V.int) us
  | [], ns, e => by cases e; exact .nil
  | u :: r, ns, e => by
    cases u with
    | int i t =>
      obtain ⟨ms, h1, rfl⟩ := Option.map_eq_some_iff.mp (show (intsV r).map (i :: ·) = some ns from e)
      exact .cons ⟨t, rfl⟩ (intsV_ok h1)
    | _ => cases e
def kTup (K : PySem.W.Frag) (a : Addr) : Option (List Value) := match K.lookup a with
  | some ⟨.type "tuple", _, .seq its _, _⟩ => if its.toList.length ≤ 1000 then some its.toList else none
  | _ => none
theorem kTup_ok {K : PySem.W.Frag} {H : Hp} {a : Addr} {us : List Value} {xs : List V} (e : kTup K a = some us) (r : Vals xs us) : SqT K H a xs := by
  unfold kTup at e
  split at e
  · rename_i c its n sl lk
    split at e
    · rename_i hz
      cases e
      have hs : sizeLine = 16777216 := sizeLine_eq
      exact .inr ⟨_, its, n, lk, rfl, rfl, by have : its.toList.length = its.size := by simp
                                              lia, r⟩
    · cases e
  · cases e
def okT (K : PySem.W.Frag) (v : Value) (ns : List Int) : Bool := match v with
  | .ref a => (match kTup K a with | some us => decide (intsV us = some ns) | none => false)
  | _ => false
theorem okT_ok {K : PySem.W.Frag} {H : Hp} {v : Value} {ns : List Int} (e : okT K v ns = true) : ∃ a, v = .ref a ∧ SqT K H a (ns.map V.int) := by
  unfold okT at e
  split at e
  · rename_i a
    split at e
    · rename_i us h
      exact ⟨a, rfl, kTup_ok h (intsV_ok (of_decide_eq_true e))⟩
    · cases e
  · cases e
def okTs (K : PySem.W.Frag) : List Value → List (List Int) → Bool
  | [], [] => true
  | v :: r, ns :: s => okT K v ns && okTs K r s
  | _, _ => false
theorem okTs_ok {K : PySem.W.Frag} {H : Hp} : ∀ {us : List Value} {nss : List (List Int)}, okTs K us nss = true → ∃ ps, Vals (ps.map V.ref) us ∧ Tups K H ps nss
  | [], [], _ => ⟨[], .nil, .nil⟩
  | u :: r, ns :: s, e => by
    rw [okTs, Bool.and_eq_true] at e
    obtain ⟨a, rfl, h⟩ := okT_ok (H := H) e.1
    obtain ⟨ps, h1, h2⟩ := okTs_ok e.2
    exact ⟨a :: ps, .cons rfl h1, .cons h h2⟩
  | [], _ :: _, e => by cases e
  | _ :: _, [], e => by cases e
def okTT (K : PySem.W.Frag) (v : Value) (nss : List (List Int)) : Bool := match v with
  | .ref a => (match kTup K a with | some us => okTs K us nss | none => false)
  | _ => false
def TTup (K : PySem.W.Frag) (v : V) (nss : List (List Int)) : Prop := ∃ a ps, v = .ref a ∧ ∀ H : Hp, SqT K H a (ps.map V.ref) ∧ Tups K H ps nss
theorem okTT_ok {K : PySem.W.Frag} {v : Value} {nss : List (List Int)} (e : okTT K v nss = true) : ∃ x, RelV x v ∧ TTup K x nss := by
  unfold okTT at e
  split at e
  · rename_i a
    split at e
    · rename_i us h
      obtain ⟨ps, h1, h2⟩ := okTs_ok (H := fun _ => none) e
      refine ⟨.ref a, rfl, a, ps, rfl, fun H => ⟨kTup_ok h h1, ?_⟩⟩
      obtain ⟨ps', h1', h2'⟩ := okTs_ok (H := H) e
      have := h1.inj h1'
      have e2 : ps = ps' := by
        have := congrArg (List.map (fun v => match v with | V.ref i => i | _ => 0)) this
        simpa [List.map_map, Function.comp_def] using this
      rw [e2]
      exact h2'
    · cases e
  · cases e
def okEs (K : PySem.W.Frag) : List DictEntry → List (Int × List (List Int)) → Bool
  | [], [] => true
  | e :: r, p :: s => Value.isInt p.1 e.key && decide (e.hash = hashInt p.1) && okTT K e.val p.2 && okEs K r s
  | _, _ => false
def okD (K : PySem.W.Frag) (d : Addr) (rows : List (Int × List (List Int))) : Bool := match K.lookup d with
  | some ⟨.type "dict", none, .dict es _, sl⟩ => sl.size == 0 && okEs K es.toList rows && decide (rows.map (·.1)).Nodup
  | _ => false
theorem okEs_ok {P : Program} {w : World} {K : PySem.W.Frag} : ∀ {es : List DictEntry} {rows : List (Int × List (List Int))}, okEs K es rows = true →
    ∃ kvs : List (Int × Value), Pairs (intKind P w) es kvs ∧ (∀ e ∈ es, ∃ k, (intKind P w).is k e.key = true ∧ e.hash = (intKind P w).hash k) ∧ kvs.map (·.1) = rows.map (·.1) ∧
      ∀ k nss, (k, nss) ∈ rows → (rows.map (·.1)).Nodup → ∃ v, valueAt kvs k = some v ∧ okTT K v nss = true
  | [], [], _ => ⟨[], .nil, (fun _ h => nomatch h), rfl, (fun _ _ h => nomatch h)⟩
  | e :: r, p :: s, h => by
    rw [okEs, Bool.and_eq_true, Bool.and_eq_true, Bool.and_eq_true] at h
    obtain ⟨⟨⟨h1, h2⟩, h3⟩, h4⟩ := h
    obtain ⟨kvs, g1, g2, g3, g4⟩ := okEs_ok (P := P) (w := w) h4
    refine ⟨(p.1, e.val) :: kvs, .cons h1 rfl g1, fun x hx => ?_, by simp [g3], fun k nss hk nd => ?_⟩
    · rcases List.mem_cons.mp hx with rfl | hx
      · exact ⟨p.1, h1, of_decide_eq_true h2⟩
      · exact g2 x hx
    · rw [List.map_cons, List.nodup_cons] at nd
      rcases List.mem_cons.mp hk with rfl | hk
      · exact ⟨e.val, by simp [valueAt], h3⟩
      · obtain ⟨v, e1, e2⟩ := g4 k nss hk nd.2
        refine ⟨v, ?_, e2⟩
        have ne : ¬ p.1 = k := fun z => nd.1 (List.mem_map.mpr ⟨(k, nss), hk, z.symm⟩)
        unfold valueAt at e1 ⊢
        rw [List.find?_cons_of_neg (by simpa using ne)]
        exact e1
  | [], _ :: _, h => by cases h
  | _ :: _, [], h => by cases h
def rIxD (K : PySem.W.Frag) (rows : List (Int × List (List Int))) : R2 := fun x y H Q => ∃ d k nss, x = .ref d ∧ y = .int k ∧ okD K d rows = true ∧ (k, nss) ∈ rows ∧ ∀ v, TTup K v nss → Q v H
theorem ix_dict {X : Cx} {rows : List (Int × List (List Int))} : IxR X (rIxD X.K rows) := by
  intro value slice pins s σ H x y v u Q I rx ry h hs
  obtain ⟨d, k, nss, rfl, rfl, hd, hk, q⟩ := h
  cases rx
  obtain ⟨t, rfl⟩ := ry
  unfold okD at hd
  split at hd
  · rename_i es n sl lk
    rw [Bool.and_eq_true, Bool.and_eq_true] at hd
    obtain ⟨⟨h1, h2⟩, h3⟩ := hd
    obtain ⟨kvs, g1, g2, g3, g4⟩ := okEs_ok (P := X.prog) (w := X.w) h2
    have nd := of_decide_eq_true h3
    obtain ⟨v, e1, e2⟩ := g4 k nss hk nd
    have sl0 : sl = #[] := by
      have : sl.size = 0 := by simpa using h1
      exact Array.eq_empty_of_size_eq_zero this
    have D : s.heap.DictOf (intKind X.prog X.w) d kvs := ⟨_, es, n, I.kIn d _ lk, ⟨rfl, rfl, sl0⟩, rfl, fun e he => g2 e (by simpa using he), g1, by rw [g3]; exact nd⟩
    obtain ⟨x, rx, tt⟩ := okTT_ok e2
    exact tail_any D.typeIs slot_dict_getitem.lookup (wpAny_getItem_of (k := k) (by show Value.isInt k (.int k t) = true; simp [Value.isInt]) D.mapOf e1 ⟨x, H, I.tok _, rx, q x tt⟩) hs
  · cases hd
end L2
end
section
set_option maxHeartbeats 4000000
namespace L2
open PySem PySem.Spec PyProof.Rows
def clOf (env : Env) : List (Str × NameKind) → List (Str × Addr) → List (Str × Addr)
  | [], acc => acc
  | (n, k) :: r, acc => clOf env r (if (k == NameKind.free) = true then (match env.cells.lookup n with | some c => (n, c) :: acc | none => acc) else acc)
theorem clOf_mem {env : Env} : ∀ {l : List (Str × NameKind)} {acc : List (Str × Addr)} {n : Str} {c : Addr}, (n, c) ∈ clOf env l acc → (n, c) ∈ acc ∨ env.cells.lookup n = some c
  | [], _, _, _, h => .inl h
  | (m, k) :: r, acc, n, c, h => by
    unfold clOf at h
    rcases clOf_mem h with h | h
    · split at h
      · split at h
        · rename_i c' e
          rcases List.mem_cons.mp h with h | h
          · cases h; exact .inr e
          · exact .inl h
        · exact .inl h
      · exact .inl h
    · exact .inr h
theorem clOf_keep {env : Env} : ∀ {l : List (Str × NameKind)} {acc : List (Str × Addr)} {p : Str × Addr}, p ∈ acc → p ∈ clOf env l acc
  | [], _, _, h => h
  | (m, k) :: r, acc, p, h => by
    unfold clOf
    refine clOf_keep ?_
    split
    · split
      · exact List.mem_cons_of_mem _ h
      · exact h
    · exact h
theorem clOf_has {env : Env} : ∀ {l : List (Str × NameKind)} {acc : List (Str × Addr)} {n : Str} {c : Addr}, (n, NameKind.free) ∈ l → env.cells.lookup n = some c → (n, c) ∈ clOf env l acc
  | (m, k) :: r, acc, n, c, h, e => by
    unfold clOf
    rcases List.mem_cons.mp h with h | h
    · cases h
      refine clOf_keep ?_
      rw [if_pos (show (NameKind.free == NameKind.free) = true from rfl), e]
      exact List.mem_cons_self
    · exact clOf_has h e
theorem cellOf_eq {env : Env} {n : Str} {c : Addr} (h : env.cells.lookup n = some c) : cellOf env n = pure c := by
  unfold cellOf
  rw [h]
theorem closure_ok {env : Env} {scope : Scope} (h : ∀ n, (n, NameKind.free) ∈ scope.names → ∃ c, env.cells.lookup n = some c) : closureFor scope env = pure (clOf env scope.names []) := by
  have all : ∀ (l : List (Str × NameKind)) (acc : List (Str × Addr)), (∀ n, (n, NameKind.free) ∈ l → ∃ c, env.cells.lookup n = some c) →
      (forIn l acc fun (x : Str × NameKind) (cs : List (Str × Addr)) => (if (x.2 == NameKind.free) = true then (do let c ← cellOf env x.1; pure (ForInStep.yield ((x.1, c) :: cs))) else pure (ForInStep.yield cs) : Sem (ForInStep (List (Str × Addr))))) = pure (clOf env l acc) := by
    intro l
    induction l with
    | nil => intro acc _; rfl
    | cons x r ih =>
      intro acc hl
      obtain ⟨n, k⟩ := x
      rw [List.forIn_cons]
      unfold clOf
      cases hk : (k == NameKind.free) with
      | true =>
        have hk' : k = NameKind.free := by simpa using hk
        subst hk'
        obtain ⟨c, e⟩ := hl n List.mem_cons_self
        simp only [if_true, cellOf_eq e, pure_bind, e]
        exact ih _ fun m hm => hl m (List.mem_cons_of_mem _ hm)
      | false =>
        simp only [Bool.false_eq_true, if_false, pure_bind]
        exact ih _ fun m hm => hl m (List.mem_cons_of_mem _ hm)
  have q := all scope.names [] h
  unfold closureFor
  first
    | (simp only [bind_pure_comp, map_pure] at q ⊢; rw [q]; rfl)
    | (rw [q]; rfl)
    | exact q

def cxComp (X : Cx) (scope : Scope) (N : List Str) (C : Addr) (fp : List Addr) (s₀ : Shared) (H₀ : Hp) : Cx :=
  { X with N := N, s₀ := s₀, H₀ := H₀, env := compEnvC scope (clOf X.env scope.names []) C X.env, outer := X.stack, stack := X.stack, ex := fp, fn := fun _ => false, pn := [], xe := fun _ _ => False }
def capt (n : Nat) (ix : List Nat) (σ : St) : St := List.replicate n none ++ ix.map fun i => (σ[i]?).getD none
structure CompScope (X : Cx) (scope : Scope) (tg cs : List Str) (ix : List Nat) : Prop where
  kind : scope.kind = .function
  nocell : ∀ y ∈ scope.names, y.2 ≠ .cell
  names : ∀ y ∈ scope.names, y.2 = .local → scope.names.lookup y.1 = some .local
  nd : (tg ++ cs).Nodup
  at_ : ix.map (fun i => X.N[i]?) = cs.map some
  free : ∀ x ∈ cs, (x, NameKind.free) ∈ scope.names ∧ scope.names.lookup x = some .free
  out : ∀ x, (x, NameKind.free) ∈ scope.names → X.env.scope.names.lookup x = some .cell ∨ X.env.scope.names.lookup x = some .free
theorem lookup_kinds {f : Str × NameKind → Str × NameKind} (hf : ∀ p, (f p).1 = p.1) : ∀ (names : List (Str × NameKind)) (x : Str), (names.map f).lookup x = (names.lookup x).map fun k => (f (x, k)).2
  | [], _ => rfl
  | p :: r, x => by
    have e : f p = (p.1, (f p).2) := by rw [← hf p]
    rw [List.map_cons, e, List.lookup_cons, List.lookup_cons, lookup_kinds hf r x]
    cases q : x == p.1 with
    | false => rfl
    | true =>
      have z : x = p.1 := by simpa using q
      subst z
      rfl
def freed (env : Env) (p : Str × NameKind) : Bool := p.2 == NameKind.free && env.scope.kind == .function && env.kindOf p.1 == some .cell
theorem lookup_freed {env : Env} {names : List (Str × NameKind)} {x : Str} :
    (names.map fun (n, k) => if (k == NameKind.free && env.scope.kind == .function && env.kindOf n == some .cell) then (n, NameKind.cell) else (n, k)).lookup x = (names.lookup x).map fun k => if freed env (x, k) = true then .cell else k := by
  refine (lookup_kinds (fun p => ?_) names x).trans ?_
  · dsimp only
    split <;> rfl
  · congr 1
    funext k
    unfold freed
    dsimp only
    split <;> rfl
theorem lookup_relabel_free {env : Env} {names : List (Str × NameKind)} {x : Str} {k : NameKind}
    (h : (names.map fun (n, k) => if (k == NameKind.free && env.scope.kind == .function && env.kindOf n == some .cell) then (n, NameKind.cell) else (n, k)).lookup x = some k) (hk : k = .cell ∨ k = .free) (nc : ∀ y ∈ names, y.2 ≠ .cell) : (x, NameKind.free) ∈ names := by
  rw [lookup_freed] at h
  cases q : names.lookup x with
  | none => rw [q] at h; cases h
  | some k0 =>
    have hm := PySem.mem_of_lookup q
    suffices z : k0 = .free by rw [← z]; exact hm
    rw [q] at h
    by_cases c : freed env (x, k0) = true
    · unfold freed at c
      simp only [Bool.and_eq_true, beq_iff_eq] at c
      exact c.1.1
    · have h2 : k0 = k := by simpa [c] using h
      rcases hk with e | e
      · exact absurd (h2.trans e) (nc _ hm)
      · exact h2.trans e
theorem lookup_relabel_kind {env : Env} {names : List (Str × NameKind)} {x : Str} (h : names.lookup x = some .free) :
    (names.map fun (n, k) => if (k == NameKind.free && env.scope.kind == .function && env.kindOf n == some .cell) then (n, NameKind.cell) else (n, k)).lookup x = some .cell ∨
    (names.map fun (n, k) => if (k == NameKind.free && env.scope.kind == .function && env.kindOf n == some .cell) then (n, NameKind.cell) else (n, k)).lookup x = some .free := by
  rw [lookup_freed, h]
  by_cases c : freed env (x, .free) = true
  · exact .inl (by simp [c])
  · exact .inr (by simp [c])
section
variable {X : Cx} {pins : List (Addr × Obj)} {σ : St} {H H1 : Hp} {s : Shared}
theorem Inv.track {D : Addr} {o : HO} (I : Inv X pins σ H s) (hn : H D = none) (hs : X.s₀.heap.objs.size ≤ D) (hL : D ≠ X.env.locals) (hc : ∀ x c, X.env.cells.lookup x = some c → c ≠ D) (hp : ∀ p ∈ X.pn ++ pins, p.1 ≠ D)
    (new : ObjOk X.prog X.w (upd H D o) s.heap D o) : Inv X pins σ (upd H D o) s := by
  have nb : ∀ b ob, X.s₀.heap.get? b = some ob → b ≠ D := fun b ob e z => by subst z; exact absurd (Nat.lt_of_lt_of_le (Heap.lt_size e) hs) (Nat.lt_irrefl _)
  refine ⟨I.ok, I.os, I.bare, ⟨I.base.keep, I.base.slot, fun b ob e n hx => ?_, I.base.there, fun b xs e => ?_, fun b ob u e => ?_, fun b ps e => ?_⟩, I.loc, I.cell, ?_, fun x c e => ?_, fun p hpp => ?_, fun b u e => ?_, I.len⟩
  · rw [upd_ne (nb b ob e)]; exact I.base.free b ob e n hx
  · have q := I.base.tups b xs e
    rw [upd_ne (ne_of_none q hn)]; exact q
  · have q := I.base.frzs b ob u e
    rw [upd_ne (ne_of_none q hn)]; exact q
  · obtain ⟨more, q⟩ := I.base.tbls b ps e
    exact ⟨more, by rw [upd_ne (ne_of_none q hn)]; exact q⟩
  · rw [upd_ne hL.symm]; exact I.free
  · rw [upd_ne (hc x c e)]; exact I.freeC x c e
  · obtain ⟨a, b, c, d, e⟩ := I.pin p hpp
    exact ⟨a, by rw [upd_ne (hp p hpp)]; exact b, c, d, e⟩
  · by_cases hb : b = D
    · subst hb; rw [upd_same] at e; cases e; exact new
    · rw [upd_ne hb] at e
      exact (I.hok b u e).stay (fun _ _ _ q => q) (fun c q => by rw [upd_ne (ne_of_none q hn)]; exact q) fun c xs q => by rw [upd_ne (ne_of_none q hn)]; exact q
theorem capt_get {X : Cx} {tg cs : List Str} {ix : List Nat} (hat : ix.map (fun i => X.N[i]?) = cs.map some) {i : Nat} {x : Str} {v : V} (h1 : (tg ++ cs)[i]? = some x) (h2 : (capt tg.length ix σ)[i]? = some (some v)) :
    x ∈ cs ∧ ∃ k : Nat, X.N[k]? = some x ∧ σ[k]? = some (some v) := by
  unfold capt at h2
  by_cases hi : i < tg.length
  · rw [List.getElem?_append_left (by simpa using hi), List.getElem?_replicate, if_pos hi] at h2
    cases h2
  · rw [List.getElem?_append_right (by simpa using hi), List.length_replicate, List.getElem?_map] at h2
    rw [List.getElem?_append_right (by lia)] at h1
    cases e : ix[i - tg.length]? with
    | none => rw [e] at h2; cases h2
    | some k =>
      rw [e] at h2
      have h2 : (σ[k]?).getD none = some v := Option.some.inj h2
      have q := congrArg (fun l => l[i - tg.length]?) hat
      simp only [List.getElem?_map, e, h1, Option.map_some] at q
      refine ⟨List.mem_of_getElem? h1, k, Option.some.inj q, ?_⟩
      cases z : σ[k]? with
      | none => rw [z] at h2; cases h2
      | some y => rw [z] at h2; exact congrArg some h2
end


def PTs (X : Cx) (ifs : List Expr) (t : TT) : Prop :=
  ∀ (pins : List (Addr × Obj)) (s : Shared) (σ : St) (H : Hp) (Q : Bool → Hp → Prop), Inv X pins σ H s → t σ H Q →
    wpAny (model X.prog X.w) X.A (forIn ifs true fun c r => if r = true then do let ok ← isTrue c X.env (eval c X.env); pure (ForInStep.yield ok) else pure (ForInStep.yield r)) (TP X pins σ Q) X.xe s
def tTrue : TT := fun _ H Q => Q true H
theorem pts_nil {X : Cx} : PTs X [] tTrue := fun _ _ _ H _ I h => wpAny_tests_nil ⟨H, I, h⟩
theorem pts_one {X : Cx} {c : Expr} {t : TT} (h : PT X c t) : PTs X [c] t := fun pins s σ H Q I hw => wpAny_tests_one (h pins s σ H Q I hw)
def KeepsG (n : Nat) (ix : List Nat) (g : TG) : Prop := ∀ x σ H Q, g x (capt n ix σ) H Q → g x (capt n ix σ) H fun σ2 H2 => (σ2.length = (capt n ix σ).length ∧ ∀ (i : Nat) (v : V), (capt n ix σ)[i]? = some (some v) → σ2[i]? = some (some v)) ∧ Q σ2 H2
theorem capt_none {n : Nat} {ix : List Nat} {σ : St} {j : Nat} (h : j < n) {v : V} (e : (capt n ix σ)[j]? = some (some v)) : False := by
  unfold capt at e
  rw [List.getElem?_append_left (by simpa using h), List.getElem?_replicate, if_pos h] at e
  cases e
theorem keeps_name {n : Nat} {ix : List Nat} {j : Nat} (h : j < n) : KeepsG n ix (gName j) := fun x σ H Q q => ⟨⟨by simp, fun i v e => by
  by_cases hi : j = i
  · subst hi; exact (capt_none h e).elim
  · rw [List.getElem?_set_ne hi]; exact e⟩, q⟩
theorem keeps_two {K : PySem.W.Frag} {n : Nat} {ix : List Nat} {m j k : Nat} (h : j < n) (h' : k < n) : KeepsG n ix (gTup K m (gCons (gName j) (gCons (gName k) gNil))) := fun x σ H Q q => by
  obtain ⟨a, xs, e1, hq, hl, v, r, e2, v', r', e3, e4, q⟩ := q
  refine ⟨a, xs, e1, hq, hl, v, r, e2, v', r', e3, e4, ⟨by simp, fun i v e => ?_⟩, q⟩
  by_cases hi : j = i
  · subst hi; exact (capt_none h e).elim
  · by_cases hk : k = i
    · subst hk; exact (capt_none h' e).elim
    · rw [List.getElem?_set_ne hk, List.getElem?_set_ne hi]; exact e
def tComp (wi : TI) (n : Nat) (ix : List Nat) (g : TG) (tc : TT) (te : TE) : TE := fun σ H Q => wi σ H fun J H1 => ∃ W : Nat → Nat → List V → Hp → Prop, (∃ m, W 0 m [] H1) ∧ ∀ i m ys H2, W i m ys H2 →
  (J.stop i H2 ∧ ys.length ≤ sizeLine ∧ ∀ D, H2 D = none → Q (.ref D) (upd H2 D (.lst ys))) ∨
  (J.go i H2 ∧ ys.length < sizeLine ∧ ∃ Nx : List V → Hp → Prop, (∀ ys' H', Nx ys' H' → ∃ m', m' < m ∧ W (i + 1) m' ys' H') ∧
    ∀ x H3, J.yld i H2 x H3 → g x (capt n ix σ) H3 fun σ2 H4 => tc σ2 H4 fun b H5 => if b = true then te σ2 H5 fun v H6 => Nx (ys ++ [v]) H6 else Nx ys H5)
section
variable {X : Cx} {pins : List (Addr × Obj)} {σ : St} {H H1 : Hp} {s : Shared}
theorem inv_comp {scope : Scope} {tg cs : List Str} {ix : List Nat} {fp : List Addr} {s4 : Shared} (S : CompScope X scope tg cs ix) (I : Inv X pins σ H s) (hf : ∀ b ∈ fp, FpOk X pins H b) (ho : ∀ b ∈ fp, ∃ o, s.heap.get? b = some o) {C : Addr} (hC : s.heap.objs.size ≤ C)
    (hk : ∀ b o, s.heap.get? b = some o → s4.heap.get? b = some o) (hns : s4.heap.Ns C fun _ => none) (os : s4.os = s.os) (bare : AllBare s4.gens) (hn : H C = none) :
    Inv (cxComp X scope (tg ++ cs) C fp s H) [] (capt tg.length ix σ) H s4 := by
  have clX : ∀ x c, (clOf X.env scope.names []).lookup x = some c → X.env.cells.lookup x = some c := fun x c e => by
    rcases clOf_mem (PySem.mem_of_lookup e) with h | h
    · cases h
    · exact h
  have hasC : ∀ x, (x, NameKind.free) ∈ scope.names → ∃ c, (clOf X.env scope.names []).lookup x = some c := fun x hx => by
    obtain ⟨c, e⟩ := I.ok.has x (S.out x hx)
    have m := clOf_has (acc := []) hx e
    cases q : (clOf X.env scope.names []).lookup x with
    | some c' => exact ⟨c', rfl⟩
    | none =>
      have := List.lookup_eq_none_iff.mp q (x, c) m
      simp at this
  refine ⟨⟨I.ok.mod, ?_, I.ok.glob, I.ok.blt, hC, fun x y c e1 e2 => I.ok.inj x y c (clX x c e1) (clX y c e2), fun x hx => ?_, fun x c h => ?_, I.ok.hd, I.ok.frames, .inl rfl, fun b hb => ⟨?_, fun x c e => ?_⟩, I.bs, Nat.le_trans I.ok.bsz I.sz, fun b o e hb => ?_, fun b hb hx => ?_, I.stack, I.stkFree⟩,
    os, bare, Un.kept hk, ⟨_, hns, fun i x v e1 e2 e3 => ?_⟩, fun x c e => ?_, hn, fun x c e => I.freeC x c (clX x c e), fun p hp => (by cases hp), I.hok.kept hk, ?_⟩
  · show (relabel scope X.env).kind = .function
    exact S.kind
  · have hx' : (relabel scope X.env).names.lookup x = some .cell ∨ (relabel scope X.env).names.lookup x = some .free := hx
    rcases hx' with h | h
    · exact hasC x (lookup_relabel_free h (.inl rfl) S.nocell)
    · exact hasC x (lookup_relabel_free h (.inr rfl) S.nocell)
  · cases h
  · obtain ⟨o, e⟩ := ho b hb
    exact Nat.ne_of_lt (Nat.lt_of_lt_of_le (Heap.lt_size e) hC)
  · exact (hf b hb).2.2.2.2.1 x c (clX x c e)
  · obtain ⟨_, _, _, h, _⟩ := hf b hb
    rcases h with h | h
    · exact I.ok.noex b o e h
    · exact absurd (Nat.lt_of_lt_of_le (Heap.lt_size (I.ok.bs b o e).1) h) (Nat.lt_irrefl _)
  · have hx : b ∈ frs X.stack := hx
    obtain ⟨_, h1, h2, _⟩ := hf b hb
    rcases List.mem_cons.mp (I.stkSub b hx) with h | h
    · exact h1 h
    · exact h2 h
  · obtain ⟨hx, k, h1, h2⟩ := capt_get (X := X) S.at_ e1 e2
    obtain ⟨hx1, hx2⟩ := S.free x hx
    obtain ⟨m, hnm, hl⟩ := I.loc
    have ov := S.out x hx1
    obtain ⟨u, r, l⟩ := hl k x v h1 h2 (by rcases ov with z | z; exact .inr (.inl z); exact .inr (.inr z))
    refine ⟨u, r, ?_⟩
    rcases l with ⟨l, _⟩ | ⟨_, c, lc, ic⟩
    · have l : X.env.scope.names.lookup x = some .local := l
      rcases ov with z | z <;> rw [z] at l <;> cases l
    · obtain ⟨c', e'⟩ := hasC x hx1
      have := (clX x c' e').symm.trans lc
      cases this
      refine .inr ⟨lookup_relabel_kind hx2, c, e', ?_⟩
      obtain ⟨o, ho1, ho2⟩ := ic
      exact ⟨o, hk c o ho1, ho2⟩
  · obtain ⟨v, o, ho1, ho2⟩ := I.cell x c (clX x c e)
    exact ⟨v, o, hk c o ho1, ho2⟩
  · show (capt tg.length ix σ).length = (tg ++ cs).length
    have := congrArg List.length S.at_
    simp only [List.length_map] at this
    unfold capt
    simp [this]
theorem comp_core {use : Option (Value → Sem Unit)} {Qc : Value → Shared → Prop} {pos' : Pos} {elt target iter : Expr} {ifs : List Expr} {scope : Scope} {pos : Pos} {tg cs : List Str} {ix : List Nat} {wi : TI} {g : TG} {tc : TT} {te : TE} (S : CompScope X scope tg cs ix) (hcalm : X.calm = true) (kg : KeepsG tg.length ix g)
    (hi : PI X target iter wi) (hg : ∀ C fp s H, PG (cxComp X scope (tg ++ cs) C fp s H) target g) (hc : ∀ C fp s H, PTs (cxComp X scope (tg ++ cs) C fp s H) ifs tc) (he : ∀ C fp s H, PE (cxComp X scope (tg ++ cs) C fp s H) elt te)
    (hs : ∀ x, foldedSetIterable iter X.env x = pure x) {pins : List (Addr × Obj)} {s : Shared} {σ : St} {H : Hp} {Q : VK} (I : Inv X pins σ H s) (h : tComp wi tg.length ix g tc te σ H Q)
    (fin : ∀ D C H' s' v, Inv X pins σ H' s' → Q (.ref D) H' → FpOk X pins H' C → (∃ m, s'.heap.Ns C m) → compPost (model X.prog X.w) X.A X.xe use Qc (.ref D) C (.ok v) s') :
    wpAny (model X.prog X.w) X.A (comprehension (.ListComp elt [⟨target, iter, ifs, 0⟩] scope pos) scope X.env pos' (newList []) false (eval iter X.env) use) Qc X.xe s := by
  refine wpAny_comprehension_free (use := use) (cl := clOf X.env scope.names []) rfl hs (closure_ok fun n hn => I.ok.has n (S.out n hn)) S.kind S.names ?_
  refine wpAny_mono (hi pins s σ H _ I h) (fun v s1 h1 => wpAny_mono h1 (fun itv s2 h2 => ?_) fun _ _ e => e) fun _ _ e => e
  obtain ⟨it, fp, tn, J, H2, rfl, I2, T, st2, f2, W, ⟨m0, w0⟩, turn⟩ := h2
  refine wpAny_newObj_type (wpAny_newFunctionEnv S.nocell (by intro y hy; simp at hy) (fun h1 hns1 hsb1 => ?_) S.kind)
  dsimp only at hns1 hsb1 ⊢
  generalize hP : s2.heap.push { cls := .type "list", dict := none, data := .seq ([] : List Value).toArray } = P2 at hns1 hsb1 ⊢
  have hCs : P2.objs.size = s2.heap.objs.size + 1 := by rw [← hP, Heap.size_push]
  have hDC : s2.heap.objs.size ≠ P2.objs.size := by rw [hCs]; exact Nat.ne_of_lt (Nat.lt_succ_self _)
  have hCle : s2.heap.objs.size ≤ P2.objs.size := by rw [hCs]; exact Nat.le_succ _
  generalize hCg : P2.objs.size = C at *
  have old : ∀ b o, s2.heap.get? b = some o → h1.get? b = some o := fun b o e => hsb1.extBut b o (Nat.ne_of_lt (Nat.lt_of_lt_of_le (Heap.lt_size e) hCle)) (Heap.get?_push_of_some _ (hP ▸ Heap.get?_push_of_some _ e))
  generalize hDg : s2.heap.objs.size = D at *
  have hD0 : h1.get? D = some { cls := .type "list", data := .seq ([] : List Value).toArray 0 } := hsb1.extBut _ _ hDC (Heap.get?_push_of_some _ (hP ▸ hDg ▸ Heap.get?_push_size _ rfl))
  have nC : H2 C = none := I2.hok.fresh (by rw [hDg]; exact hCle)
  have nD : H2 D = none := I2.hok.fresh (by rw [hDg]; exact Nat.le_refl _)
  have fo : ∀ b ∈ fp, ∃ o, s2.heap.get? b = some o := fun b hb => let ⟨o, e, _⟩ := T.obj _ _ st2 b hb; ⟨o, e⟩
  have Dfp : D ∉ fp := fun z => by
    obtain ⟨o, e⟩ := fo D z
    have := Heap.lt_size e
    rw [hDg] at this
    exact absurd this (Nat.lt_irrefl _)
  have Dfs : D ∉ frs X.stack := fun z => by
    rcases List.mem_cons.mp (I2.stkSub D z) with e | e
    · have := I2.lt
      rw [← e, hDg] at this
      exact absurd this (Nat.lt_irrefl _)
    · exact I2.nofs (by rw [hDg]; exact Nat.le_refl _) e
  have DcY : ∀ x c, (clOf X.env scope.names []).lookup x = some c → c ≠ D := fun x c e => by
    rcases clOf_mem (PySem.mem_of_lookup e) with h | h
    · cases h
    · exact (I2.fpOk (H' := H2) (b := D) (by rw [hDg]; exact Nat.le_refl _) nD).2.2.2.2.1 x c h
  -- the block's context
  have Yok : ∀ s4 : Shared, s4 = { s2 with heap := h1, toks := s2.toks + ([] : List (Str × Value)).length } → Inv (cxComp X scope (tg ++ cs) C fp s2 H2) [] (capt tg.length ix σ) H2 s4 := by
    rintro s4 rfl
    exact inv_comp S I2 f2 fo (by rw [hDg]; exact hCle) old (by simpa using hns1) rfl I2.bare nC
  -- the loop
  have loop : ∀ s4 : Shared, s4 = { s2 with heap := h1, toks := s2.toks + ([] : List (Str × Value)).length } →
      codeAny (model X.prog X.w) X.A (.compLoop (.ListComp elt [⟨target, iter, ifs, 0⟩] scope pos) 0 (.ref it) (.ref D) (compEnvC scope (clOf X.env scope.names []) C X.env)) (compPost (model X.prog X.w) X.A X.xe use Qc (.ref D) C) s4 := by
    intro s4 e4
    refine codeAny_loop rfl (fun n s' => ∃ i ys its k H', Inv (cxComp X scope (tg ++ cs) C fp s2 H2) [] (capt tg.length ix σ) H' s' ∧ tn i s'.heap ∧ (∀ b ∈ fp, H' b = none) ∧ H' D = none ∧ s'.heap.get? D = some { cls := .type "list", data := .seq (its : List Value).toArray k } ∧ Vals ys its ∧ W i n ys H')
      ?_ m0 ⟨0, [], [], 0, H2, Yok s4 e4, ?_, fun b hb => (f2 b hb).1, nD, by rw [e4]; exact hD0, .nil, w0⟩
    · rintro n s5 ⟨i, ys, its, k, H5, I5, st5, fr5, d5, o5, v5, w5⟩
      show wpAny _ X.A ((compTurn (.ListComp elt [⟨target, iter, ifs, 0⟩] scope pos) 0 (.ref it) (.ref D) (compEnvC scope (clOf X.env scope.names []) C X.env)).onRaise (fun x => do noteFrame x (compEnvC scope (clOf X.env scope.names []) C X.env); theTreesLotGoes x)) _ _ s5
      refine wpAny_noted ?_
      rw [compTurn_list]
      have pin0 : Inv (cxComp X scope (tg ++ cs) C fp s2 H2) [(D, { cls := .type "list", data := .seq its.toArray k })] (capt tg.length ix σ) H5 s5 := I5.pins_of fun p hp => by
        have e : p = (D, { cls := .type "list", data := .seq its.toArray k }) := by simpa using hp
        subst e
        exact ⟨o5, d5, hDC, Dfs, fun v z => by have z' : Data.seq _ _ = Data.cell v := z; cases z'⟩
      have fpY : ∀ {H' : Hp}, (∀ b ∈ fp, H' b = none) → ∀ b ∈ fp, FpOk (cxComp X scope (tg ++ cs) C fp s2 H2) [(D, { cls := .type "list", data := .seq its.toArray k })] H' b := fun hn b hb =>
        ⟨hn b hb, (I5.ok.exf b hb).1, fun z => I5.ok.exfs b hb z, .inl hb, (I5.ok.exf b hb).2, fun p hp z => by
          have hp : p ∈ ([] : List (Addr × Obj)) ++ [(D, { cls := .type "list", data := .seq its.toArray k })] := hp
          have e : p = (D, { cls := .type "list", data := .seq its.toArray k }) := by simpa using hp
          subst e
          have z : D = b := z
          exact Dfp (z ▸ hb)⟩
      refine wpAny_bind (wpAny_standAt (wpAny_bind ?_))
      rcases turn i n ys H5 w5 with ⟨stop, hz, qn⟩ | ⟨go, hz, Nx, hN, step⟩
      · refine thn (T.done (cxComp X scope (tg ++ cs) C fp s2 H2) rfl rfl rfl hcalm i _ s5 _ H5 _ pin0 (fpY fr5) st5 stop) fun r s6 ⟨hr, I6⟩ => ?_
        subst hr
        refine wpAny_pure ?_
        obtain ⟨mC, hnsC, _⟩ := id I6.loc
        have IX : Inv X pins σ H5 s6 := I2.call' (ch := fp) I6.os I6.base I6.hok I6.bare fun b hb => let ⟨_, a1, _, a3, a4, a5⟩ := f2 b hb; ⟨a3, a1, a4, a5⟩
        obtain ⟨_, b1, _, b3, b4, b5⟩ := I2.fpOk (H' := H5) (b := D) (by rw [hDg]; exact Nat.le_refl _) d5
        obtain ⟨_, c1, c2, c3, c4, c5⟩ := I2.fpOk (H' := H5) (b := C) (by rw [hDg]; exact hCle) I6.free
        have gD : s6.heap.get? D = some { cls := .type "list", data := .seq its.toArray k } := (I6.pin (D, { cls := .type "list", data := .seq its.toArray k }) (List.mem_append_right _ List.mem_cons_self)).1
        have IXD : Inv X pins σ (upd H5 D (.lst ys)) s6 := IX.track d5 (by rw [← hDg]; exact I2.sz) b1 b4 b5 ⟨hz, its, k, v5, gD⟩
        exact fin D C _ s6 _ IXD (qn D d5) ⟨by rw [upd_ne (Ne.symm hDC)]; exact I6.free, c1, c2, c3, c4, c5⟩ ⟨mC, hnsC⟩
      · refine thn (T.item (cxComp X scope (tg ++ cs) C fp s2 H2) rfl rfl rfl hcalm i _ s5 _ H5 _ pin0 (fpY fr5) st5 go) fun r s6 ⟨u, hr, h6⟩ => ?_
        subst hr
        refine wpAny_bind (thn h6 fun _ s7 ⟨x, H7, I7, r7, y7, st7, fr7⟩ => ?_)
        have I7' := I7.pinned (fpY fr7) (T.obj _ _ st7)
        -- the next turn
        have again : ∀ {σ2 : St} {H8 : Hp} {s8 : Shared} {ys' : List V} {its' : List Value} {k' : Nat} , Inv (cxComp X scope (tg ++ cs) C fp s2 H2) [] σ2 H8 s8 → (σ2.length = (capt tg.length ix σ).length ∧ ∀ (i : Nat) (v : V), (capt tg.length ix σ)[i]? = some (some v) → σ2[i]? = some (some v)) →
            (∀ b ∈ fp, ∀ o, s7.heap.get? b = some o → s8.heap.get? b = some o) → (∀ b ∈ fp, H8 b = none) → H8 D = none → s8.heap.get? D = some { cls := .type "list", data := .seq its'.toArray k' } → Vals ys' its' → Nx ys' H8 →
            ∃ m, m < n ∧ ∃ i ys its k H', Inv (cxComp X scope (tg ++ cs) C fp s2 H2) [] (capt tg.length ix σ) H' s8 ∧ tn i s8.heap ∧ (∀ b ∈ fp, H' b = none) ∧ H' D = none ∧ s8.heap.get? D = some { cls := .type "list", data := .seq (its : List Value).toArray k } ∧ Vals ys its ∧ W i m ys H' := by
          intro σ2 H8 s8 ys' its' k' I8 kp fk fn dn dg vv nx
          obtain ⟨m', hm, w8⟩ := hN ys' H8 nx
          exact ⟨m', hm, i + 1, ys', its', k', H8, I8.weak kp.1.symm kp.2, T.keep _ _ _ st7 fk, fn, dn, dg, vv, w8⟩
        refine wpAny_bind (wpAny_mono (hg C fp s2 H2 _ s7 _ H7 x u _ I7' r7 (kg x σ H7 _ (step x H7 y7))) (fun _ s8 ⟨σ8, H8, I8, kp8, q8⟩ => ?_) fun _ _ z => z.elim)
        refine wpAny_bind (wpAny_mono (hc C fp s2 H2 _ s8 σ8 H8 _ I8 q8) (fun ok s9 ⟨H9, I9, q9⟩ => ?_) fun _ _ z => z.elim)
        have pinsOf : ∀ {σ' : St} {H' : Hp} {s' : Shared}, Inv (cxComp X scope (tg ++ cs) C fp s2 H2) ([(D, { cls := .type "list", data := .seq its.toArray k })] ++ pinsAt fp s7.heap) σ' H' s' →
            (∀ b ∈ fp, ∀ o, s7.heap.get? b = some o → s'.heap.get? b = some o) ∧ (∀ b ∈ fp, H' b = none) ∧ H' D = none ∧ s'.heap.get? D = some { cls := .type "list", data := .seq its.toArray k } := by
          intro σ' H' s' I'
          refine ⟨fun b hb o e => (I'.pin (b, o) (List.mem_append_right _ (List.mem_append_right _ (mem_pinsAt hb e)))).1, fun b hb => ?_, (I'.pin (D, { cls := .type "list", data := .seq its.toArray k }) (List.mem_append_right _ (List.mem_append_left _ List.mem_cons_self))).2.1, (I'.pin (D, { cls := .type "list", data := .seq its.toArray k }) (List.mem_append_right _ (List.mem_append_left _ List.mem_cons_self))).1⟩
          obtain ⟨o, e, d⟩ := T.obj _ _ st7 b hb
          exact (I'.pin (b, o) (List.mem_append_right _ (List.mem_append_right _ (mem_pinsAt hb e)))).2.1
        cases ok with
        | false =>
          obtain ⟨p1, p2, p3, p4⟩ := pinsOf I9
          exact wpAny_pure ⟨rfl, again (I9.pins_of fun p hp => nomatch hp) kp8 p1 p2 p3 p4 v5 q9⟩
        | true =>
          have q9 : te σ8 H9 fun v H6 => Nx (ys ++ [v]) H6 := q9
          refine wpAny_bind (wpAny_bind (wpAny_mono (he C fp s2 H2 _ s9 σ8 H9 _ I9 q9) (fun y s10 ⟨v, H10, I10, rv, nx⟩ => ?_) fun _ _ z => z.elim))
          obtain ⟨p1, p2, p3, p4⟩ := pinsOf I10
          have hl5 := v5.length
          refine wpAny_bind (call_meets F.slot_list_append ⟨_, p4, rfl⟩ F.entry_list_append (F.args_list_append_2 _ _) (PySem.list_append D its.toArray k y (by rw [List.size_toArray]; lia)) ⟨p4, ?_⟩)
          have g10 := PySem.IsL.update p4 (·.push y)
          rw [show its.toArray.push y = (its ++ [y]).toArray by simp] at g10
          have I11 : Inv (cxComp X scope (tg ++ cs) C fp s2 H2) [] σ8 H10 s10 := I10.pins_of fun p hp => nomatch hp
          have I12 : Inv (cxComp X scope (tg ++ cs) C fp s2 H2) [] σ8 H10 { s10 with heap := s10.heap.update D (Obj.mapSeq (·.push y)) } :=
            I11.turned (t' := s10.toks) (fun b o hb e => (Heap.get?_update_other s10.heap (Obj.mapSeq (·.push y)) (Ne.symm hb)).trans e) p3 hDC (.inr (by show s2.heap.objs.size ≤ D; rw [hDg]; exact Nat.le_refl _)) DcY (fun p hp => nomatch hp)
          refine wpAny_pure (wpAny_pure ⟨rfl, again (its' := its ++ [y]) I12 kp8 (fun b hb o e => ?_) p2 p3 g10 (v5.append (.cons rv .nil)) nx⟩)
          exact (Heap.get?_update_other s10.heap (Obj.mapSeq (·.push y)) (fun z : D = b => Dfp (z ▸ hb))).trans (p1 b hb o e)
    · rw [e4]; exact T.keep _ _ _ st2 fun b _ o e => old b o e
  exact codeAny_compStart_list (loop _ rfl) (T.self _ 0 _ _ _ (T.keep _ _ _ st2 fun b _ o e => old b o e) (loop _ rfl))
theorem pe_comp {elt target iter : Expr} {ifs : List Expr} {scope : Scope} {pos : Pos} {tg cs : List Str} {ix : List Nat} {wi : TI} {g : TG} {tc : TT} {te : TE} (S : CompScope X scope tg cs ix) (hcalm : X.calm = true) (kg : KeepsG tg.length ix g)
    (hi : PI X target iter wi) (hg : ∀ C fp s H, PG (cxComp X scope (tg ++ cs) C fp s H) target g) (hc : ∀ C fp s H, PTs (cxComp X scope (tg ++ cs) C fp s H) ifs tc) (he : ∀ C fp s H, PE (cxComp X scope (tg ++ cs) C fp s H) elt te)
    (hs : ∀ x, foldedSetIterable iter X.env x = pure x := by intro _; rfl) : PE X (.ListComp elt [⟨target, iter, ifs, 0⟩] scope pos) (tComp wi tg.length ix g tc te) := by
  intro pins s σ H Q I h
  rw [eval_ListComp]
  refine comp_core S hcalm kg hi hg hc he hs I h fun D C H' s' v I' q fp z => ?_
  obtain ⟨f0, c1, _, c3, c4, c5⟩ := fp
  obtain ⟨m, hm⟩ := z
  exact ⟨m, hm, fun h' sb => ⟨.ref D, H', I'.turned (t' := s'.toks) (fun b o hb e => (sb.2 b hb).trans e) f0 c1 c3 c4 c5, rfl, q⟩⟩
end
end L2
end
section
set_option maxHeartbeats 4000000
namespace Srt
open PySem PySem.W PyProof.Rows
section
variable {O : KeyOrd} (key : Nat → O.α)
variable {key}
end
end Srt
end
section
set_option maxHeartbeats 4000000
namespace L2
open PySem PySem.Spec PyProof.Rows
section
variable {X : Cx} {pins : List (Addr × Obj)} {σ : St} {H : Hp} {s : Shared}
theorem Inv.kept_led {h' : Heap} {m : Str → Option Value} (I : Inv X pins σ H s) (F' : Fr X.base X.env.locals h' m) (N' : News X.base X.env.locals h' (allNews X.base s.heap X.env.locals)) : ∀ b o, b ≠ X.env.locals → s.heap.get? b = some o → h'.get? b = some o := fun b o hb e => by
  cases q : X.base.get? b with
  | some u =>
    have := I.bk b u q
    rw [e] at this; cases this
    exact F'.keep b _ q
  | none => exact (N' (b, o) (mem_allNews hb q e)).1
theorem Inv.led {h' : Heap} {m : Str → Option Value} {t' : Nat} (I : Inv X pins σ H s) (hm : s.heap.Ns X.env.locals m) (F' : Fr X.base X.env.locals h' m) (N' : News X.base X.env.locals h' (allNews X.base s.heap X.env.locals)) :
    Inv X pins σ H { s with heap := h', toks := t' } := by
  have k := I.kept_led F' N'
  refine I.step (g' := s.gens) (d' := s.drawn) (ch := []) (fun _ z => nomatch z) (fun b o hb _ _ e _ => k b o hb e) (fun b o hb _ _ e _ => ⟨o.slots, k b o hb e⟩) (fun _ _ _ _ n => n) (fun b o _ e => ?_) (fun _ _ e => e) (fun _ _ _ e => e) (fun b ps e => ⟨#[], by rw [e]; simp⟩) (fun m' hm' => ?_) (fun b u e => ?_) I.bare
  · by_cases hb : b = X.env.locals
    · obtain ⟨o', _, _, ho, _⟩ := F'.ns
      exact ⟨o', by rw [hb]; exact ho⟩
    · exact ⟨o, k b o hb e⟩
  · have em : m' = m := by
      obtain ⟨o, es, ep, ho, hd, _, hf⟩ := hm
      obtain ⟨o2, es2, ep2, ho2, hd2, _, hf2⟩ := hm'
      rw [ho] at ho2; cases ho2
      rw [hd] at hd2; cases hd2
      funext x
      rw [← hf x, ← hf2 x]
    rw [em]; exact F'.ns
  · refine (I.hok b u e).stay (fun c v hc q => k c v ?_ q) (fun _ q => q) fun _ _ q => q
    rcases hc with z | z
    · rw [z]; exact ne_of_none e I.free
    · exact ne_of_none z I.free
end
section
variable {prog : Program} {w : World} {A : Around} {E : Value → Shared → Prop} {s : Shared}
end

section
variable {X : Cx} {pins : List (Addr × Obj)} {σ : St} {H : Hp} {s : Shared}
theorem Inv.trackN {D : Addr} {o : HO} (I : Inv X pins σ H s) (hn : H D = none) (hs : X.s₀.heap.get? D = none) (hL : D ≠ X.env.locals) (hc : ∀ x c, X.env.cells.lookup x = some c → c ≠ D) (hp : ∀ p ∈ X.pn ++ pins, p.1 ≠ D)
    (new : ObjOk X.prog X.w (upd H D o) s.heap D o) : Inv X pins σ (upd H D o) s := by
  have nb : ∀ b ob, X.s₀.heap.get? b = some ob → b ≠ D := fun b ob e z => by subst z; rw [hs] at e; cases e
  have nt : ∀ b u, H b = some u → b ≠ D := fun b u e => ne_of_none e hn
  refine ⟨I.ok, I.os, I.bare, ⟨I.base.keep, I.base.slot, fun b ob e n hx => by rw [upd_ne (nb b ob e)]; exact I.base.free b ob e n hx, I.base.there, fun b xs e => ?_, fun b ob u e => ?_, fun b ps e => ?_⟩, I.loc, I.cell, by rw [upd_ne hL.symm]; exact I.free, fun x c e => by rw [upd_ne (hc x c e)]; exact I.freeC x c e, fun p hpp => ?_, fun b u e => ?_, I.len⟩
  · have q := I.base.tups b xs e
    rw [upd_ne (nt b _ q)]; exact q
  · have q := I.base.frzs b ob u e
    rw [upd_ne (nt b _ q)]; exact q
  · obtain ⟨more, q⟩ := I.base.tbls b ps e
    exact ⟨more, by rw [upd_ne (nt b _ q)]; exact q⟩
  · obtain ⟨a, b, c, d, e⟩ := I.pin p hpp
    exact ⟨a, by rw [upd_ne (hp p hpp)]; exact b, c, d, e⟩
  · by_cases hb : b = D
    · subst hb; rw [upd_same] at e; cases e; exact new
    · rw [upd_ne hb] at e
      exact (I.hok b u e).stay (fun _ _ _ q => q) (fun c q => by rw [upd_ne (nt c _ q)]; exact q) fun c xs q => by rw [upd_ne (nt c _ q)]; exact q
theorem vals_refs : ∀ {ps : List Addr} {us : List Value}, Vals (ps.map V.ref) us → us = ps.map Value.ref
  | [], _, .nil => rfl
  | p :: ps, _, .cons r t => by
    rw [vals_refs t]
    cases r
    rfl
end
end L2
end
section
set_option maxHeartbeats 4000000
namespace L2
open PySem PySem.Spec PyProof.Rows
theorem ObjOk.there {P : Program} {w : World} {H : Hp} {h : Heap} {a : Addr} {o : HO} (x : ObjOk P w H h a o) : ∃ ob, h.get? a = some ob := by
  cases o with
  | lst xs => obtain ⟨_, _, _, _, e⟩ := x; exact ⟨_, e⟩
  | tup xs => obtain ⟨_, _, _, ob, e, _⟩ := x; exact ⟨_, e⟩
  | dK kvs => obtain ⟨_, _, _, _, o, _, _, e, _⟩ := x; exact ⟨_, e⟩
  | dT kvs => obtain ⟨_, _, _, _, o, _, _, e, _⟩ := x; exact ⟨_, e⟩
  | set S n => obtain ⟨o, _, _, _, e, _⟩ := x; exact ⟨_, e⟩
  | ins C dx fs => obtain ⟨_, _, _, e, _⟩ := x; exact ⟨_, e⟩
  | own y => exact x
  | xd fs => obtain ⟨_, ⟨_, _, _, e, _⟩, _⟩ := x; exact ⟨_, e⟩
  | rng lo hi => obtain ⟨_, _, _, e⟩ := x; exact ⟨_, e⟩
  | frz ob u => obtain ⟨e, _⟩ := x; exact ⟨_, e⟩
  | tbl ps => obtain ⟨_, e, _⟩ := x; exact ⟨_, e⟩
  | met f y => exact ⟨_, x⟩
  | ext φ => exact x.2.1
end L2
end
section
set_option maxHeartbeats 4000000
namespace L2
open PySem PySem.Spec PyProof.Rows
section
variable {X : Cx} {pins : List (Addr × Obj)} {σ : St} {H : Hp} {s : Shared}
end
section
variable {X : Cx}
end

def CompOk (scope osc : Scope) (N tg cs : List Str) (ix : List Nat) : Prop :=
  (∀ y ∈ scope.names, y.2 ≠ .cell) ∧ (∀ y ∈ scope.names, y.2 = .local → scope.names.lookup y.1 = some .local) ∧ (tg ++ cs).Nodup ∧ ix.map (fun i => N[i]?) = cs.map some ∧
  (∀ x ∈ cs, (x, NameKind.free) ∈ scope.names ∧ scope.names.lookup x = some .free) ∧ ∀ y ∈ scope.names, y.2 = .free → osc.names.lookup y.1 = some .cell ∨ osc.names.lookup y.1 = some .free
instance (scope osc : Scope) (N tg cs : List Str) (ix : List Nat) : Decidable (CompOk scope osc N tg cs ix) := by unfold CompOk; infer_instance
theorem comp_scope {X : Cx} {scope : Scope} {tg cs : List Str} {ix : List Nat} (osc : Scope) (N : List Str) (h : CompOk scope osc N tg cs ix) (hk : scope.kind = .function := by rfl) (ho : X.env.scope = osc := by rfl) (hN : X.N = N := by rfl) : CompScope X scope tg cs ix := by
  obtain ⟨h1, h2, h3, h4, h5, h6⟩ := h
  exact ⟨hk, h1, h2, h3, by rw [hN]; exact h4, h5, fun x hx => by rw [ho]; exact h6 (x, .free) hx rfl⟩
end L2
end
section
set_option maxHeartbeats 4000000
namespace L2
open PySem PySem.Spec PyProof.Rows
section
variable {X : Cx} {pins : List (Addr × Obj)} {σ : St} {H H1 : Hp} {s : Shared}
theorem ps_compU {elt target iter : Expr} {ifs : List Expr} {scope : Scope} {pos spos py : Pos} {yy : Str} {ii : Nat} {tg cs : List Str} {ix : List Nat} {wi : TI} {g : TG} {tc : TT} {te : TE} (hN0 : X.N.Nodup) (hi0 : X.N[ii]? = some yy) (hx0 : Loc X.env.scope yy)
    (S : CompScope X scope tg cs ix) (hcalm : X.calm = true) (kg : KeepsG tg.length ix g)
    (hi : PI X target iter wi) (hg : ∀ C fp s H, PG (cxComp X scope (tg ++ cs) C fp s H) target g) (hc : ∀ C fp s H, PTs (cxComp X scope (tg ++ cs) C fp s H) ifs tc) (he : ∀ C fp s H, PE (cxComp X scope (tg ++ cs) C fp s H) elt te)
    (hf0 : X.fn yy = true ∨ X.env.scope.names.lookup yy = some .local)
    (hsw : swapsWith (.ListComp elt [⟨target, iter, ifs, 0⟩] scope pos) (some (.Name yy py)) spos.line X.env = pure true)
    (hs : ∀ x, foldedSetIterable iter X.env x = pure x := by intro _; rfl) : PS X (.Assign [.Name yy py] (.ListComp elt [⟨target, iter, ifs, 0⟩] scope pos) spos) (tAsg (tComp wi tg.length ix g tc te) (gName ii)) := by
  intro pins s σ H Dn I h
  rw [exec_Assign_Name_used _ _ _ _ hsw]
  refine wpAny_bind (wpAny_standAt (wpAny_bind ?_))
  show wpAny _ X.A (do let _ ← comprehension (.ListComp elt [⟨target, iter, ifs, 0⟩] scope pos) scope X.env _ (newList []) false (eval iter X.env) (some (assign (.Name yy py) X.env))) _ _ s
  refine wpAny_bind (wpAny_mono (comp_core (use := some (assign (.Name yy py) X.env)) (Qc := fun _ s' => SP X pins Dn .next s') S hcalm kg hi hg hc he hs I h fun D C H' s' v I' q fp z => ?_) (fun _ s' hq => wpAny_pure (wpAny_pure hq)) fun _ _ e => e)
  obtain ⟨f0, c1, _, c3, c4, c5⟩ := fp
  obtain ⟨m, hm⟩ := z
  show wpAny _ X.A (assign (.Name yy py) X.env (.ref D)) _ _ s'
  refine wpAny_assign_Name (store_ok2 (v := .ref D) I' hN0 hi0 hx0 rfl (fun s'' I'' zq => ?_) hf0)
  obtain ⟨a, sb, ha⟩ := zq
  have hCa : C ≠ a := by
    rcases ha with rfl | ha
    · exact c1
    · exact (c4 _ _ ha).symm
  exact ⟨m, hm.sameBut sb hCa, fun h' sb' => ⟨_, _, I''.turned (t' := s''.toks) (it := C) (fun b o hb e => (sb'.2 b hb).trans e) f0 c1 c3 c4 c5, q⟩⟩
end
end L2
end
section
set_option maxHeartbeats 4000000
namespace VL
open PySem L2
inductive D where
  | int (i : Int) | bl (b : Bool) | non | str (x : Str) | ty (n : String) | tup (ds : List D) | lst (ds : List D) | dic (ks : List (List Int)) (vs : List D) | exc (c : Value)
def kT (ms : List Int) : D := .tup (ms.map .int)
def IsM : Option HO → Prop
  | some (.lst _) => True
  | some (.ext _) => True
  | _ => False
theorem IsM.ne {o : Option HO} (h : IsM o) : o ≠ none := by rintro rfl; exact h
abbrev AP := Addr → Prop
def Any : AP := fun _ => True
abbrev FP := Option Addr → Prop
def AnyF : FP := fun _ => True
def Fr (H0 : Hp) : FP := fun o => ∃ a, o = some a ∧ H0 a = none
mutual
inductive Rep (K : PySem.W.Frag) (N : AP) (F : FP) (H : Hp) : V → D → Prop where
  | int (i : Int) : Rep K N F H (.int i) (.int i)
  | bl (b : Bool) : Rep K N F H (.bl b) (.bl b)
  | non : Rep K N F H .non .non
  | str (x : Str) : Rep K N F H (.str x) (.str x)
  | ty (x : String) : Rep K N F H (.ty x) (.ty x)
  | tup {a : Addr} {vs : List V} {ds : List D} (n : N a) (h : Rd H a (.tup vs)) (r : Reps K N F H vs ds) : Rep K N F H (.ref a) (.tup ds)
  | tupK {a : Addr} {vs : List V} {ds : List D} (h : SqT K (fun _ => none) a vs) (r : Reps K N F H vs ds) : Rep K N F H (.ref a) (.tup ds)
  | lst {a : Addr} {vs : List V} {ds : List D} (n : N a) (f : F (some a)) (h : H a = some (.lst vs)) (r : Reps K N F H vs ds) : Rep K N F H (.ref a) (.lst ds)
  | lstF {a : Addr} {vs : List V} {ds : List D} {o : Obj} (n : N a) (f : F none) (h : H a = some (.frz o (.lst vs))) (r : Reps K N F H vs ds) : Rep K N F H (.ref a) (.lst ds)
  | lstK {a : Addr} {vs : List V} {ds : List D} (f : F none) (h : SqL K (fun _ => none) a vs) (r : Reps K N F H vs ds) : Rep K N F H (.ref a) (.lst ds)
  | dic {a : Addr} {ob : Obj} {es : List (List Int × Addr × V)} {ks : List (List Int)} {ds : List D} (n : N a) (f : F (some a)) (h : H a = some (DctO a ob es)) (e : es.map (·.1) = ks) (rk : Reps K N F H (es.map fun x => .ref x.2.1) (ks.map kT)) (r : Reps K N F H (es.map (·.2.2)) ds) : Rep K N F H (.ref a) (.dic ks ds)
  | exc {x : Addr} {c : Value} {o : Obj} (n : N x) (h : H x = some (.frz o (.own x))) (e : o.cls = c) : Rep K N F H (.ref x) (.exc c)
inductive Reps (K : PySem.W.Frag) (N : AP) (F : FP) (H : Hp) : List V → List D → Prop where
  | nil : Reps K N F H [] []
  | cons {v : V} {d : D} {vs : List V} {ds : List D} (h : Rep K N F H v d) (t : Reps K N F H vs ds) : Reps K N F H (v :: vs) (d :: ds)
end
section
variable {K : PySem.W.Frag} {N N' : AP} {F F' : FP} {H H' H0 : Hp}
theorem Rd.there {a : Addr} {u : HO} (h : Rd H a u) : H a ≠ none := by rcases h with h | ⟨o, h⟩ <;> simp [h]
theorem Rd.keep {a : Addr} {u : HO} (h : Rd H a u) (e : H' a = H a) : Rd H' a u := by
  rcases h with h | ⟨o, h⟩
  · exact .inl (e.trans h)
  · exact .inr ⟨o, e.trans h⟩
mutual
theorem Rep.mono (hN : ∀ a, N a → H a ≠ none → N' a ∧ H' a = H a) (hF : ∀ o, F o → F' o) {v : V} {d : D} : Rep K N F H v d → Rep K N' F' H' v d
  | .int i => .int i
  | .bl i => .bl i
  | .non => .non
  | .str i => .str i
  | .ty i => .ty i
  | .tup n h r => .tup (hN _ n (Rd.there h)).1 (Rd.keep h (hN _ n (Rd.there h)).2) (Reps.mono hN hF r)
  | .tupK h r => .tupK h (Reps.mono hN hF r)
  | .lst n f h r => .lst (hN _ n (by simp [h])).1 (hF _ f) ((hN _ n (by simp [h])).2.trans h) (Reps.mono hN hF r)
  | .lstF n f h r => .lstF (hN _ n (by simp [h])).1 (hF _ f) ((hN _ n (by simp [h])).2.trans h) (Reps.mono hN hF r)
  | .lstK f h r => .lstK (hF _ f) h (Reps.mono hN hF r)
  | .dic n f h e rk r => .dic (hN _ n (by simp [h])).1 (hF _ f) ((hN _ n (by simp [h])).2.trans h) e (Reps.mono hN hF rk) (Reps.mono hN hF r)
  | .exc n h e => .exc (hN _ n (by simp [h])).1 ((hN _ n (by simp [h])).2.trans h) e
theorem Reps.mono (hN : ∀ a, N a → H a ≠ none → N' a ∧ H' a = H a) (hF : ∀ o, F o → F' o) {vs : List V} {ds : List D} : Reps K N F H vs ds → Reps K N' F' H' vs ds
  | .nil => .nil
  | .cons h t => .cons (Rep.mono hN hF h) (Reps.mono hN hF t)
end
theorem Rep.any {v : V} {d : D} (h : Rep K N F H v d) : Rep K Any AnyF H v d := h.mono (fun _ _ _ => ⟨trivial, rfl⟩) (fun _ _ => trivial)
theorem Reps.any {vs : List V} {ds : List D} (h : Reps K N F H vs ds) : Reps K Any AnyF H vs ds := h.mono (fun _ _ _ => ⟨trivial, rfl⟩) (fun _ _ => trivial)
mutual
theorem Rep.avoid (h1 : ∀ a, ¬N' a → IsM (H a)) (h2 : ∀ a, F (some a) → N' a) {v : V} {d : D} : Rep K N F H v d → Rep K N' F H v d
  | .int i => .int i
  | .bl i => .bl i
  | .non => .non
  | .str i => .str i
  | .ty i => .ty i
  | .tup (a := a) n h r => .tup (Classical.byContradiction fun z => by
      have e := h1 a z
      rcases h with h | ⟨o, h⟩ <;> rw [h] at e <;> exact e) h (Reps.avoid h1 h2 r)
  | .tupK h r => .tupK h (Reps.avoid h1 h2 r)
  | .lst n f h r => .lst (h2 _ f) f h (Reps.avoid h1 h2 r)
  | .lstF (a := a) n f h r => .lstF (Classical.byContradiction fun z => by
      have e := h1 a z
      rw [h] at e; exact e) f h (Reps.avoid h1 h2 r)
  | .lstK f h r => .lstK f h (Reps.avoid h1 h2 r)
  | .dic n f h e rk r => .dic (h2 _ f) f h e (Reps.avoid h1 h2 rk) (Reps.avoid h1 h2 r)
  | .exc (x := a) n h e => .exc (Classical.byContradiction fun z => by
      have e := h1 a z
      rw [h] at e; exact e) h e
theorem Reps.avoid (h1 : ∀ a, ¬N' a → IsM (H a)) (h2 : ∀ a, F (some a) → N' a) {vs : List V} {ds : List D} : Reps K N F H vs ds → Reps K N' F H vs ds
  | .nil => .nil
  | .cons h t => .cons (Rep.avoid h1 h2 h) (Reps.avoid h1 h2 t)
end
mutual
def flat : D → Bool
  | .lst _ => false
  | .dic _ _ => false
  | .tup ds => flats ds
  | _ => true
def flats : List D → Bool
  | [] => true
  | d :: r => flat d && flats r
end
theorem flats_intsW : ∀ ms : List Int, flats (ms.map D.int) = true
  | [] => rfl
  | _ :: r => by simp [flats, flat, flats_intsW r]
theorem flats_kT : ∀ ks : List (List Int), flats (ks.map kT) = true
  | [] => rfl
  | _ :: r => by simp [flats, kT, flat, flats_intsW, flats_kT r]
mutual
theorem Rep.flat {v : V} {d : D} : Rep K N F H v d → VL.flat d = true → Rep K N F' H v d
  | .int i, _ => .int i
  | .bl i, _ => .bl i
  | .non, _ => .non
  | .str i, _ => .str i
  | .ty i, _ => .ty i
  | .tup n h r, e => .tup n h (Reps.flat r (by simpa [VL.flat] using e))
  | .tupK h r, e => .tupK h (Reps.flat r (by simpa [VL.flat] using e))
  | .lst n f h r, e => by simp [VL.flat] at e
  | .lstF n f h r, e => by simp [VL.flat] at e
  | .lstK f h r, e => by simp [VL.flat] at e
  | .dic n f h _ _ r, e => by simp [VL.flat] at e
  | .exc n h e, _ => .exc n h e
theorem Reps.flat {vs : List V} {ds : List D} : Reps K N F H vs ds → flats ds = true → Reps K N F' H vs ds
  | .nil, _ => .nil
  | .cons h t, e => by
    simp only [flats, Bool.and_eq_true] at e
    exact .cons (Rep.flat h e.1) (Reps.flat t e.2)
end
theorem Reps.length : ∀ {vs : List V} {ds : List D}, Reps K N F H vs ds → vs.length = ds.length
  | _, _, .nil => rfl
  | _, _, .cons _ t => by simp [Reps.length t]
theorem Reps.get : ∀ {vs : List V} {ds : List D} {i : Nat} {v : V}, Reps K N F H vs ds → vs[i]? = some v → ∃ d, ds[i]? = some d ∧ Rep K N F H v d
  | _, _, 0, _, .cons h _, e => by simp at e; subst e; exact ⟨_, rfl, h⟩
  | _, _, i + 1, v, .cons _ t, e => by
    obtain ⟨d, h1, h2⟩ := Reps.get (i := i) (v := v) t (by simpa using e)
    exact ⟨d, by simpa using h1, h2⟩
  | _, _, _, _, .nil, e => by simp at e
theorem Reps.getD : ∀ {vs : List V} {ds : List D} {i : Nat} {d : D}, Reps K N F H vs ds → ds[i]? = some d → ∃ v, vs[i]? = some v ∧ Rep K N F H v d
  | _, _, 0, _, .cons h _, e => by simp at e; subst e; exact ⟨_, rfl, h⟩
  | _, _, i + 1, v, .cons _ t, e => by
    obtain ⟨d, h1, h2⟩ := Reps.getD (i := i) (d := v) t (by simpa using e)
    exact ⟨d, by simpa using h1, h2⟩
  | _, _, _, _, .nil, e => by simp at e
theorem Reps.append : ∀ {vs ws : List V} {ds es : List D}, Reps K N F H vs ds → Reps K N F H ws es → Reps K N F H (vs ++ ws) (ds ++ es)
  | _, _, _, _, .nil, s => s
  | _, _, _, _, .cons h t, s => .cons h (Reps.append t s)
theorem Reps.take : ∀ {vs : List V} {ds : List D} (n : Nat), Reps K N F H vs ds → Reps K N F H (vs.take n) (ds.take n)
  | _, _, 0, _ => by simpa using .nil
  | _, _, _ + 1, .nil => by simpa using .nil
  | _, _, n + 1, .cons h t => by simpa using .cons h (Reps.take n t)
theorem Reps.drop : ∀ {vs : List V} {ds : List D} (n : Nat), Reps K N F H vs ds → Reps K N F H (vs.drop n) (ds.drop n)
  | _, _, 0, h => by simpa using h
  | _, _, _ + 1, .nil => by simpa using .nil
  | _, _, n + 1, .cons h t => by simpa using Reps.drop n t
theorem Reps.set {v : V} {d : D} (h : Rep K N F H v d) : ∀ {vs : List V} {ds : List D} (i : Nat), Reps K N F H vs ds → Reps K N F H (vs.set i v) (ds.set i d)
  | _, _, _, .nil => by simpa using .nil
  | _, _, 0, .cons _ t => by simpa using .cons h t
  | _, _, i + 1, .cons q t => by simpa using .cons q (Reps.set h i t)
theorem Reps.ints : ∀ {ns : List Int}, Reps K N F H (ns.map V.int) (ns.map D.int)
  | [] => .nil
  | _ :: r => .cons (.int _) (Reps.ints (ns := r))
theorem Reps.toInts : ∀ {vs : List V} {ns : List Int}, Reps K N F H vs (ns.map D.int) → vs = ns.map V.int
  | _, [], .nil => rfl
  | _, n :: ns, .cons h t => by cases h; rw [Reps.toInts t]; rfl
theorem sqT_none {a : Addr} {vs : List V} (h : SqT K (fun _ => none) a vs) : SqT K H a vs := by
  rcases h with (h | ⟨o, h⟩) | h
  · cases h
  · cases h
  · exact .inr h
theorem sqL_none {a : Addr} {vs : List V} (h : SqL K (fun _ => none) a vs) : SqL K H a vs := by
  rcases h with (h | ⟨o, h⟩) | h
  · cases h
  · cases h
  · exact .inr h
theorem Rep.sqT {v : V} {ds : List D} (h : Rep K N F H v (.tup ds)) : ∃ a vs, v = .ref a ∧ SqT K H a vs ∧ Reps K N F H vs ds := by
  cases h with
  | tup n h r => exact ⟨_, _, rfl, .inl h, r⟩
  | tupK h r => exact ⟨_, _, rfl, sqT_none h, r⟩
theorem Rep.sqL {v : V} {ds : List D} (h : Rep K N F H v (.lst ds)) : ∃ a vs, v = .ref a ∧ SqL K H a vs ∧ Reps K N F H vs ds := by
  cases h with
  | lst n f h r => exact ⟨_, _, rfl, .inl (.inl h), r⟩
  | lstF n f h r => exact ⟨_, _, rfl, .inl (.inr ⟨_, h⟩), r⟩
  | lstK f h r => exact ⟨_, _, rfl, sqL_none h, r⟩
theorem Rep.of_sqL {a : Addr} {vs : List V} {ds : List D} (h : SqL K H a vs) (n : N a) (f : ∀ o, F o) (r : Reps K N F H vs ds) : Rep K N F H (.ref a) (.lst ds) := by
  rcases h with (h | ⟨o, h⟩) | h
  · exact .lst n (f _) h r
  · exact .lstF n (f _) h r
  · exact .lstK (f _) (.inr h) r
end

structure OwnK where
  ok : PySem.W.Frag → Hp → AP → Hp → Addr → Prop
  ism : ∀ {K : PySem.W.Frag} {H0 : Hp} {N : AP} {H : Hp} {a : Addr}, ok K H0 N H a → IsM (H a)
  mono : ∀ {K : PySem.W.Frag} {H0 : Hp} {N N' : AP} {H H' : Hp} {a : Addr}, (∀ b, N b → H b ≠ none → N' b ∧ H' b = H b) → H' a = H a → ok K H0 N H a → ok K H0 N' H' a
inductive Sl where
  | no | val (d : D) | fre (d : D) | own (ds : List D) | pen (ad : Option Addr) (ns : List Int) | odi (ks : List (List Int)) (vs : List D) | obj (k : OwnK)
def Sl.mut : Sl → Bool
  | .own _ => true
  | .pen _ _ => true
  | .odi _ _ => true
  | .obj _ => true
  | _ => false
def Mo (Z : AP) (σ : St) (S : List Sl) (a : Addr) : Prop := (∃ (i : Nat) (s : Sl), S[i]? = some s ∧ s.mut = true ∧ σ[i]? = some (some (V.ref a))) ∨ Z a
abbrev NM (Z : AP) (σ : St) (S : List Sl) : AP := fun a => ¬Mo Z σ S a
def SlOk (K : PySem.W.Frag) (H0 : Hp) (N : AP) (H : Hp) (o : Option V) : Sl → Prop
  | .no => True
  | .val d => ∃ v, o = some v ∧ Rep K N AnyF H v d
  | .fre d => ∃ v, o = some v ∧ Rep K N (Fr H0) H v d
  | .own ds => ∃ a vs, o = some (.ref a) ∧ H a = some (.lst vs) ∧ H0 a = none ∧ Reps K N (Fr H0) H vs ds
  | .pen ad ns => ∃ a, o = some (.ref a) ∧ (∀ b, ad = some b → a = b) ∧ H a = some (.lst (ns.map .int))
  | .odi ks ds => ∃ a es, o = some (.ref a) ∧ (∃ ob, H a = some (DctO a ob es)) ∧ H0 a = none ∧ (es.map (·.1) = ks ∧ Reps K N AnyF H (es.map fun x => V.ref x.2.1) (ks.map kT)) ∧ Reps K N (Fr H0) H (es.map (·.2.2)) ds
  | .obj k => ∃ a, o = some (.ref a) ∧ H0 a = none ∧ k.ok K H0 N H a
structure OK (K : PySem.W.Frag) (H0 : Hp) (Z : AP) (σ : St) (H : Hp) (S : List Sl) : Prop where
  len : σ.length = S.length
  at_ : ∀ (i : Nat) (o : Option V) (s : Sl), σ[i]? = some o → S[i]? = some s → SlOk K H0 (NM Z σ S) H o s
  inj : ∀ (i j : Nat) (a : Addr) (s t : Sl), S[i]? = some s → S[j]? = some t → s.mut = true → t.mut = true → σ[i]? = some (some (V.ref a)) → σ[j]? = some (some (V.ref a)) → i = j
  dom : ∀ a, H a = none → H0 a = none
  zl : ∀ a, Z a → IsM (H a)
  nz : ∀ (i : Nat) (s : Sl) (a : Addr), S[i]? = some s → s.mut = true → σ[i]? = some (some (V.ref a)) → ¬Z a
def Step (Z : AP) (σ : St) (S : List Sl) (H : Hp) (σ' : St) (S' : List Sl) (H' : Hp) : Prop := (∀ a, NM Z σ S a → H a ≠ none → H' a = H a ∧ NM Z σ' S' a) ∧ (∀ a, H' a = none → H a = none) ∧ ∀ a, Z a → H a ≠ none → H' a = H a
section
variable {K : PySem.W.Frag} {N N' : AP} {F F' : FP} {H H' H'' H0 : Hp} {Z : AP} {σ σ' σ'' : St} {S S' S'' : List Sl}
theorem Step.refl : Step Z σ S H σ S H := ⟨fun _ n _ => ⟨rfl, n⟩, fun _ h => h, fun _ _ _ => rfl⟩
theorem Step.trans (a : Step Z σ S H σ' S' H') (b : Step Z σ' S' H' σ'' S'' H'') : Step Z σ S H σ'' S'' H'' :=
  ⟨fun x n h => by
    obtain ⟨e1, n1⟩ := a.1 x n h
    obtain ⟨e2, n2⟩ := b.1 x n1 (by rw [e1]; exact h)
    exact ⟨e2.trans e1, n2⟩, fun x h => a.2.1 x (b.2.1 x h), fun x z h => by
    have e1 := a.2.2 x z h
    exact (b.2.2 x z (by rw [e1]; exact h)).trans e1⟩
theorem Rep.step {v : V} {d : D} (h : Rep K (NM Z σ S) F H v d) (st : Step Z σ S H σ' S' H') : Rep K (NM Z σ' S') F H' v d := h.mono (fun a n e => ⟨(st.1 a n e).2, (st.1 a n e).1⟩) fun _ x => x
theorem Reps.step {vs : List V} {ds : List D} (h : Reps K (NM Z σ S) F H vs ds) (st : Step Z σ S H σ' S' H') : Reps K (NM Z σ' S') F H' vs ds := h.mono (fun a n e => ⟨(st.1 a n e).2, (st.1 a n e).1⟩) fun _ x => x
theorem OK.mo (k : OK K H0 Z σ H S) {a : Addr} (h : Mo Z σ S a) : IsM (H a) := by
  rcases h with ⟨i, s, e1, e2, e3⟩ | h
  case inr => exact k.zl a h
  have q := k.at_ i _ s e3 e1
  cases s with
  | no => cases e2
  | val d => cases e2
  | fre d => cases e2
  | own ds => obtain ⟨b, vs, h1, h2, _⟩ := q; cases h1; rw [h2]; trivial
  | pen ad ns => obtain ⟨b, h1, _, h2⟩ := q; cases h1; rw [h2]; trivial
  | odi ks ds => obtain ⟨b, kvs, h1, ⟨ob, h2⟩, _⟩ := q; cases h1; rw [h2]; trivial
  | obj k => obtain ⟨b, h1, _, h2⟩ := q; cases h1; exact k.ism h2
theorem OK.grow (k : OK K H0 Z σ H S) (h : ∀ a, H a ≠ none → H' a = H a) : OK K H0 Z σ H' S where
  len := k.len
  inj := k.inj
  nz := k.nz
  zl := fun a z => by
    have e := k.zl a z
    rw [h a e.ne]; exact e
  dom := fun a e => k.dom a (Classical.byContradiction fun z => by rw [h a z] at e; exact z e)
  at_ := fun i o s e1 e2 => by
    have q := k.at_ i o s e1 e2
    have hm : ∀ a, NM Z σ S a → H a ≠ none → NM Z σ S a ∧ H' a = H a := fun a n e => ⟨n, h a e⟩
    cases s with
    | no => trivial
    | val d => obtain ⟨v, e, r⟩ := q; exact ⟨v, e, r.mono hm fun _ x => x⟩
    | fre d => obtain ⟨v, e, r⟩ := q; exact ⟨v, e, r.mono hm fun _ x => x⟩
    | own ds => obtain ⟨a, vs, e, e', e0, r⟩ := q; exact ⟨a, vs, e, by rw [h a (by simp [e'])]; exact e', e0, r.mono hm fun _ x => x⟩
    | pen ad ns => obtain ⟨a, e, e1, e'⟩ := q; exact ⟨a, e, e1, by rw [h a (by simp [e'])]; exact e'⟩
    | odi ks ds => obtain ⟨a, vs, e, ⟨ob, e'⟩, e0, ek, r⟩ := q; exact ⟨a, vs, e, ⟨ob, by rw [h a (by simp [e'])]; exact e'⟩, e0, ⟨ek.1, ek.2.mono hm fun _ x => x⟩, r.mono hm fun _ x => x⟩
    | obj k => obtain ⟨a, e, e0, r⟩ := q; exact ⟨a, e, e0, k.mono hm (h a (k.ism r).ne) r⟩
theorem Step.grow (h : ∀ a, H a ≠ none → H' a = H a) : Step Z σ S H σ S H' := ⟨fun a n e => ⟨h a e, n⟩, fun a e => Classical.byContradiction fun z => by rw [h a z] at e; exact z e, fun a _ e => h a e⟩
theorem upd_grow {p : Addr} {o : HO} (hp : H p = none) : ∀ a, H a ≠ none → upd H p o a = H a := fun a e => upd_ne fun z => e (by rw [z]; exact hp)
end
inductive VR where
  | d (x : D) | own (i : Nat)
def getO : Option Sl → Option D
  | some (.own ds) => some (.lst ds)
  | some (.pen _ ns) => some (.lst (ns.map .int))
  | some (.odi ks vs) => some (.dic ks vs)
  | _ => none
def get (S : List Sl) : VR → Option D
  | .d x => some x
  | .own i => getO S[i]?
def RepR (K : PySem.W.Frag) (F : FP) (Z : AP) (σ : St) (S : List Sl) (H : Hp) (v : V) : VR → Prop
  | .d x => Rep K (NM Z σ S) F H v x
  | .own i => σ[i]? = some (some v)
section
variable {K : PySem.W.Frag} {N N' : AP} {F F' : FP} {H H' H'' H0 : Hp} {Z : AP} {σ σ' σ'' : St} {S S' S'' : List Sl}
theorem RepR.step {v : V} {r : VR} (h : RepR K F Z σ S H v r) (st : Step Z σ S H σ S' H') : RepR K F Z σ S' H' v r := by
  cases r with
  | d x => exact Rep.step h st
  | own i => exact h
theorem RepR.get {v : V} {r : VR} {x : D} (h : RepR K F Z σ S H v r) (k : OK K H0 Z σ H S) (e : get S r = some x) : Rep K Any AnyF H v x := by
  cases r with
  | d y => cases e; exact Rep.any h
  | own i =>
    have h : σ[i]? = some (some v) := h
    have e : getO S[i]? = some x := e
    cases es : S[i]? with
    | none => rw [es] at e; cases e
    | some s =>
      rw [es] at e
      cases s with
      | no => cases e
      | val d => cases e
      | fre d => cases e
      | own ds =>
        cases e
        obtain ⟨a, vs, h1, h2, h3, h4⟩ := k.at_ i _ _ h es
        cases h1
        exact .lst trivial trivial h2 h4.any
      | pen ad ns =>
        cases e
        obtain ⟨a, h1, _, h2⟩ := k.at_ i _ _ h es
        cases h1
        exact .lst trivial trivial h2 Reps.ints
      | odi ks ds =>
        cases e
        obtain ⟨a, kvs, h1, ⟨ob, h2⟩, h3, h4, h5⟩ := k.at_ i _ _ h es
        cases h1
        exact .dic trivial trivial h2 h4.1 h4.2.any h5.any
      | obj k => cases e
end
abbrev VT := List Sl → (VR → List Sl → Prop) → Prop
abbrev VTT := List Sl → (Bool → List Sl → Prop) → Prop
abbrev VTA := List Sl → (List VR → List Sl → Prop) → Prop
abbrev VTN := List Sl → (List D → List Sl → Prop) → Prop
def FM (H0 : Hp) (m : Bool) : FP := fun o => m = true → Fr H0 o
def SndE (K : PySem.W.Frag) (m : Bool) (te : TE) (t : VT) : Prop := ∀ H0 Z σ H S Q C, OK K H0 Z σ H S → t S Q → (∀ v H' r S', OK K H0 Z σ H' S' → Step Z σ S H σ S' H' → RepR K (FM H0 m) Z σ S' H' v r → Q r S' → C v H') → te σ H C
def SndT (K : PySem.W.Frag) (te : TT) (t : VTT) : Prop := ∀ H0 Z σ H S Q C, OK K H0 Z σ H S → t S Q → (∀ b H' S', OK K H0 Z σ H' S' → Step Z σ S H σ S' H' → Q b S' → C b H') → te σ H C
inductive RepRs (K : PySem.W.Frag) (F : FP) (Z : AP) (σ : St) (S : List Sl) (H : Hp) : List V → List VR → Prop where
  | nil : RepRs K F Z σ S H [] []
  | cons {v : V} {r : VR} {vs : List V} {rs : List VR} (h : RepR K F Z σ S H v r) (t : RepRs K F Z σ S H vs rs) : RepRs K F Z σ S H (v :: vs) (r :: rs)
def gets (S : List Sl) : List VR → Option (List D)
  | [] => some []
  | r :: rs => match get S r, gets S rs with
    | some d, some ds => some (d :: ds)
    | _, _ => none
def SndA (K : PySem.W.Frag) (m : Bool) (te : TA) (t : VTA) : Prop := ∀ H0 Z σ H S Q C, OK K H0 Z σ H S → t S Q → (∀ vs H' rs S', OK K H0 Z σ H' S' → Step Z σ S H σ S' H' → RepRs K (FM H0 m) Z σ S' H' vs rs → Q rs S' → C vs H') → te σ H C
def SndN (K : PySem.W.Frag) (te : TE) (t : VTN) : Prop := ∀ H0 Z σ H S Q C, OK K H0 Z σ H S → t S Q → (∀ a vs ds H1 H' S', OK K H0 Z σ H1 S' → Step Z σ S H σ S' H1 → H1 a = none → (∀ b, H1 b ≠ none → H' b = H1 b) → H' a = some (.lst vs) →
  Reps K (fun b => NM Z σ S' b ∧ b ≠ a) (Fr H0) H' vs ds → Q ds S' → C (.ref a) H') → te σ H C
structure VE (K : PySem.W.Frag) (X : Cx) (m : Bool) (e : Expr) (te : TE) (t : VT) : Prop where
  pe : PE X e te
  snd : SndE K m te t
structure VTe (K : PySem.W.Frag) (X : Cx) (e : Expr) (te : TT) (t : VTT) : Prop where
  pe : PT X e te
  snd : SndT K te t
structure VWe (K : PySem.W.Frag) (X : Cx) (e : Expr) (te : TT) (t : VTT) : Prop where
  pe : PW X e te
  snd : SndT K te t
structure VA (K : PySem.W.Frag) (X : Cx) (m : Bool) (es : List Expr) (te : TA) (t : VTA) : Prop where
  pe : PA X es te
  snd : SndA K m te t
structure VN (K : PySem.W.Frag) (X : Cx) (e : Expr) (te : TE) (t : VTN) : Prop where
  pe : PE X e te
  snd : SndN K te t
section
variable {K : PySem.W.Frag} {N N' : AP} {F F' : FP} {H H' H'' H0 : Hp} {Z : AP} {σ σ' σ'' : St} {S S' S'' : List Sl}
theorem RepRs.gets {vs : List V} {rs : List VR} {ds : List D} (h : RepRs K F Z σ S H vs rs) (k : OK K H0 Z σ H S) (e : gets S rs = some ds) : Reps K Any AnyF H vs ds := by
  induction h generalizing ds with
  | nil => cases e; exact .nil
  | cons h t ih =>
    unfold VL.gets at e
    split at e
    · rename_i d es h1 h2
      cases e
      exact .cons (h.get k h1) (ih h2)
    · cases e
end
end VL
end
section
set_option maxHeartbeats 4000000
namespace VL
open PySem L2
section
variable {K : PySem.W.Frag} {X : Cx} {m : Bool} {e a b c : Expr} {ta tb tc te : TE} {va vb vc : VT} {pos : Pos}
theorem FM.any {H0 : Hp} {a : Option Addr} : FM H0 false a := fun z => nomatch z
def vC (d : D) : VT := fun S Q => Q (.d d) S
theorem ve_int {i j} : VE K X m (.Constant (.int i) j pos) (tC (.int i)) (vC (.int i)) := ⟨pe_int, fun _ _ _ _ _ _ _ k h q => q _ _ (.d (.int i)) _ k .refl (Rep.int i) h⟩
theorem ve_bl {i j} : VE K X m (.Constant (.bool i) j pos) (tC (.bl i)) (vC (.bl i)) := ⟨pe_bl, fun _ _ _ _ _ _ _ k h q => q _ _ (.d (.bl i)) _ k .refl (Rep.bl i) h⟩
theorem ve_non {j} : VE K X m (.Constant .none j pos) (tC .non) (vC .non) := ⟨pe_non, fun _ _ _ _ _ _ _ k h q => q _ _ (.d .non) _ k .refl Rep.non h⟩
theorem ve_pe {v : V} {d : D} (h : PE X e (tC v)) (r : ∀ N H, Rep K N AnyF H v d) : VE K X false e (tC v) (vC d) := ⟨h, fun _ _ _ _ _ _ _ k h q => q _ _ (.d d) _ k .refl (show Rep K _ _ _ v d from (r _ _).mono (fun _ n _ => ⟨n, rfl⟩) (fun _ _ => FM.any)) h⟩
def rdO (i : Nat) : Option Sl → Option VR
  | some (.val d) => some (.d d)
  | some (.fre d) => some (.d d)
  | some (.own _) => some (.own i)
  | some (.pen _ _) => some (.own i)
  | some (.odi _ _) => some (.own i)
  | some (.obj _) => some (.own i)
  | _ => none
def vVar (i : Nat) : VT := fun S Q => ∃ r, rdO i S[i]? = some r ∧ Q r S
theorem OK.var {H0 H : Hp} {Z : AP} {σ : St} {S : List Sl} (k : OK K H0 Z σ H S) {i : Nat} {r : VR} (h : rdO i S[i]? = some r) : ∃ v, σ[i]? = some (some v) ∧ RepR K (FM H0 false) Z σ S H v r := by
  have hl := k.len
  cases es : S[i]? with
  | none => rw [es] at h; cases h
  | some s =>
    have hi : i < σ.length := by rw [hl]; exact (List.getElem?_eq_some_iff.mp es).1
    have q := k.at_ i _ s (List.getElem?_eq_getElem hi) es
    rw [es] at h
    cases s with
    | no => cases h
    | val d => obtain ⟨v, e, r'⟩ := q; cases h; exact ⟨v, by rw [List.getElem?_eq_getElem hi, e], r'.mono (fun _ n _ => ⟨n, rfl⟩) fun _ _ => FM.any⟩
    | fre d => obtain ⟨v, e, r'⟩ := q; cases h; exact ⟨v, by rw [List.getElem?_eq_getElem hi, e], r'.mono (fun _ n _ => ⟨n, rfl⟩) fun _ x _ => x⟩
    | own ds => obtain ⟨a, vs, e, _⟩ := q; cases h; exact ⟨.ref a, by rw [List.getElem?_eq_getElem hi, e], by show σ[i]? = _; rw [List.getElem?_eq_getElem hi, e]⟩
    | pen ad ds => obtain ⟨a, e, _⟩ := q; cases h; exact ⟨.ref a, by rw [List.getElem?_eq_getElem hi, e], by show σ[i]? = _; rw [List.getElem?_eq_getElem hi, e]⟩
    | odi ks ds => obtain ⟨a, _, e, _⟩ := q; cases h; exact ⟨.ref a, by rw [List.getElem?_eq_getElem hi, e], by show σ[i]? = _; rw [List.getElem?_eq_getElem hi, e]⟩
    | obj k => obtain ⟨a, e, _⟩ := q; cases h; exact ⟨.ref a, by rw [List.getElem?_eq_getElem hi, e], by show σ[i]? = _; rw [List.getElem?_eq_getElem hi, e]⟩
theorem ve_var (i : Nat) (h : PE X e (tVar i)) : VE K X false e (tVar i) (vVar i) := ⟨h, fun H0 Z σ H S Q C k zq1 hc => by
  obtain ⟨r, h, q⟩ := zq1
  obtain ⟨v, e, rr⟩ := k.var h
  exact ⟨v, e, hc _ _ _ _ k .refl rr q⟩⟩
def vFlat (t : VT) : VT := fun S Q => t S fun r S' => (match r with | .d d => flat d = true | .own _ => True) ∧ Q r S'
theorem ve_flat (h : VE K X false e te va) : VE K X m e te (vFlat va) := ⟨h.pe, fun H0 Z σ H S Q C k t hc => h.snd H0 Z σ H S _ C k t fun v H' r S' k' st rr ⟨f, q⟩ => hc v H' r S' k' st (by
  cases r with
  | d x => exact Rep.flat rr f
  | own i => exact rr) q⟩
def v2 (w : D → D → (D → Prop) → Prop) (va vb : VT) : VT := fun S Q => va S fun ra S1 => vb S1 fun rb S2 => ∃ d1 d2, get S2 ra = some d1 ∧ get S2 rb = some d2 ∧ w d1 d2 fun d => Q (.d d) S2
def Lift2 (K : PySem.W.Frag) (r : R2) (w : D → D → (D → Prop) → Prop) : Prop := ∀ (x y : V) (H : Hp) (d1 d2 : D) (q : D → Prop) (C : VK), Rep K Any AnyF H x d1 → Rep K Any AnyF H y d2 → w d1 d2 q → (∀ z dz, q dz → (∀ N F, Rep K N F H z dz) → C z H) → r x y H C
theorem snd2 {r : R2} {w : D → D → (D → Prop) → Prop} (L : Lift2 K r w) (ha : SndE K false ta va) (hb : SndE K false tb vb) : SndE K m (tOp r ta tb) (v2 w va vb) := by
  intro H0 Z σ H S Q C k t hc
  refine ha H0 Z σ H S _ _ k t fun x H1 ra S1 k1 st1 r1 t1 => ?_
  refine hb H0 Z σ H1 S1 _ _ k1 t1 fun y H2 rb S2 k2 st2 r2 ⟨d1, d2, e1, e2, t2⟩ => ?_
  exact L x y H2 d1 d2 _ _ ((r1.step st2).get k2 e1) (r2.get k2 e2) t2 fun z dz q rz => hc z H2 (.d dz) S2 k2 (st1.trans st2) (rz _ _) q
theorem ve_op {op : Operator} {r : R2} {w : D → D → (D → Prop) → Prop} (ho : OpR X (binaryOp op) r) (L : Lift2 K r w) (ha : VE K X false a ta va) (hb : VE K X false b tb vb) : VE K X m (.BinOp a op b pos) (tOp r ta tb) (v2 w va vb) := ⟨pe_op ho ha.pe hb.pe, snd2 L ha.snd hb.snd⟩
@[reducible] def ofV : V → D
  | .int i => .int i
  | .bl b => .bl b
  | .str x => .str x
  | .ty x => .ty x
  | _ => .non
def scV : V → Bool
  | .int _ => true | .bl _ => true | .str _ => true | .non => true | .ty _ => true | _ => false
theorem rep_sc {v : V} (h : scV v = true) {N : AP} {F : FP} {H : Hp} : Rep K N F H v (ofV v) := by
  cases v <;> first | exact .int _ | exact .bl _ | exact .str _ | exact .non | exact .ty _ | cases h
def wI (C : Int → Int → Prop) (g : Int → Int → V) : D → D → (D → Prop) → Prop := fun d1 d2 q => ∃ i j, d1 = .int i ∧ d2 = .int j ∧ C i j ∧ q (ofV (g i j))
def wI0 (g : Int → Int → V) : D → D → (D → Prop) → Prop := fun d1 d2 q => ∃ i j, d1 = .int i ∧ d2 = .int j ∧ q (ofV (g i j))
theorem l_rI {C : Int → Int → Prop} {g : Int → Int → V} (hg : ∀ i j, scV (g i j) = true := by intro _ _; rfl) : Lift2 K (rI C g) (wI C g) := by
  rintro x y H d1 d2 q Cc r1 r2 ⟨i, j, rfl, rfl, c, h⟩ hc
  cases r1; cases r2
  exact ⟨i, j, rfl, rfl, c, hc _ _ h fun _ _ => rep_sc (hg i j)⟩
theorem l_rI0 {g : Int → Int → V} (hg : ∀ i j, scV (g i j) = true := by intro _ _; rfl) : Lift2 K (rI0 g) (wI0 g) := by
  rintro x y H d1 d2 q Cc r1 r2 ⟨i, j, rfl, rfl, h⟩ hc
  cases r1; cases r2
  exact ⟨i, j, rfl, rfl, hc _ _ h fun _ _ => rep_sc (hg i j)⟩
def toV : D → Option V
  | .int i => some (.int i)
  | .bl b => some (.bl b)
  | .str x => some (.str x)
  | .non => some .non
  | _ => none
theorem rep_toV {v : V} {d : D} {u : V} {N : AP} {F : FP} {H : Hp} (h : Rep K N F H v d) (e : toV d = some u) : v = u := by
  cases h <;> cases e <;> rfl
def wEq : D → D → (D → Prop) → Prop := fun d1 d2 q => ∃ x y, toV d1 = some x ∧ toV d2 = some y ∧ scal x y = true ∧ q (.bl (decide (x = y)))
def wNe : D → D → (D → Prop) → Prop := fun d1 d2 q => ∃ x y, toV d1 = some x ∧ toV d2 = some y ∧ scal x y = true ∧ q (.bl (!decide (x = y)))
theorem l_eq : Lift2 K rEq wEq := by
  rintro x y H d1 d2 q C r1 r2 ⟨x', y', e1, e2, s, h⟩ hc
  obtain rfl := rep_toV r1 e1
  obtain rfl := rep_toV r2 e2
  exact ⟨s, hc _ _ h fun _ _ => .bl _⟩
theorem l_ne : Lift2 K rNe wNe := by
  rintro x y H d1 d2 q C r1 r2 ⟨x', y', e1, e2, s, h⟩ hc
  obtain rfl := rep_toV r1 e1
  obtain rfl := rep_toV r2 e2
  exact ⟨s, hc _ _ h fun _ _ => .bl _⟩
def isNo : D → Bool
  | .non => true
  | _ => false
theorem rep_isNo {v : V} {d : D} {N : AP} {F : FP} {H : Hp} (h : Rep K N F H v d) : decide (v = .non) = isNo d := by cases h <;> rfl
def wIsN (neg : Bool) : D → D → (D → Prop) → Prop := fun d1 d2 q => d2 = .non ∧ q (.bl (if neg then !isNo d1 else isNo d1))
theorem l_isN : Lift2 K (fun x y H Q => y = .non ∧ Q (.bl (decide (x = .non))) H) (wIsN false) := by
  rintro x y H d1 d2 q C r1 r2 ⟨rfl, h⟩ hc
  cases r2
  exact ⟨rfl, by rw [rep_isNo r1]; exact hc _ _ h fun _ _ => .bl _⟩
def vTest (t : VT) : VTT := fun S Q => t S fun r S' => ∃ k, r = .d (.bl k) ∧ Q k S'
theorem sndTest (h : SndE K m te va) : SndT K (tTest te) (vTest va) := fun H0 Z σ H S Q C k t hc => h H0 Z σ H S _ _ k t fun v H' r S' k' st rr zq1 => by
  obtain ⟨b, e, q⟩ := zq1
  subst e
  cases (show Rep K _ _ H' v (.bl b) from rr)
  exact ⟨b, rfl, hc b H' S' k' st q⟩
theorem sndB (h : SndE K m te va) : SndT K (tB te) (vTest va) := fun H0 Z σ H S Q C k t hc => h H0 Z σ H S _ _ k t fun v H' r S' k' st rr zq1 => by
  obtain ⟨b, e, q⟩ := zq1
  subst e
  cases (show Rep K _ _ H' v (.bl b) from rr)
  exact ⟨b, rfl, hc b H' S' k' st q⟩
theorem vt_cmp {op : CmpOp} {r : R2} {w : D → D → (D → Prop) → Prop} (ho : OpR X (compareOp op) r) (L : Lift2 K r w) (ha : VE K X false a ta va) (hb : VE K X false b tb vb) (hm : behindInMarks op b = false) : VTe K X (.Compare a [op] [b] pos) (tTest (tOp r ta tb)) (vTest (v2 w va vb)) :=
  ⟨pt_cmpR ho ha.pe hb.pe hm, sndTest (m := false) (snd2 L ha.snd hb.snd)⟩
theorem ve_cmp {op : CmpOp} {r : R2} {w : D → D → (D → Prop) → Prop} (ho : OpR X (compareOp op) r) (L : Lift2 K r w) (ha : VE K X false a ta va) (hb : VE K X false b tb vb) (hm : behindInMarks op b = false) : VE K X m (.Compare a [op] [b] pos) (tOp r ta tb) (v2 w va vb) :=
  ⟨pe_cmpR ho ha.pe hb.pe hm, snd2 L ha.snd hb.snd⟩
theorem vt_val (h : VE K X false e te va) (he : ∀ whole, isTrue e X.env whole = (do let v ← whole; standAt e.pos; holding [v] (truthy v)) := by intro _; rfl) : VTe K X e (tB te) (vTest va) := ⟨pt_val h.pe he, sndB h.snd⟩
def tru : D → Option Bool
  | .bl b => some b
  | .int i => some (i != 0)
  | .non => some false
  | .lst ds => some !ds.isEmpty
  | .tup ds => some !ds.isEmpty
  | _ => none
section
variable {tA tB' : TT} {wA wB : VTT} {rest : List Expr}
def vOr (t u : VTT) : VTT := fun S Q => t S fun c S1 => if c = true then Q true S1 else u S1 Q
def vNot (t : VTT) : VTT := fun S Q => t S fun c S1 => Q (!c) S1
theorem vw_or1 (h : VTe K X a tA wA) : VWe K X (.BoolOp .Or [a] pos) tA wA := ⟨pw_or1 h.pe, h.snd⟩
theorem vw_or (ha : VTe K X a tA wA) (hb : VWe K X (.BoolOp .Or (b :: rest) pos) tB' wB) : VWe K X (.BoolOp .Or (a :: b :: rest) pos) (tOr tA tB') (vOr wA wB) := ⟨pw_or ha.pe hb.pe, fun H0 Z σ H S Q C k t hc =>
  ha.snd H0 Z σ H S _ _ k t fun c H1 S1 k1 st1 q => by
    cases c with
    | false => rw [if_neg Bool.false_ne_true] at q ⊢; exact hb.snd H0 Z σ H1 S1 _ _ k1 q fun c2 H2 S2 k2 st2 q2 => hc c2 H2 S2 k2 (st1.trans st2) q2
    | true => rw [if_pos rfl] at q ⊢; exact hc true H1 S1 k1 st1 q⟩
theorem vw_pt (h : VWe K X e tA wA) : VTe K X e tA wA := ⟨h.pe.pt, h.snd⟩
theorem vt_not (h : VTe K X a tA wA) : VTe K X (.UnaryOp .Not a pos) (tNot tA) (vNot wA) := ⟨pt_not h.pe, fun H0 Z σ H S Q C k t hc => h.snd H0 Z σ H S _ _ k t fun c H1 S1 k1 st1 q => hc (!c) H1 S1 k1 st1 q⟩
def vOrV (ta tb : VT) : VT := fun S Q => ta S fun r S1 => ∃ c, r = .d (.bl c) ∧ if c = true then Q (.d (.bl true)) S1 else tb S1 Q
theorem ve_one {op} (h : VE K X m a ta va) : VE K X m (.BoolOp op [a] pos) ta va := ⟨pe_one h.pe, h.snd⟩
theorem ve_or (ha : VE K X m a ta va) (hb : VE K X m (.BoolOp .Or (b :: rest) pos) tb vb) : VE K X m (.BoolOp .Or (a :: b :: rest) pos) (tOrV ta tb) (vOrV va vb) := ⟨pe_or ha.pe hb.pe, fun H0 Z σ H S Q C k t hc =>
  ha.snd H0 Z σ H S _ _ k t fun v H1 r S1 k1 st1 rr zq1 => by
    obtain ⟨c, e, q⟩ := zq1
    subst e
    cases (show Rep K _ _ H1 v (.bl c) from rr)
    refine ⟨c, rfl, ?_⟩
    cases c with
    | false => rw [if_neg Bool.false_ne_true] at q ⊢; exact hb.snd H0 Z σ H1 S1 _ _ k1 q fun v2 H2 r2 S2 k2 st2 rr2 q2 => hc v2 H2 r2 S2 k2 (st1.trans st2) rr2 q2
    | true => rw [if_pos rfl] at q ⊢; exact hc _ H1 (.d (.bl true)) S1 k1 st1 (Rep.bl true) q⟩
def vIf (t : VTT) (ta tb : VT) : VT := fun S Q => t S fun c S1 => if c = true then ta S1 Q else tb S1 Q
theorem ve_ifExp (hc : VTe K X c tA wA) (ha : VE K X m a ta va) (hb : VE K X m b tb vb) : VE K X m (.IfExp c a b pos) (tIf tA ta tb) (vIf wA va vb) := ⟨pe_ifExp hc.pe ha.pe hb.pe, fun H0 Z σ H S Q C k t hq =>
  hc.snd H0 Z σ H S _ _ k t fun c H1 S1 k1 st1 q => by
    cases c with
    | true => rw [if_pos rfl] at q ⊢; exact ha.snd H0 Z σ H1 S1 _ _ k1 q fun v2 H2 r2 S2 k2 st2 rr2 q2 => hq v2 H2 r2 S2 k2 (st1.trans st2) rr2 q2
    | false => rw [if_neg Bool.false_ne_true] at q ⊢; exact hb.snd H0 Z σ H1 S1 _ _ k1 q fun v2 H2 r2 S2 k2 st2 rr2 q2 => hq v2 H2 r2 S2 k2 (st1.trans st2) rr2 q2⟩
end
def vUn (g : Int → V) (va : VT) : VT := fun S Q => va S fun r S1 => ∃ i, get S1 r = some (.int i) ∧ Q (.d (ofV (g i))) S1
theorem ve_un {op : UnaryOp} {g : Int → V} (ho : UnR X (unaryOp op) (rU g)) (ha : VE K X false a ta va) (hg : ∀ i, scV (g i) = true := by intro _; rfl) : VE K X m (.UnaryOp op a pos) (tUn (rU g) ta) (vUn g va) := ⟨pe_un ho ha.pe, fun H0 Z σ H S Q C k t hc =>
  ha.snd H0 Z σ H S _ _ k t fun v H1 r S1 k1 st1 rr zq1 => by
    obtain ⟨i, e, q⟩ := zq1
    cases rr.get k1 e
    exact ⟨i, rfl, hc _ H1 (.d (ofV (g i))) S1 k1 st1 (rep_sc (hg i)) q⟩⟩
section
variable {es : List Expr} {tr : TA} {vr : VTA}
def vNil : VTA := fun S Q => Q [] S
def vCons (va : VT) (vr : VTA) : VTA := fun S Q => va S fun r S1 => vr S1 fun rs S2 => Q (r :: rs) S2
theorem va_nil : VA K X m [] tNil vNil := ⟨pa_nil, fun _ _ _ _ _ _ _ k h q => q _ _ _ _ k .refl .nil h⟩
theorem va_cons (ha : VE K X m e te va) (hr : VA K X m es tr vr) (hs : starEach (e :: es) X.env = (false, eval e X.env) :: starEach es X.env := by rfl) : VA K X m (e :: es) (tCons te tr) (vCons va vr) := ⟨pa_cons ha.pe hr.pe hs, fun H0 Z σ H S Q C k t hc =>
  ha.snd H0 Z σ H S _ _ k t fun v H1 r S1 k1 st1 rr q => hr.snd H0 Z σ H1 S1 _ _ k1 q fun vs H2 rs S2 k2 st2 rrs q2 => hc (v :: vs) H2 (r :: rs) S2 k2 (st1.trans st2) (.cons (rr.step st2) rrs) q2⟩
def allD : List VR → Option (List D)
  | [] => some []
  | .d x :: r => (allD r).map (x :: ·)
  | _ :: _ => none
theorem RepRs.allD {F : FP} {Z : AP} {σ : St} {S : List Sl} {H : Hp} {vs : List V} {rs : List VR} {ds : List D} (h : RepRs K F Z σ S H vs rs) (e : VL.allD rs = some ds) : Reps K (NM Z σ S) F H vs ds := by
  induction h generalizing ds with
  | nil => cases e; exact .nil
  | @cons v r vs rs h t ih =>
    cases r with
    | d x =>
      obtain ⟨es, h1, rfl⟩ := Option.map_eq_some_iff.mp (show (VL.allD rs).map (x :: ·) = some ds from e)
      exact .cons h (ih h1)
    | own i => cases e
theorem RepRs.length {F : FP} {Z : AP} {σ : St} {S : List Sl} {H : Hp} {vs : List V} {rs : List VR} (h : RepRs K F Z σ S H vs rs) : vs.length = rs.length := by
  induction h with
  | nil => rfl
  | cons h t ih => simp [ih]
theorem allD_length : ∀ {rs : List VR} {ds : List D}, allD rs = some ds → ds.length = rs.length
  | [], _, e => by cases e; rfl
  | .d x :: r, ds, e => by
    obtain ⟨es, h1, rfl⟩ := Option.map_eq_some_iff.mp (show (VL.allD r).map (x :: ·) = some ds from e)
    simp [allD_length h1]
  | .own _ :: _, _, e => by cases e
def vTup (vr : VTA) : VT := fun S Q => vr S fun rs S1 => ∃ ds, allD rs = some ds ∧ ds.length ≤ 1000 ∧ Q (.d (.tup ds)) S1
theorem small {n : Nat} (h : n ≤ 1000) : n ≤ sizeLine := by rw [sizeLine_eq]; lia
theorem OK.nm {H0 H : Hp} {Z : AP} {σ : St} {S : List Sl} (k : OK K H0 Z σ H S) {p : Addr} (hp : H p = none) : NM Z σ S p := fun z => by
  have e := k.mo z
  rw [hp] at e; exact e
theorem ve_tup {x1} (h : VA K X m es tr vr) : VE K X m (.Tuple es x1 pos) (tTup tr) (vTup vr) := ⟨pe_tup h.pe, fun H0 Z σ H S Q C k t hc =>
  h.snd H0 Z σ H S _ _ k t fun vs H1 rs S1 k1 st1 rrs ⟨ds, e, hl, q⟩ => ⟨small (by rw [rrs.length, ← allD_length e]; exact hl), fun p hp => by
    have g := upd_grow (o := .tup vs) hp
    exact hc _ _ (.d (.tup ds)) S1 (k1.grow g) (st1.trans (.grow g)) (Rep.tup (k1.nm hp) (.inl upd_same) ((rrs.allD e).mono (fun a n e => ⟨n, g a e⟩) fun _ x => x)) q⟩⟩
def vLst (vr : VTA) : VTN := fun S Q => vr S fun rs S1 => ∃ ds, allD rs = some ds ∧ ds.length ≤ 1000 ∧ Q ds S1
theorem reps_new {H0 H : Hp} {Z : AP} {σ : St} {S : List Sl} {p : Addr} {vs : List V} {ds : List D} {o : HO} (hp : H p = none) (h : Reps K (NM Z σ S) (FM H0 true) H vs ds) : Reps K (fun b => NM Z σ S b ∧ b ≠ p) (Fr H0) (upd H p o) vs ds :=
  h.mono (fun a n e => ⟨⟨n, fun z => e (by rw [z]; exact hp)⟩, upd_grow hp a e⟩) fun _ x => x rfl
theorem vn_lst (h : VA K X true es tr vr) : VN K X (.List es pos) (tLst tr) (vLst vr) := ⟨pe_lst h.pe, fun H0 Z σ H S Q C k t hc =>
  h.snd H0 Z σ H S _ _ k t fun vs H1 rs S1 k1 st1 rrs ⟨ds, e, hl, q⟩ => ⟨small (by rw [rrs.length, ← allD_length e]; exact hl), fun p hp =>
    hc p vs ds H1 _ S1 k1 st1 hp (upd_grow hp) upd_same (reps_new hp (rrs.allD e)) q⟩⟩
def vNew (t : VTN) : VT := fun S Q => t S fun ds S1 => Q (.d (.lst ds)) S1
theorem ve_new {t : VTN} (h : VN K X e te t) : VE K X m e te (vNew t) := ⟨h.pe, fun H0 Z σ H S Q C k t hc => h.snd H0 Z σ H S _ _ k t fun a vs ds H1 H' S1 k1 st1 ha hg hl rr q => by
  refine hc _ H' (.d (.lst ds)) S1 (k1.grow hg) (st1.trans (.grow hg)) (Rep.lst (k1.nm ha) (fun _ => ⟨a, rfl, k1.dom a ha⟩) hl (rr.mono (fun b n e => ⟨n.1, rfl⟩) fun _ x _ => x)) q⟩
end
theorem RepR.elems {H0 H : Hp} {Z : AP} {σ : St} {S : List Sl} {F : FP} {v : V} {r : VR} {ds : List D} (h : RepR K F Z σ S H v r) (k : OK K H0 Z σ H S) (e : VL.get S r = some (.lst ds)) : ∃ a vs, v = .ref a ∧ SqL K H a vs ∧ Reps K (NM Z σ S) AnyF H vs ds := by
  cases r with
  | d y =>
    cases e
    obtain ⟨a, vs, rfl, hq, rr⟩ := Rep.sqL h
    exact ⟨a, vs, rfl, hq, rr.mono (fun _ n _ => ⟨n, rfl⟩) fun _ _ => trivial⟩
  | own i =>
    have h : σ[i]? = some (some v) := h
    have e : getO S[i]? = some (.lst ds) := e
    cases es : S[i]? with
    | none => rw [es] at e; cases e
    | some s =>
      rw [es] at e
      cases s with
      | no => cases e
      | val d => cases e
      | fre d => cases e
      | own ds =>
        cases e
        obtain ⟨a, vs, h1, h2, h3, h4⟩ := k.at_ i _ _ h es
        cases h1
        exact ⟨a, vs, rfl, .inl (.inl h2), h4.mono (fun _ n _ => ⟨n, rfl⟩) fun _ _ => trivial⟩
      | pen ad ns =>
        cases e
        obtain ⟨a, h1, _, h2⟩ := k.at_ i _ _ h es
        cases h1
        exact ⟨a, _, rfl, .inl (.inl h2), Reps.ints⟩
      | odi ks ds => cases e
      | obj k => cases e
theorem RepR.elemsT {H0 H : Hp} {Z : AP} {σ : St} {S : List Sl} {F : FP} {v : V} {r : VR} {ds : List D} (h : RepR K F Z σ S H v r) (k : OK K H0 Z σ H S) (e : VL.get S r = some (.tup ds)) : ∃ a vs, v = .ref a ∧ SqT K H a vs ∧ Reps K (NM Z σ S) AnyF H vs ds := by
  cases r with
  | d y =>
    cases e
    cases (show Rep K (NM Z σ S) F H v (.tup ds) from h) with
    | tup n h2 r2 => exact ⟨_, _, rfl, .inl h2, r2.mono (fun _ n _ => ⟨n, rfl⟩) fun _ _ => trivial⟩
    | tupK h2 r2 => exact ⟨_, _, rfl, sqT_none h2, r2.mono (fun _ n _ => ⟨n, rfl⟩) fun _ _ => trivial⟩
  | own i =>
    have e : getO S[i]? = some (.tup ds) := e
    cases es : S[i]? with
    | none => rw [es] at e; cases e
    | some s => rw [es] at e; cases s <;> cases e
end
end VL
end
section
set_option maxHeartbeats 4000000
namespace VL
open PySem L2
section
variable {K : PySem.W.Frag} {X : Cx} {m : Bool} {e a b c : Expr} {ta tb tc te : TE} {va vb vc : VT} {pos : Pos}
theorem atI_reps {N : AP} {F : FP} {H : Hp} {vs : List V} {ds : List D} {i : Int} {d : D} (r : Reps K N F H vs ds) (h : atI ds i = some d) : ∃ v, atI vs i = some v ∧ Rep K N F H v d := by
  unfold atI at h ⊢
  rw [r.length]
  cases e : ixN ds.length i with
  | none => rw [e] at h; cases h
  | some j =>
    rw [e] at h
    exact r.getD h
def vIx (va vb : VT) : VT := fun S Q => va S fun ra S1 => vb S1 fun rb S2 => ∃ ds i d, (get S2 ra = some (.lst ds) ∨ get S2 ra = some (.tup ds)) ∧ get S2 rb = some (.int i) ∧ atI ds i = some d ∧ Q (.d d) S2
theorem ve_ix (hK : X.K = K) (ha : VE K X false a ta va) (hb : VE K X false b tb vb) (hs : PlainIx b) : VE K X false (.Subscript a b pos) (tOp (rIx K) ta tb) (vIx va vb) := ⟨by subst hK; exact pe_ix ix_seq ha.pe hb.pe hs, fun H0 Z σ H S Q C k t hc =>
  ha.snd H0 Z σ H S _ _ k t fun x H1 ra S1 k1 st1 r1 t1 => hb.snd H0 Z σ H1 S1 _ _ k1 t1 fun y H2 rb S2 k2 st2 r2 zq1 => by
    obtain ⟨ds, i, d, e1, e2, e3, q⟩ := zq1
    cases r2.get k2 e2
    have fin : ∀ v, Rep K (NM Z σ S2) AnyF H2 v d → C v H2 := fun v rv => hc v H2 (.d d) S2 k2 (st1.trans st2) (show Rep K _ _ H2 v d from rv.mono (fun _ n _ => ⟨n, rfl⟩) fun _ _ => FM.any) q
    rcases e1 with e1 | e1
    · obtain ⟨p, vs, rfl, hq, rr⟩ := (r1.step st2).elems k2 e1
      obtain ⟨v, h1, h2⟩ := atI_reps rr e3
      exact .inl ⟨p, vs, i, v, rfl, rfl, hq, h1, fin v h2⟩
    · obtain ⟨p, vs, rfl, hq, rr⟩ := (r1.step st2).elemsT k2 e1
      obtain ⟨v, h1, h2⟩ := atI_reps rr e3
      exact .inr (.inl ⟨p, vs, i, v, rfl, rfl, hq, h1, fin v h2⟩)⟩
section
variable {es : List Expr} {tr : TA} {vr : VTA} {x : Str} {p : Pos} {id T : String} {r : List V → Hp → VK → Prop}
def vCB (w : List D → (D → Prop) → Prop) (vr : VTA) : VT := fun S Q => vr S fun rs S1 => ∃ ds, gets S1 rs = some ds ∧ w ds fun d => Q (.d d) S1
def LiftC (K : PySem.W.Frag) (r : List V → Hp → VK → Prop) (w : List D → (D → Prop) → Prop) : Prop := ∀ (xs : List V) (H : Hp) (ds : List D) (q : D → Prop) (C : VK), Reps K Any AnyF H xs ds → w ds q → (∀ z dz, q dz → (∀ N F, Rep K N F H z dz) → C z H) → r xs H C
theorem sndC {w : List D → (D → Prop) → Prop} (L : LiftC K r w) (ha : SndA K false tr vr) : SndE K m (tCB r tr) (vCB w vr) := fun H0 Z σ H S Q C k t hc =>
  ha H0 Z σ H S _ _ k t fun vs H1 rs S1 k1 st1 rrs ⟨ds, e, q⟩ => L vs H1 ds _ _ (rrs.gets k1 e) q fun z dz q rz => hc z H1 (.d dz) S1 k1 st1 (rz _ _) q
theorem ve_callB {w : List D → (D → Prop) → Prop} (hc : CallR X (.builtin id) r) (L : LiftC K r w) (hg : Gl X x) (hm : X.mg x = none) (hv : bootBuiltins x = some (.builtin id)) (ha : VA K X false (e :: es) tr vr) (hn : x ≠ "__name__" := by decide) (hdb : (x == ("__debug__" : Str)) = false := by decide)
    (he : starEach (e :: es) X.env = (false, eval e X.env) :: starEach es X.env := by rfl) (hpl : (backTo pos (starEach es X.env)).any (·.1) = false := by rfl) : VE K X m (.Call (.Name x p) (e :: es) [] pos) (tCB r tr) (vCB w vr) := ⟨pe_callB hc hg hm hv ha.pe hn hdb he hpl, sndC L ha.snd⟩
theorem rep1 {N : AP} {F : FP} {H : Hp} {xs : List V} {d : D} (h : Reps K N F H xs [d]) : ∃ v, xs = [v] ∧ Rep K N F H v d := by
  cases h with | cons h t => cases t; exact ⟨_, rfl, h⟩
theorem rep2 {N : AP} {F : FP} {H : Hp} {xs : List V} {d d' : D} (h : Reps K N F H xs [d, d']) : ∃ v u, xs = [v, u] ∧ Rep K N F H v d ∧ Rep K N F H u d' := by
  cases h with | cons h t => cases t with | cons h' t => cases t; exact ⟨_, _, rfl, h, h'⟩
def wLen : List D → (D → Prop) → Prop := fun ds q => ∃ es, (ds = [.lst es] ∨ ds = [.tup es]) ∧ q (.int es.length)
theorem l_len : LiftC K (fun xs H Q => ∃ p ys, xs = [.ref p] ∧ (SqL K H p ys ∨ SqT K H p ys) ∧ Q (.int ys.length) H) wLen := by
  rintro xs H ds q C r ⟨es, rfl | rfl, h⟩ hc
  · obtain ⟨v, rfl, rv⟩ := rep1 r
    obtain ⟨a, vs, rfl, hq, rr⟩ := rv.sqL
    exact ⟨a, vs, rfl, .inl hq, by rw [rr.length]; exact hc _ _ h fun _ _ => .int _⟩
  · obtain ⟨v, rfl, rv⟩ := rep1 r
    obtain ⟨a, vs, rfl, hq, rr⟩ := rv.sqT
    exact ⟨a, vs, rfl, .inr hq, by rw [rr.length]; exact hc _ _ h fun _ _ => .int _⟩
def wMM (g : Int → Int → Int) : List D → (D → Prop) → Prop := fun ds q => ∃ i j, ds = [.int i, .int j] ∧ q (.int (g i j))
theorem l_mm {g : Int → Int → Int} : LiftC K (fun xs H Q => ∃ i j, xs = [.int i, .int j] ∧ Q (.int (g i j)) H) (wMM g) := by
  rintro xs H ds q C r ⟨i, j, rfl, h⟩ hc
  obtain ⟨v, u, rfl, rv, ru⟩ := rep2 r
  cases rv; cases ru
  exact ⟨i, j, rfl, hc _ _ h fun _ _ => .int _⟩
def tyD : D → String
  | .int _ => "int" | .bl _ => "bool" | .non => "NoneType" | .str _ => "str" | .tup _ => "tuple" | .lst _ => "list" | .ty _ => "type" | .dic _ _ => "dict" | .exc _ => ""
def isE : D → Bool
  | .exc _ => true
  | _ => false
def wIsi : List D → (D → Prop) → Prop := fun ds q => ∃ x c b, ds = [x, .ty c] ∧ (∀ n, x ≠ .ty n) ∧ isE x = false ∧ isiB (tyD x) c = some b ∧ q (.bl b)
theorem l_isi : LiftC K (rIsi K) wIsi := by
  rintro xs H ds q C r ⟨x, c, b, rfl, hn, hE, e, h⟩ hc
  obtain ⟨v, u, rfl, rv, ru⟩ := rep2 r
  cases ru
  refine ⟨v, tyD x, c, b, rfl, ?_, e, hc _ _ h fun _ _ => .bl _⟩
  cases rv with
  | int i => exact .int i
  | bl i => exact .bl i
  | non => exact .non
  | str i => exact .str i
  | ty i => exact (hn _ rfl).elim
  | tup n h r => exact .tup (.inl h)
  | tupK h r => exact .tup (sqT_none h)
  | lst n f h r => exact .lst (.inl (.inl h))
  | lstF n f h r => exact .lst (.inl (.inr ⟨_, h⟩))
  | lstK f h r => exact .lst (sqL_none h)
  | dic n f h e _ r => exact .dE h
  | exc n h e => cases hE
theorem RepRs.one {F : FP} {Z : AP} {σ : St} {S : List Sl} {H : Hp} {vs : List V} {r : VR} (h : RepRs K F Z σ S H vs [r]) : ∃ v, vs = [v] ∧ RepR K F Z σ S H v r := by
  cases h with | cons h t => cases t; exact ⟨_, rfl, h⟩
def vListOf (vr : VTA) : VTN := fun S Q => vr S fun rs S1 => ∃ r ds, rs = [r] ∧ (get S1 r = some (.lst ds) ∨ get S1 r = some (.tup ds)) ∧ flats ds = true ∧ Q ds S1
theorem flats_new {H0 H : Hp} {Z : AP} {σ : St} {S : List Sl} {F : FP} {p : Addr} {vs : List V} {ds : List D} {o : HO} (hp : H p = none) (h : Reps K (NM Z σ S) F H vs ds) (f : flats ds = true) : Reps K (fun b => NM Z σ S b ∧ b ≠ p) (Fr H0) (upd H p o) vs ds :=
  reps_new hp (Reps.flat h f)
theorem vn_list (hK : X.K = K) (hg : Gl X "list") (hm : X.mg "list" = none) (ha : VA K X false [e] tr vr) (he : starEach [e] X.env = [(false, eval e X.env)] := by rfl) :
    VN K X (.Call (.Name "list" p) [e] [] pos) (tCB (fun xs H Q => ∃ p ys, xs = [.ref p] ∧ (SqL K H p ys ∨ SqT K H p ys) ∧ ∀ l, H l = none → Q (.ref l) (upd H l (.lst ys))) tr) (vListOf vr) :=
  ⟨by subst hK; exact pe_callTy call_list_of hg hm bt_list ha.pe (by decide) (by decide) he rfl, fun H0 Z σ H S Q C k t hc => ha.snd H0 Z σ H S _ _ k t fun vs H1 rs S1 k1 st1 rrs zq1 => by
    obtain ⟨r, ds, e1, e2, f, q⟩ := zq1
    subst e1
    obtain ⟨v, rfl, rv⟩ := rrs.one
    rcases e2 with e2 | e2
    · obtain ⟨a, ys, rfl, hq, rr⟩ := rv.elems k1 e2
      exact ⟨a, ys, rfl, .inl hq, fun l hl => hc l ys ds H1 _ S1 k1 st1 hl (upd_grow hl) upd_same (flats_new hl rr f) q⟩
    · obtain ⟨a, ys, rfl, hq, rr⟩ := rv.elemsT k1 e2
      exact ⟨a, ys, rfl, .inr hq, fun l hl => hc l ys ds H1 _ S1 k1 st1 hl (upd_grow hl) upd_same (flats_new hl rr f) q⟩⟩
def vTupOf (vr : VTA) : VT := fun S Q => vr S fun rs S1 => ∃ r ds, rs = [r] ∧ (get S1 r = some (.lst ds) ∨ r = .d (.tup ds)) ∧ flats ds = true ∧ Q (.d (.tup ds)) S1
theorem ve_tupleOf (hK : X.K = K) (hg : Gl X "tuple") (hm : X.mg "tuple" = none) (ha : VA K X false [e] tr vr) (he : starEach [e] X.env = [(false, eval e X.env)] := by rfl) :
    VE K X m (.Call (.Name "tuple" p) [e] [] pos) (tCB (fun xs H Q => ∃ p ys, xs = [.ref p] ∧ ((SqL K H p ys ∧ ∀ l, H l = none → Q (.ref l) (upd H l (.tup ys))) ∨ (SqT K H p ys ∧ Q (.ref p) H))) tr) (vTupOf vr) :=
  ⟨by subst hK; exact pe_callTy call_tuple_of hg hm bt_tuple ha.pe (by decide) (by decide) he rfl, fun H0 Z σ H S Q C k t hc => ha.snd H0 Z σ H S _ _ k t fun vs H1 rs S1 k1 st1 rrs zq1 => by
    obtain ⟨r, ds, e1, e2, f, q⟩ := zq1
    subst e1
    obtain ⟨v, rfl, rv⟩ := rrs.one
    rcases e2 with e2 | e2
    · obtain ⟨a, ys, rfl, hq, rr⟩ := rv.elems k1 e2
      refine ⟨a, ys, rfl, .inl ⟨hq, fun l hl => ?_⟩⟩
      have g := upd_grow (o := .tup ys) hl
      exact hc _ _ (.d (.tup ds)) S1 (k1.grow g) (st1.trans (.grow g)) (Rep.tup (k1.nm hl) (.inl upd_same) ((Reps.flat rr f).mono (fun a n e => ⟨n, g a e⟩) fun _ x => x)) q
    · subst e2
      obtain ⟨a, ys, rfl, hq, rr⟩ := Rep.sqT (show Rep K _ _ H1 v (.tup ds) from rv)
      refine ⟨a, ys, rfl, .inr ⟨hq, hc _ _ (.d (.tup ds)) S1 k1 st1 ?_ q⟩⟩
      exact Rep.flat (show Rep K _ _ H1 _ (.tup ds) from rv) (by simpa [flat] using f)⟩
@[reducible] def eT (ms : List Int) : D := .tup (ms.map .int)
@[reducible] def eL (mss : List (List Int)) : D := .lst (mss.map eT)
theorem flats_ints : ∀ ms : List Int, flats (ms.map D.int) = true
  | [] => rfl
  | _ :: r => by simp [flats, flat, flats_ints r]
theorem flats_eT : ∀ mss : List (List Int), flats (mss.map eT) = true
  | [] => rfl
  | _ :: r => by simp [flats, eT, flat, flats_ints, flats_eT r]
theorem reps_tups {N : AP} {F : FP} {H : Hp} : ∀ {vs : List V} {mss : List (List Int)}, Reps K N F H vs (mss.map eT) → ∃ ps, vs = ps.map V.ref ∧ Tups K H ps mss ∧ (∀ p ∈ ps, H p = none → N p → False ∨ True)
  | _, [], .nil => ⟨[], rfl, .nil, fun _ h => nomatch h⟩
  | _, ms :: r, .cons h t => by
    obtain ⟨ps, rfl, h1, h2⟩ := reps_tups t
    obtain ⟨a, vs, rfl, hq, rr⟩ := Rep.sqT h
    cases Reps.toInts rr
    exact ⟨a :: ps, rfl, .cons hq h1, fun _ _ _ _ => .inr trivial⟩
theorem reps_of_tups {N : AP} {F : FP} {H : Hp} (hN : ∀ p vs, Rd H p (.tup vs) → N p) : ∀ {ps : List Addr} {mss : List (List Int)}, Tups K H ps mss → Reps K N F H (ps.map V.ref) (mss.map eT)
  | _, _, .nil => .nil
  | _, _, .cons h t => by
    refine .cons ?_ (reps_of_tups hN t)
    rcases h with h | h
    · exact .tup (hN _ _ h) h Reps.ints
    · exact .tupK (.inr h) Reps.ints
theorem OK.tupN {H0 H : Hp} {Z : AP} {σ : St} {S : List Sl} (k : OK K H0 Z σ H S) : ∀ p vs, Rd H p (.tup vs) → NM Z σ S p := fun p vs h z => by
  have e := k.mo z
  rcases h with h | ⟨o, h⟩ <;> rw [h] at e <;> exact e
end
def spP (K : PySem.W.Frag) (p : List D → (D → Prop) → Prop) : Sp := fun vs H Q _ => ∃ ds R, Reps K Any AnyF H vs ds ∧ p ds R ∧ ∀ d v H', R d → (∀ a, H a ≠ none → H' a = H a) → Rep K Any (Fr H) H' v d → Q v H'
def spI (K : PySem.W.Frag) (j : Nat) (p : List Int → List D → (D → List Int → Prop) → Prop) : Sp := fun vs H Q _ => ∃ a ws us ns ds es R, vs = ws ++ .ref a :: us ∧ ws.length = j ∧ H a = some (.lst (ns.map .int)) ∧ Reps K (· ≠ a) AnyF H ws ds ∧ Reps K (· ≠ a) AnyF H us es ∧ p ns (ds ++ es) R ∧
  ∀ d ns' v H', R d ns' → (∀ b, b ≠ a → H b ≠ none → H' b = H b) → H' a = some (.lst (ns'.map .int)) → Rep K (· ≠ a) (Fr H) H' v d → Q v H'
section
variable {es : List Expr} {tr : TA} {vr : VTA} {x : Str} {p0 : Pos} {j k : Nat} {ps : List Str}
def vFn (p : List D → (D → Prop) → Prop) (vr : VTA) : VT := fun S Q => vr S fun rs S1 => ∃ ds, gets S1 rs = some ds ∧ p ds fun d => Q (.d d) S1
def vFnN (p : List D → (D → Prop) → Prop) (vr : VTA) : VTN := fun S Q => vr S fun rs S1 => ∃ ds, gets S1 rs = some ds ∧ p ds fun d => ∃ es, d = .lst es ∧ flats es = true ∧ Q es S1
theorem ve_fn {p : List D → (D → Prop) → Prop} (E : Has X.prog X.w X.K X.mg X.base k x ps (spP K p)) (hr : Room j X.A) (ha : VA K X false (e :: es) tr vr)
    (hk : k ≤ j := by decide) (hg : Gl X x := by rfl) (hdb : (x == ("__debug__" : Str)) = false := by decide) (he : starEach (e :: es) X.env = (false, eval e X.env) :: starEach es X.env := by rfl)
    (hpl : (backTo pos (starEach es X.env)).any (·.1) = false := by rfl) : VE K X m (.Call (.Name x p0) (e :: es) [] pos) (tCall (spP K p) [] E0 tr) (vFn p vr) := ⟨pe_fn E hr ha.pe hk hg hdb he hpl, fun H0 Z σ H S Q C k t hc =>
  ha.snd H0 Z σ H S _ _ k t fun vs H1 rs S1 k1 st1 rrs zq1 => by
    obtain ⟨ds, e, q⟩ := zq1
    refine ⟨ds, _, by rw [List.append_nil]; exact rrs.gets k1 e, q, fun d v H' q g r => ?_⟩
    refine hc v H' (.d d) S1 (k1.grow g) (st1.trans (.grow g)) (show Rep K _ _ H' v d from ?_) q
    refine (Rep.avoid (N' := NM Z σ S1) (fun a z => ?_) (fun a zq1 => by obtain ⟨b, e, f⟩ := zq1; cases e; exact k1.nm f) r).mono (fun _ n _ => ⟨n, rfl⟩) (fun o ⟨b, e, f⟩ _ => ⟨b, e, k1.dom b f⟩)
    have e := k1.mo (Classical.not_not.mp z)
    rw [g a e.ne]; exact e⟩
theorem vn_fn {p : List D → (D → Prop) → Prop} (E : Has X.prog X.w X.K X.mg X.base k x ps (spP K p)) (hr : Room j X.A) (ha : VA K X false (e :: es) tr vr)
    (hk : k ≤ j := by decide) (hg : Gl X x := by rfl) (hdb : (x == ("__debug__" : Str)) = false := by decide) (he : starEach (e :: es) X.env = (false, eval e X.env) :: starEach es X.env := by rfl)
    (hpl : (backTo pos (starEach es X.env)).any (·.1) = false := by rfl) : VN K X (.Call (.Name x p0) (e :: es) [] pos) (tCall (spP K p) [] E0 tr) (vFnN p vr) := ⟨pe_fn E hr ha.pe hk hg hdb he hpl, fun H0 Z σ H S Q C k t hc =>
  ha.snd H0 Z σ H S _ _ k t fun vs H1 rs S1 k1 st1 rrs zq1 => by
    obtain ⟨ds, e, q⟩ := zq1
    refine ⟨ds, _, by rw [List.append_nil]; exact rrs.gets k1 e, q, fun d v H' ⟨es, ed, hf, q⟩ g r => ?_⟩
    subst ed
    have r2 := Rep.avoid (N' := NM Z σ S1) (fun a z => by
      have e := k1.mo (Classical.not_not.mp z)
      rw [g a e.ne]; exact e) (fun a zq1 => by obtain ⟨b, e, f⟩ := zq1; cases e; exact k1.nm f) r
    cases r2 with
    | @lst a ws _ n f h rs =>
      obtain ⟨b, e, f⟩ := f
      cases e
      refine hc a ws es H1 H' S1 k1 st1 f g h ?_ q
      refine (Reps.avoid (N' := fun b => NM Z σ S1 b ∧ b ≠ a) (fun b z => ?_) (fun b fb => fb.elim) (Reps.flat (F' := fun _ => False) rs hf)).mono (fun _ n _ => ⟨n, rfl⟩) (fun o f => f.elim)
      by_cases hb : b = a
      · subst hb; rw [h]; trivial
      · have e := k1.mo (Classical.byContradiction fun y => z ⟨y, hb⟩)
        rw [g b e.ne]; exact e
    | lstF n f h rs => obtain ⟨b, e, f⟩ := f; cases e
    | lstK f h rs => obtain ⟨b, e, f⟩ := f; cases e⟩
end
end
end VL
end
section
set_option maxHeartbeats 4000000
namespace VL
open PySem L2
section
variable {K : PySem.W.Frag} {H H' H0 : Hp} {Z : AP} {σ : St} {S : List Sl}
theorem OK.put (k : OK K H0 Z σ H S) {i : Nat} {o : Option V} {s : Sl} (hi : i < S.length)
    (hN : ∀ a, NM Z σ S a → H a ≠ none → NM Z (σ.set i o) (S.set i s) a ∧ H' a = H a)
    (hM : ∀ j s', j ≠ i → S[j]? = some s' → s'.mut = true → ∀ a, σ[j]? = some (some (V.ref a)) → H' a = H a)
    (hs : SlOk K H0 (NM Z (σ.set i o) (S.set i s)) H' o s)
    (hj : ∀ j a t, j ≠ i → S[j]? = some t → t.mut = true → s.mut = true → o = some (V.ref a) → σ[j]? ≠ some (some (V.ref a)))
    (hd : ∀ a, H' a = none → H a = none) (hz : ∀ a, Z a → IsM (H' a)) (hnz : ∀ a, s.mut = true → o = some (V.ref a) → ¬Z a) : OK K H0 Z (σ.set i o) H' (S.set i s) where
  len := by simp [k.len]
  dom := fun a e => k.dom a (hd a e)
  zl := hz
  nz := fun j t a h1 h2 h3 => by
    have hi' : i < σ.length := by rw [k.len]; exact hi
    by_cases hji : i = j
    · subst hji
      rw [List.getElem?_set_self hi] at h1
      rw [List.getElem?_set_self hi'] at h3
      cases h1
      exact hnz a h2 (Option.some.inj h3)
    · rw [List.getElem?_set_ne hji] at h1 h3
      exact k.nz j t a h1 h2 h3
  inj := fun a b c t u h1 h2 m1 m2 h3 h4 => by
    have hi' : i < σ.length := by rw [k.len]; exact hi
    by_cases ha : i = a
    · by_cases hb : i = b
      · lia
      · subst ha
        rw [List.getElem?_set_self hi] at h1
        rw [List.getElem?_set_self hi'] at h3
        rw [List.getElem?_set_ne hb] at h2 h4
        cases h1
        exact (hj b c u (fun z => hb z.symm) h2 m2 m1 (Option.some.inj h3) h4).elim
    · by_cases hb : i = b
      · subst hb
        rw [List.getElem?_set_self hi] at h2
        rw [List.getElem?_set_self hi'] at h4
        rw [List.getElem?_set_ne ha] at h1 h3
        cases h2
        exact (hj a c t (fun z => ha z.symm) h1 m1 m2 (Option.some.inj h4) h3).elim
      · rw [List.getElem?_set_ne ha] at h1 h3
        rw [List.getElem?_set_ne hb] at h2 h4
        exact k.inj a b c t u h1 h2 m1 m2 h3 h4
  at_ := fun j o' s' h1 h2 => by
    have hi' : i < σ.length := by rw [k.len]; exact hi
    by_cases hji : i = j
    · subst hji
      rw [List.getElem?_set_self hi'] at h1
      rw [List.getElem?_set_self hi] at h2
      cases h1; cases h2
      exact hs
    · rw [List.getElem?_set_ne hji] at h1 h2
      have q := k.at_ j o' s' h1 h2
      cases s' with
      | no => trivial
      | val d => obtain ⟨v, e, r⟩ := q; exact ⟨v, e, r.mono hN fun _ x => x⟩
      | fre d => obtain ⟨v, e, r⟩ := q; exact ⟨v, e, r.mono hN fun _ x => x⟩
      | own ds =>
        obtain ⟨a, vs, e, e', e0, r⟩ := q
        exact ⟨a, vs, e, by rw [hM j _ (fun z => hji z.symm) h2 rfl a (by rw [h1, e])]; exact e', e0, r.mono hN fun _ x => x⟩
      | pen ad ns =>
        obtain ⟨a, e, e1, e'⟩ := q
        exact ⟨a, e, e1, by rw [hM j _ (fun z => hji z.symm) h2 rfl a (by rw [h1, e])]; exact e'⟩
      | odi ks ds =>
        obtain ⟨a, vs, e, e', e0, ek, r⟩ := q
        exact ⟨a, vs, e, by rw [hM j _ (fun z => hji z.symm) h2 rfl a (by rw [h1, e])]; exact e', e0, ⟨ek.1, ek.2.mono hN fun _ x => x⟩, r.mono hN fun _ x => x⟩
      | obj k =>
        obtain ⟨a, e, e0, r⟩ := q
        exact ⟨a, e, e0, k.mono hN (hM j _ (fun z => hji z.symm) h2 rfl a (by rw [h1, e])) r⟩
theorem mo_put {i : Nat} {o : Option V} {s : Sl} {a : Addr} (h : Mo Z (σ.set i o) (S.set i s) a) : Mo Z σ S a ∨ (s.mut = true ∧ o = some (V.ref a)) := by
  rcases h with ⟨j, t, h1, h2, h3⟩ | h
  · by_cases hji : i = j
    · subst hji
      have l1 := (List.getElem?_eq_some_iff.mp h1).1
      have l2 := (List.getElem?_eq_some_iff.mp h3).1
      rw [List.length_set] at l1 l2
      rw [List.getElem?_set_self l1] at h1
      rw [List.getElem?_set_self l2] at h3
      cases h1
      exact .inr ⟨h2, Option.some.inj h3⟩
    · rw [List.getElem?_set_ne hji] at h1 h3
      exact .inl (.inl ⟨j, t, h1, h2, h3⟩)
  · exact .inl (.inr h)
theorem OK.setVal (k : OK K H0 Z σ H S) {i : Nat} {v : V} {d : D} (hi : i < S.length) (h : Rep K (NM Z σ S) AnyF H v d) : OK K H0 Z (σ.set i (some v)) H (S.set i (.val d)) ∧ Step Z σ S H (σ.set i (some v)) (S.set i (.val d)) H := by
  have n : ∀ a, NM Z σ S a → NM Z (σ.set i (some v)) (S.set i (.val d)) a := fun a x z => by
    rcases mo_put z with z | ⟨z, _⟩
    · exact x z
    · cases z
  exact ⟨k.put hi (fun a x _ => ⟨n a x, rfl⟩) (fun _ _ _ _ _ _ _ => rfl) ⟨v, rfl, h.mono (fun a x _ => ⟨n a x, rfl⟩) fun _ x => x⟩ (fun _ _ _ _ _ _ z => nomatch z) (fun _ e => e) k.zl (fun _ z => nomatch z), fun a x _ => ⟨rfl, n a x⟩, fun _ e => e, fun _ _ _ => rfl⟩
theorem OK.setNew (k : OK K H0 Z σ H S) {i : Nat} {a : Addr} {s : Sl} (hi : i < S.length) (ha : H a = none) (hg : ∀ b, H b ≠ none → H' b = H b) (hs : SlOk K H0 (fun b => NM Z σ S b ∧ b ≠ a) H' (some (.ref a)) s) (hm : s.mut = true) :
    OK K H0 Z (σ.set i (some (.ref a))) H' (S.set i s) ∧ Step Z σ S H (σ.set i (some (.ref a))) (S.set i s) H' := by
  have n : ∀ b, NM Z σ S b ∧ b ≠ a → NM Z (σ.set i (some (.ref a))) (S.set i s) b := fun b x z => by
    rcases mo_put z with z | ⟨_, z⟩
    · exact x.1 z
    · cases z; exact x.2 rfl
  have n' : ∀ b, NM Z σ S b → H b ≠ none → NM Z (σ.set i (some (.ref a))) (S.set i s) b := fun b x e => n b ⟨x, fun z => e (by rw [z]; exact ha)⟩
  refine ⟨k.put hi (fun b x e => ⟨n' b x e, hg b e⟩) (fun j s' hj h1 h2 b h3 => ?_) ?_ (fun j b t hj h1 h2 h3 h4 h5 => ?_) (fun b e => Classical.byContradiction fun z => by rw [hg b z] at e; exact z e) (fun b z => ?_) (fun b h1 h2 z => ?_), fun b x e => ⟨hg b e, n' b x e⟩, fun b e => Classical.byContradiction fun z => by rw [hg b z] at e; exact z e, fun b z e => hg b e⟩
  · have e := k.mo (.inl ⟨j, s', h1, h2, h3⟩)
    exact hg b e.ne
  · cases s with
    | no => trivial
    | val d => cases hm
    | fre d => cases hm
    | own ds => obtain ⟨b, vs, e, e', e0, r⟩ := hs; exact ⟨b, vs, e, e', e0, r.mono (fun c x _ => ⟨n c x, rfl⟩) fun _ x => x⟩
    | pen ad ns => exact hs
    | obj k => obtain ⟨b, e, e0, r⟩ := hs; exact ⟨b, e, e0, k.mono (fun c x _ => ⟨n c x, rfl⟩) rfl r⟩
    | odi ks ds => obtain ⟨b, vs, e, e', e0, ek, r⟩ := hs; exact ⟨b, vs, e, e', e0, ⟨ek.1, ek.2.mono (fun c x _ => ⟨n c x, rfl⟩) fun _ x => x⟩, r.mono (fun c x _ => ⟨n c x, rfl⟩) fun _ x => x⟩
  · cases h4
    have e := k.mo (.inl ⟨j, t, h1, h2, h5⟩)
    rw [ha] at e; exact e
  · have e := k.zl b z
    rw [hg b e.ne]; exact e
  · cases h2
    have e := k.zl _ z
    rw [ha] at e; exact e
theorem set_self {α : Type} {l : List α} {i : Nat} {o : α} (h : l[i]? = some o) : l.set i o = l := by
  obtain ⟨h1, rfl⟩ := List.getElem?_eq_some_iff.mp h
  exact List.set_getElem_self h1
theorem OK.chgD (k : OK K H0 Z σ H S) {i : Nat} {a : Addr} {s₀ s : Sl} {o : HO} (h1 : S[i]? = some s₀) (h2 : s₀.mut = true) (h3 : σ[i]? = some (some (.ref a))) (hm : s.mut = true) (hs : SlOk K H0 (NM Z σ S) (upd H a o) (some (.ref a)) s) :
    OK K H0 Z σ (upd H a o) (S.set i s) ∧ Step Z σ S H σ (S.set i s) (upd H a o) := by
  have hi : i < S.length := (List.getElem?_eq_some_iff.mp h1).1
  have ma : Mo Z σ S a := .inl ⟨i, s₀, h1, h2, h3⟩
  have ea := k.mo ma
  have hza : ¬Z a := k.nz i s₀ a h1 h2 h3
  have e3 := set_self h3
  have n : ∀ b, NM Z σ S b → NM Z σ (S.set i s) b := fun b x z => by
    rw [← e3] at z
    rcases mo_put z with z | ⟨_, z⟩
    · exact x z
    · cases z; exact x ma
  have ne : ∀ b, NM Z σ S b → b ≠ a := fun b x z => x (by rw [z]; exact ma)
  have q := k.put (H' := upd H a o) (i := i) (o := some (.ref a)) (s := s) hi (fun b x e => ⟨by rw [e3]; exact n b x, upd_ne (ne b x)⟩) (fun j s' hj g1 g2 b g3 => upd_ne fun z => hj (by subst z; exact k.inj j i b s' s₀ g1 h1 g2 h2 g3 h3)) (by
    rw [e3]
    cases s with
    | no => trivial
    | val d => cases hm
    | fre d => cases hm
    | own ds => obtain ⟨b, vs, e, e', e0, r⟩ := hs; exact ⟨b, vs, e, e', e0, r.mono (fun c x _ => ⟨n c x, rfl⟩) fun _ x => x⟩
    | pen ad ns => exact hs
    | obj k => obtain ⟨b, e, e0, r⟩ := hs; exact ⟨b, e, e0, k.mono (fun c x _ => ⟨n c x, rfl⟩) rfl r⟩
    | odi ks ds => obtain ⟨b, vs, e, e', e0, ek, r⟩ := hs; exact ⟨b, vs, e, e', e0, ⟨ek.1, ek.2.mono (fun c x _ => ⟨n c x, rfl⟩) fun _ x => x⟩, r.mono (fun c x _ => ⟨n c x, rfl⟩) fun _ x => x⟩) (fun j b t hj g1 g2 g3 g4 g5 => by
      cases g4
      exact hj (k.inj j i a t s₀ g1 h1 g2 h2 g5 h3)) (fun b e => by
      by_cases hb : b = a
      · subst hb; rw [upd_same] at e; cases e
      · rw [upd_ne hb] at e; exact e) (fun b z => by
      by_cases hb : b = a
      · subst hb; exact (hza z).elim
      · have e := k.zl b z
        rw [upd_ne hb]; exact e) (fun b _ e => by cases e; exact hza)
  rw [e3] at q
  refine ⟨q, fun b x e => ⟨upd_ne (ne b x), n b x⟩, fun b e => ?_, fun b z e => upd_ne fun y => hza (by rw [← y]; exact z)⟩
  by_cases hb : b = a
  · subst hb; rw [upd_same] at e; cases e
  · rw [upd_ne hb] at e; exact e
theorem OK.chg (k : OK K H0 Z σ H S) {i : Nat} {a : Addr} {s₀ s : Sl} {o : HO} (h1 : S[i]? = some s₀) (h2 : s₀.mut = true) (h3 : σ[i]? = some (some (.ref a))) (ho : ∃ us, o = .lst us) (hm : s.mut = true) (hs : SlOk K H0 (NM Z σ S) (upd H a o) (some (.ref a)) s) :
    OK K H0 Z σ (upd H a o) (S.set i s) ∧ Step Z σ S H σ (S.set i s) (upd H a o) := k.chgD h1 h2 h3 hm hs
end
structure VEnds where
  nx : List Sl → Prop
  rt : D → List Sl → Prop
  bk : List Sl → Prop := fun _ => False
  ct : List Sl → Prop := fun _ => False
abbrev VTS := VEnds → List Sl → Prop
def NP (σ : St) (S : List Sl) : AP := fun a => ∀ (i : Nat) (ad : Option Addr) (ns : List Int), S[i]? = some (.pen ad ns) → σ[i]? ≠ some (some (V.ref a))
structure Lf (K : PySem.W.Frag) (H0 : Hp) (Z : AP) (σ : St) (S : List Sl) (H : Hp) (V : VEnds) (E : Ends) : Prop where
  nx : ∀ σ' H' S', OK K H0 Z σ' H' S' → Step Z σ S H σ' S' H' → V.nx S' → E.nx σ' H'
  bk : ∀ σ' H' S', OK K H0 Z σ' H' S' → Step Z σ S H σ' S' H' → V.bk S' → E.bk σ' H'
  ct : ∀ σ' H' S', OK K H0 Z σ' H' S' → Step Z σ S H σ' S' H' → V.ct S' → E.ct σ' H'
  rt : ∀ v d σ' H' S', OK K H0 Z σ' H' S' → Step Z σ S H σ' S' H' → Rep K (NP σ' S') (Fr H0) H' v d → V.rt d S' → E.rt v H'
theorem Lf.step {K : PySem.W.Frag} {H0 H H1 : Hp} {Z : AP} {σ σ1 : St} {S S1 : List Sl} {V : VEnds} {E : Ends} (l : Lf K H0 Z σ S H V E) (st : Step Z σ S H σ1 S1 H1) : Lf K H0 Z σ1 S1 H1 V E :=
  ⟨fun _ _ _ k s => l.nx _ _ _ k (st.trans s), fun _ _ _ k s => l.bk _ _ _ k (st.trans s), fun _ _ _ k s => l.ct _ _ _ k (st.trans s), fun _ _ _ _ _ k s => l.rt _ _ _ _ _ k (st.trans s)⟩
def SndS (K : PySem.W.Frag) (ts : TS) (t : VTS) : Prop := ∀ H0 Z σ H S V E, OK K H0 Z σ H S → t V S → Lf K H0 Z σ S H V E → ts E σ H
structure VS (K : PySem.W.Frag) (X : Cx) (st : Stmt) (ts : TS) (t : VTS) : Prop where
  ps : PS X st ts
  snd : SndS K ts t
structure VSs (K : PySem.W.Frag) (X : Cx) (st : List Stmt) (ts : TS) (t : VTS) : Prop where
  ps : PSs X st ts
  snd : SndS K ts t
inductive Wk : List Sl → List Sl → Prop where
  | nil : Wk [] []
  | keep {s : Sl} {S S' : List Sl} : Wk S S' → Wk (s :: S) (s :: S')
  | fz {ds : List D} {S S' : List Sl} : Wk S S' → Wk (.own ds :: S) (.val (.lst ds) :: S')
  | fd {ks : List (List Int)} {ds : List D} {S S' : List Sl} : Wk S S' → Wk (.odi ks ds :: S) (.val (.dic ks ds) :: S')
  | drop {s : Sl} {S S' : List Sl} : Wk S S' → Wk (s :: S) (.no :: S')
theorem Wk.refl : ∀ S, Wk S S
  | [] => .nil
  | _ :: r => .keep (Wk.refl r)
theorem Wk.len {S S' : List Sl} (h : Wk S S') : S.length = S'.length := by induction h <;> simp_all
theorem Wk.at_ {S S' : List Sl} (h : Wk S S') : ∀ {i : Nat} {s : Sl}, S'[i]? = some s → ∃ s₀, S[i]? = some s₀ ∧ (s = s₀ ∨ s = .no ∨ (∃ ds, s₀ = .own ds ∧ s = .val (.lst ds)) ∨ ∃ ks ds, s₀ = .odi ks ds ∧ s = .val (.dic ks ds)) := by
  induction h with
  | nil => intro i s h; simp at h
  | keep h ih =>
    intro i s e
    cases i with
    | zero => simp at e; subst e; exact ⟨_, rfl, .inl rfl⟩
    | succ i => simpa using ih (i := i) (by simpa using e)
  | fz h ih =>
    intro i s e
    cases i with
    | zero => simp at e; subst e; exact ⟨_, rfl, .inr (.inr (.inl ⟨_, rfl, rfl⟩))⟩
    | succ i => simpa using ih (i := i) (by simpa using e)
  | fd h ih =>
    intro i s e
    cases i with
    | zero => simp at e; subst e; exact ⟨_, rfl, .inr (.inr (.inr ⟨_, _, rfl, rfl⟩))⟩
    | succ i => simpa using ih (i := i) (by simpa using e)
  | drop h ih =>
    intro i s e
    cases i with
    | zero => simp at e; subst e; exact ⟨_, rfl, .inr (.inl rfl)⟩
    | succ i => simpa using ih (i := i) (by simpa using e)
theorem Wk.mut {S S' : List Sl} (h : Wk S S') {i : Nat} {s : Sl} (e : S'[i]? = some s) (m : s.mut = true) : S[i]? = some s := by
  obtain ⟨s₀, h1, rfl | rfl | ⟨ds, rfl, rfl⟩ | ⟨ks, ds, rfl, rfl⟩⟩ := h.at_ e
  · exact h1
  · cases m
  · cases m
  · cases m
theorem OK.wk {K : PySem.W.Frag} {H H0 : Hp} {Z : AP} {σ : St} {S S' : List Sl} (k : OK K H0 Z σ H S) (w : Wk S S') : OK K H0 Z σ H S' ∧ Step Z σ S H σ S' H := by
  have n : ∀ a, NM Z σ S a → NM Z σ S' a := fun a x z => by
    rcases z with ⟨i, s, h1, h2, h3⟩ | z
    · exact x (.inl ⟨i, s, w.mut h1 h2, h2, h3⟩)
    · exact x (.inr z)
  refine ⟨⟨by rw [k.len, w.len], fun i o s h1 h2 => ?_, fun i j a s t h1 h2 m1 m2 h3 h4 => k.inj i j a s t (w.mut h1 m1) (w.mut h2 m2) m1 m2 h3 h4, k.dom, k.zl, fun i s a h1 m h3 => k.nz i s a (w.mut h1 m) m h3⟩, fun a x _ => ⟨rfl, n a x⟩, fun _ e => e, fun _ _ _ => rfl⟩
  obtain ⟨s₀, e, rfl | rfl | ⟨ds, rfl, rfl⟩ | ⟨ks, ds, rfl, rfl⟩⟩ := w.at_ h2
  · have q := k.at_ i o s h1 e
    cases s with
    | no => trivial
    | val d => obtain ⟨v, e, r⟩ := q; exact ⟨v, e, r.mono (fun a x _ => ⟨n a x, rfl⟩) fun _ x => x⟩
    | fre d => obtain ⟨v, e, r⟩ := q; exact ⟨v, e, r.mono (fun a x _ => ⟨n a x, rfl⟩) fun _ x => x⟩
    | own ds => obtain ⟨a, vs, e, e', e0, r⟩ := q; exact ⟨a, vs, e, e', e0, r.mono (fun a x _ => ⟨n a x, rfl⟩) fun _ x => x⟩
    | pen ad ns => exact q
    | odi ks ds => obtain ⟨a, vs, e, e', e0, ek, r⟩ := q; exact ⟨a, vs, e, e', e0, ⟨ek.1, ek.2.mono (fun a x _ => ⟨n a x, rfl⟩) fun _ x => x⟩, r.mono (fun a x _ => ⟨n a x, rfl⟩) fun _ x => x⟩
    | obj k => obtain ⟨a, e, e0, r⟩ := q; exact ⟨a, e, e0, k.mono (fun a x _ => ⟨n a x, rfl⟩) rfl r⟩
  · trivial
  · obtain ⟨a, vs, e1, e2, e3, r⟩ := k.at_ i o _ h1 e
    subst e1
    refine ⟨.ref a, rfl, .lst ?_ trivial e2 (r.mono (fun a x _ => ⟨n a x, rfl⟩) fun _ _ => trivial)⟩
    intro z
    rcases z with ⟨j, s, g1, g2, g3⟩ | z
    · have := k.inj i j a _ s e (w.mut g1 g2) rfl g2 h1 g3
      subst this
      rw [h2] at g1; cases g1; cases g2
    · exact k.nz i _ a e rfl h1 z
  · obtain ⟨a, vs, e1, ⟨ob, e2⟩, e3, ek, r⟩ := k.at_ i o _ h1 e
    subst e1
    refine ⟨.ref a, rfl, .dic ?_ trivial e2 ek.1 (ek.2.mono (fun a x _ => ⟨n a x, rfl⟩) fun _ _ => trivial) (r.mono (fun a x _ => ⟨n a x, rfl⟩) fun _ _ => trivial)⟩
    intro z
    rcases z with ⟨j, s, g1, g2, g3⟩ | z
    · have := k.inj i j a _ s e (w.mut g1 g2) rfl g2 h1 g3
      subst this
      rw [h2] at g1; cases g1; cases g2
    · exact k.nz i _ a e rfl h1 z
section
variable {K : PySem.W.Frag} {X : Cx} {m : Bool} {e a b c : Expr} {ta tb tc te : TE} {va vb vc : VT} {pos : Pos} {st : Stmt} {rest : List Stmt} {t u : TS} {v w : VTS}
def vNext : VTS := fun V S => V.nx S
def vSeq (t u : VTS) : VTS := fun V S => t { V with nx := fun S' => ∃ S'', Wk S' S'' ∧ u V S'' } S
theorem vss_nil : VSs K X [] tNext vNext := ⟨pss_nil, fun H0 Z σ H S V E k h l => l.nx σ H S k .refl h⟩
theorem vss_one (h : VS K X st t v) : VSs K X [st] t v := ⟨pss_one h.ps, h.snd⟩
theorem vss_cons (h1 : VS K X st t v) (h2 : VSs K X rest u w) : VSs K X (st :: rest) (tSeq t u) (vSeq v w) := ⟨pss_cons h1.ps h2.ps, fun H0 Z σ H S V E k h l =>
  h1.snd H0 Z σ H S _ _ k h ⟨fun σ' H' S' k' st ⟨S'', wk, q⟩ => h2.snd H0 Z σ' H' S'' V E (k'.wk wk).1 q (l.step (st.trans (k'.wk wk).2)), l.bk, l.ct, l.rt⟩⟩
def vNever : VTS := fun _ _ => False
theorem vs_never : VS K X st tNever vNever := ⟨ps_never, fun _ _ _ _ _ _ _ _ h _ => h.elim⟩
theorem vss_never {sts : List Stmt} : VSs K X sts tNever vNever := ⟨pss_never, fun _ _ _ _ _ _ _ _ h _ => h.elim⟩
def vDrop (va : VT) : VTS := fun V S => va S fun _ S1 => V.nx S1
theorem vs_expr (h : VE K X false e te va) (hs : swapsWith e none pos.line X.env = pure false := by rfl) : VS K X (.Expr e pos) (tDrop te) (vDrop va) := ⟨ps_expr h.pe hs, fun H0 Z σ H S V E k t l => h.snd H0 Z σ H S _ _ k t fun v H' r S' k' st _ q => l.nx σ H' S' k' st q⟩
def retO : Option Sl → Option D
  | some (.own ds) => some (.lst ds)
  | some (.odi ks ds) => some (.dic ks ds)
  | _ => none
def retD (S : List Sl) : VR → Option D
  | .d x => some x
  | .own i => retO S[i]?
def vRet (va : VT) : VTS := fun V S => va S fun r S1 => ∃ d, retD S1 r = some d ∧ V.rt d S1
theorem OK.ret {H0 H : Hp} {Z : AP} {σ : St} {S : List Sl} {v : V} {r : VR} {d : D} (k : OK K H0 Z σ H S) (h : RepR K (FM H0 true) Z σ S H v r) (e : retD S r = some d) : Rep K (NP σ S) (Fr H0) H v d := by
  have np : ∀ a, NM Z σ S a → NP σ S a := fun a n i ad ns h1 h2 => n (.inl ⟨i, _, h1, rfl, h2⟩)
  cases r with
  | d x => cases e; exact Rep.mono (fun a n _ => ⟨np a n, rfl⟩) (fun _ x => x rfl) h
  | own i =>
    have h : σ[i]? = some (some v) := h
    have e : retO S[i]? = some d := e
    cases es : S[i]? with
    | none => rw [es] at e; cases e
    | some s =>
      rw [es] at e
      cases s with
      | fre d => cases e
      | own ds =>
        cases e
        obtain ⟨a, vs, h1, h2, h3, h4⟩ := k.at_ _ _ _ h es
        cases h1
        refine .lst (fun i2 ad ns g1 g2 => ?_) ⟨a, rfl, h3⟩ h2 (h4.mono (fun a n _ => ⟨np a n, rfl⟩) fun _ x => x)
        have := k.inj _ _ a _ _ es g1 rfl rfl h g2
        subst this
        rw [es] at g1; cases g1
      | odi ks ds =>
        cases e
        obtain ⟨a, vs, h1, ⟨ob, h2⟩, h3, hk, h4⟩ := k.at_ _ _ _ h es
        cases h1
        refine .dic (fun i2 ad ns g1 g2 => ?_) ⟨a, rfl, h3⟩ h2 hk.1 (Reps.flat (hk.2.mono (fun a n _ => ⟨np a n, rfl⟩) fun _ x => x) (flats_kT _)) (h4.mono (fun a n _ => ⟨np a n, rfl⟩) fun _ x => x)
        have := k.inj _ _ a _ _ es g1 rfl rfl h g2
        subst this
        rw [es] at g1; cases g1
      | no => cases e
      | val x => cases e
      | pen a b => cases e
      | obj k => cases e
theorem vs_ret (h : VE K X true e te va) : VS K X (.Return (some e) pos) (tRet te) (vRet va) := ⟨ps_ret h.pe, fun H0 Z σ H S V E k t l => h.snd H0 Z σ H S _ _ k t fun v H' r S' k' st rr ⟨d, e, q⟩ => l.rt v d σ H' S' k' st (k'.ret rr e) q⟩
def vIfS (c : VTT) (t u : VTS) : VTS := fun V S => c S fun b S1 => if b = true then t V S1 else u V S1
theorem vs_if {A B : List Stmt} {tA : TT} {wA : VTT} (hc : VTe K X c tA wA) (ha : VSs K X A t v) (hb : VSs K X B u w) : VS K X (.If c A B pos) (tIfS tA t u) (vIfS wA v w) := ⟨ps_if hc.pe ha.ps hb.ps, fun H0 Z σ H S V E k t l =>
  hc.snd H0 Z σ H S _ _ k t fun b H1 S1 k1 st1 q => by
    cases b with
    | true => rw [if_pos rfl] at q ⊢; exact ha.snd H0 Z σ H1 S1 V E k1 q (l.step st1)
    | false => rw [if_neg Bool.false_ne_true] at q ⊢; exact hb.snd H0 Z σ H1 S1 V E k1 q (l.step st1)⟩
abbrev VG := D → List Sl → (List Sl → Prop) → Prop
def SndG (K : PySem.W.Frag) (g : TG) (vg : VG) : Prop := ∀ H0 Z σ H S v d Q C, OK K H0 Z σ H S → Rep K (NM Z σ S) AnyF H v d → vg d S Q → (∀ σ' H' S', OK K H0 Z σ' H' S' → Step Z σ S H σ' S' H' → Q S' → C σ' H') → g v σ H C
def MonoG (g : TG) : Prop := ∀ x σ H Q1 Q2, (∀ σ H, Q1 σ H → Q2 σ H) → g x σ H Q1 → g x σ H Q2
def MonoGs (g : TGs) : Prop := ∀ x σ H Q1 Q2, (∀ σ H, Q1 σ H → Q2 σ H) → g x σ H Q1 → g x σ H Q2
structure VGe (K : PySem.W.Frag) (X : Cx) (e : Expr) (g : TG) (vg : VG) : Prop where
  pg : PG X e g
  snd : SndG K g vg
  mono : MonoG g
def vgN (i : Nat) : VG := fun d S Q => i < S.length ∧ Q (S.set i (.val d))
theorem vg_name {i : Nat} (h : PG X e (gName i)) : VGe K X e (gName i) (vgN i) := ⟨h, fun H0 Z σ H S v d Q C k r ⟨hi, q⟩ hc => hc _ _ _ (k.setVal hi r).1 (k.setVal hi r).2 q, fun _ _ _ _ _ h q => h _ _ q⟩
def SndGs (K : PySem.W.Frag) (g : TGs) (vg : List D → List Sl → (List Sl → Prop) → Prop) : Prop := ∀ H0 Z σ H S vs ds Q C, OK K H0 Z σ H S → Reps K (NM Z σ S) AnyF H vs ds → vg ds S Q → (∀ σ' H' S', OK K H0 Z σ' H' S' → Step Z σ S H σ' S' H' → Q S' → C σ' H') → g vs σ H C
structure VGs (K : PySem.W.Frag) (X : Cx) (es : List Expr) (g : TGs) (vg : List D → List Sl → (List Sl → Prop) → Prop) : Prop where
  pg : PGs X es g
  snd : SndGs K g vg
  mono : MonoGs g
def vgNil : List D → List Sl → (List Sl → Prop) → Prop := fun ds S Q => ds = [] ∧ Q S
def vgCons (t : VG) (u : List D → List Sl → (List Sl → Prop) → Prop) : List D → List Sl → (List Sl → Prop) → Prop := fun ds S Q => ∃ d r, ds = d :: r ∧ t d S fun S1 => u r S1 Q
theorem vgs_nil : VGs K X [] gNil vgNil := ⟨pgs_nil, fun H0 Z σ H S vs ds Q C k r zq1 hc => by obtain ⟨e, q⟩ := zq1; subst e; cases r; exact ⟨rfl, hc _ _ _ k .refl q⟩, fun _ _ _ _ _ h q => ⟨q.1, h _ _ q.2⟩⟩
theorem vgs_cons {es : List Expr} {g : TG} {gs : TGs} {vg : VG} {vgs : List D → List Sl → (List Sl → Prop) → Prop} (h1 : VGe K X e g vg) (h2 : VGs K X es gs vgs) (hs : (assignEach (e :: es) X.env).map (·.2) = assign e X.env :: (assignEach es X.env).map (·.2) := by rfl) :
    VGs K X (e :: es) (gCons g gs) (vgCons vg vgs) := ⟨pgs_cons h1.pg h2.pg hs, fun H0 Z σ H S vs ds Q C k r zq1 hc => by
  obtain ⟨d, rd, e, q⟩ := zq1
  subst e
  cases r with
  | cons rv rr => exact ⟨_, _, rfl, h1.snd H0 Z σ H S _ _ _ _ k rv q fun σ1 H1 S1 k1 st1 q1 => h2.snd H0 Z σ1 H1 S1 _ _ _ _ k1 (rr.step st1) q1 fun σ2 H2 S2 k2 st2 q2 => hc _ _ _ k2 (st1.trans st2) q2⟩, fun x σ H Q1 Q2 h ⟨v, r, e, q⟩ => ⟨v, r, e, h1.mono _ _ _ _ _ (fun σ' H' q' => h2.mono _ _ _ _ _ h q') q⟩⟩
def vgT (n : Nat) (u : List D → List Sl → (List Sl → Prop) → Prop) : VG := fun d S Q => ∃ ds, d = .tup ds ∧ ds.length = n ∧ u ds S Q
theorem vg_tup {es : List Expr} {kk : Nat} {gs : TGs} {vgs : List D → List Sl → (List Sl → Prop) → Prop} {n : Nat} (hK : X.K = K) (hc : X.calm = true) (h : VGs K X es gs vgs) (hn : (assignEach es X.env).length = n := by rfl) (hst : (assignEach es X.env).findIdx? (·.1) = none := by rfl) :
    VGe K X (.Tuple es kk pos) (gTup K n gs) (vgT n vgs) := ⟨by subst hK; exact pg_tup hc h.pg hn hst, fun H0 Z σ H S v d Q C k r zq1 hcc => by
  obtain ⟨ds, e, hl, q⟩ := zq1
  subst e
  obtain ⟨a, vs, rfl, hq, rr⟩ := r.sqT
  exact ⟨a, vs, rfl, hq, by rw [rr.length]; exact hl, h.snd H0 Z σ H S _ _ _ _ k rr q hcc⟩, fun x σ H Q1 Q2 hh ⟨a, xs, e1, e2, e3, q⟩ => ⟨a, xs, e1, e2, e3, h.mono _ _ _ _ _ hh q⟩⟩
def vAsg (va : VT) (g : VG) : VTS := fun V S => va S fun r S1 => ∃ d, r = .d d ∧ g d S1 V.nx
theorem sndAsg {g : TG} {vg : VG} (ha : SndE K m te va) (hg : SndG K g vg) : SndS K (tAsg te g) (vAsg va vg) := fun H0 Z σ H S V E k t l => ha H0 Z σ H S _ _ k t fun v H1 r S1 k1 st1 rr zq1 => by
  obtain ⟨d, e, q⟩ := zq1
  subst e
  exact hg H0 Z σ H1 S1 v d _ _ k1 (Rep.mono (fun _ n _ => ⟨n, rfl⟩) (fun _ _ => trivial) rr) q fun σ2 H2 S2 k2 st2 q2 => l.nx σ2 H2 S2 k2 (st1.trans st2) q2
theorem vs_set {i : Nat} {x : Str} {pos' : Pos} (ps : ∀ te, PE X e te → PS X (.Assign [.Name x pos'] e pos) (tAsg te (gName i))) (h : VE K X false e te va) : VS K X (.Assign [.Name x pos'] e pos) (tAsg te (gName i)) (vAsg va (vgN i)) :=
  ⟨ps te h.pe, sndAsg h.snd fun H0 Z σ H S v d Q C k r ⟨hi, q⟩ hc => hc _ _ _ (k.setVal hi r).1 (k.setVal hi r).2 q⟩
theorem vs_asg {tg : Expr} {g : TG} {vg : VG} (h : VE K X false e te va) (hg : VGe K X tg g vg) (hs : swapsWithSole [tg] e pos.line X.env = pure false := by rfl) (hw : swappedStores [tg] e X.env = pure none := by rfl)
    (h1 : (assignEach [tg] X.env).map (·.2) = [assign tg X.env] := by rfl) : VS K X (.Assign [tg] e pos) (tAsg te g) (vAsg va vg) := ⟨ps_asg h.pe hg.pg hs hw h1, sndAsg h.snd hg.snd⟩
def vSetN (i : Nat) (t : VTN) : VTS := fun V S => t S fun ds S1 => i < S1.length ∧ V.nx (S1.set i (.own ds))
theorem vs_setN {i : Nat} {x : Str} {pos' : Pos} {tn : VTN} (ps : ∀ te, PE X e te → PS X (.Assign [.Name x pos'] e pos) (tAsg te (gName i))) (h : VN K X e te tn) : VS K X (.Assign [.Name x pos'] e pos) (tAsg te (gName i)) (vSetN i tn) :=
  ⟨ps te h.pe, fun H0 Z σ H S V E k t l => h.snd H0 Z σ H S _ _ k t fun a vs ds H1 H' S' k1 st1 ha hg hl rr zq1 => by
    obtain ⟨hi, q⟩ := zq1
    obtain ⟨k2, st2⟩ := k1.setNew (s := .own ds) hi ha hg ⟨a, vs, rfl, hl, k1.dom a ha, rr⟩ rfl
    exact l.nx _ _ _ k2 (st1.trans st2) q⟩
def vSetP (i : Nat) (t : VTN) : VTS := fun V S => t S fun ds S1 => ∃ ns : List Int, ds = ns.map .int ∧ i < S1.length ∧ V.nx (S1.set i (.pen none ns))
theorem vs_setP {i : Nat} {x : Str} {pos' : Pos} {tn : VTN} (ps : ∀ te, PE X e te → PS X (.Assign [.Name x pos'] e pos) (tAsg te (gName i))) (h : VN K X e te tn) : VS K X (.Assign [.Name x pos'] e pos) (tAsg te (gName i)) (vSetP i tn) :=
  ⟨ps te h.pe, fun H0 Z σ H S V E k t l => h.snd H0 Z σ H S _ _ k t fun a vs ds H1 H' S' k1 st1 ha hg hl rr zq1 => by
    obtain ⟨ns, e, hi, q⟩ := zq1
    subst e
    obtain ⟨k2, st2⟩ := k1.setNew (s := .pen none ns) hi ha hg ⟨a, rfl, (fun _ z => nomatch z), by rw [← Reps.toInts rr]; exact hl⟩ rfl
    exact l.nx _ _ _ k2 (st1.trans st2) q⟩
end
end VL
end
section
set_option maxHeartbeats 4000000
namespace VL
open PySem L2
section
variable {K : PySem.W.Frag} {X : Cx} {m : Bool} {e a b c : Expr} {ta tb tc te ti : TE} {va vb vc vi : VT} {pos : Pos} {st : Stmt} {rest : List Stmt} {t u : TS} {v w : VTS}
theorem OK.ownAt {H0 H : Hp} {Z : AP} {σ : St} {S : List Sl} (k : OK K H0 Z σ H S) {i : Nat} {s : Sl} (e : S[i]? = some s) : ∃ o, σ[i]? = some o ∧ SlOk K H0 (NM Z σ S) H o s := by
  have hi : i < σ.length := by rw [k.len]; exact (List.getElem?_eq_some_iff.mp e).1
  exact ⟨_, List.getElem?_eq_getElem hi, k.at_ i _ s (List.getElem?_eq_getElem hi) e⟩
def vSetIx (i : Nat) (ve vi : VT) : VTS := fun V S => ve S fun r S1 => (∃ s, S1[i]? = some s ∧ s.mut = true) ∧ vi S1 fun ri S2 => ∃ j, get S2 ri = some (.int j) ∧
  ((∃ ad ns k n, S2[i]? = some (.pen ad ns) ∧ ixN ns.length j = some k ∧ r = .d (.int n) ∧ V.nx (S2.set i (.pen ad (ns.set k n)))) ∨
   (∃ ds k d, S2[i]? = some (.own ds) ∧ ixN ds.length j = some k ∧ r = .d d ∧ V.nx (S2.set i (.own (ds.set k d)))))
theorem vs_setIx {o ie : Expr} {posS : Pos} (i : Nat) (ho : PE X o (tVar i)) (h : VE K X true e te va) (hi : VE K X false ie ti vi)
    (ha : ∀ v, assign (.Subscript o ie posS) X.env v = (do
      let ov ← holding [v] (eval o X.env)
      let iv ← holding [v, ov] (eval ie X.env)
      standAt posS
      holding [v, ov, iv] (setItem ov iv v)
      release [v, ov, iv] []) := by intro _; rfl)
    (hs : swapsWithSole [.Subscript o ie posS] e pos.line X.env = pure false := by rfl) (hw : swappedStores [.Subscript o ie posS] e X.env = pure none := by rfl)
    (h1 : (assignEach [.Subscript o ie posS] X.env).map (·.2) = [assign (.Subscript o ie posS) X.env] := by rfl) :
    VS K X (.Assign [.Subscript o ie posS] e pos) (tAsg te (gSub (tVar i) ti rSetL)) (vSetIx i va vi) := ⟨ps_asg h.pe (pg_sub ho hi.pe set_list ha) hs hw h1, fun H0 Z σ H S V E k t l => by
  refine h.snd H0 Z σ H S _ _ k t fun x H1 r S1 k1 st1 rr ⟨⟨s1, em, hm1⟩, q⟩ => ?_
  -- the slot's address stays: σ is one
  have fin : ∀ (p : Addr), σ[i]? = some (some (.ref p)) → gSub (tVar i) ti rSetL x σ H1 E.nx := fun p hp => by
    refine ⟨.ref p, hp, hi.snd H0 Z σ H1 S1 _ _ k1 q fun y H2 ri S2 k2 st2 r2 ⟨j, ej, q2⟩ => ?_⟩
    cases r2.get k2 ej
    have rr2 := rr.step st2
    rcases q2 with ⟨ad, ns, kk, n, e1, e2, er, q2⟩ | ⟨ds, kk, d, e1, e2, er, q2⟩
    · subst er
      cases (show Rep K _ _ H2 x (.int n) from rr2)
      obtain ⟨o', g1, a', rfl, g2, g3⟩ := k2.ownAt e1
      rw [hp] at g1; cases g1
      refine ⟨p, _, j, kk, rfl, rfl, g3, by rw [List.length_map]; exact e2, ?_⟩
      obtain ⟨k3, st3⟩ := k2.chg (s := .pen ad (ns.set kk n)) (o := .lst ((ns.map L2.V.int).set kk (.int n))) e1 rfl hp ⟨_, rfl⟩ rfl ⟨p, rfl, g2, by rw [upd_same, List.map_set]⟩
      exact l.nx _ _ _ k3 ((st1.trans st2).trans st3) q2
    · subst er
      obtain ⟨o', g1, a', vs, rfl, g2, g3, g4⟩ := k2.ownAt e1
      rw [hp] at g1; cases g1
      refine ⟨p, _, j, kk, rfl, rfl, g2, by rw [g4.length]; exact e2, ?_⟩
      have na : NM Z σ S2 p → False := fun n => n (.inl ⟨i, _, e1, rfl, hp⟩)
      have hm : ∀ b, NM Z σ S2 b → H2 b ≠ none → NM Z σ S2 b ∧ upd H2 p (.lst (vs.set kk x)) b = H2 b := fun b n _ => ⟨n, upd_ne fun z => na (by rw [← z]; exact n)⟩
      obtain ⟨k3, st3⟩ := k2.chg (s := .own (ds.set kk d)) (o := .lst (vs.set kk x)) e1 rfl hp ⟨_, rfl⟩ rfl ⟨p, _, rfl, upd_same, g3, Reps.set (Rep.mono hm (fun _ x => x rfl) rr2) kk (g4.mono hm fun _ x => x)⟩
      exact l.nx _ _ _ k3 ((st1.trans st2).trans st3) q2
  -- which address it is: look once
  obtain ⟨o1, g1, g2⟩ := k1.ownAt em
  cases s1 with
  | no => cases hm1
  | val d => cases hm1
  | fre d => cases hm1
  | own ds => obtain ⟨p, _, rfl, _⟩ := g2; exact fin p g1
  | pen ad ns => obtain ⟨p, rfl, _⟩ := g2; exact fin p g1
  | odi ks ds => obtain ⟨p, _, rfl, _⟩ := g2; exact fin p g1
  | obj k => obtain ⟨p, rfl, _⟩ := g2; exact fin p g1⟩
def pick : List VR → Nat → Option (Nat × List VR)
  | .own i :: r, 0 => some (i, r)
  | x :: r, j + 1 => (pick r j).map fun p => (p.1, x :: p.2)
  | _, _ => none
def vFnI (j : Nat) (p : List Int → List D → (D → List Int → Prop) → Prop) (vr : VTA) : VT := fun S Q => vr S fun rs S1 => ∃ i rs' ad ns ds, pick rs j = some (i, rs') ∧ S1[i]? = some (.pen ad ns) ∧ allD rs' = some ds ∧ p ns ds fun d ns' => Q (.d d) (S1.set i (.pen ad ns'))
theorem RepRs.pick {F : FP} {Z : AP} {σ : St} {S : List Sl} {H : Hp} : ∀ {j : Nat} {vs : List V} {rs : List VR} {i : Nat} {rs' : List VR}, RepRs K F Z σ S H vs rs → VL.pick rs j = some (i, rs') → ∃ v ws us, vs = ws ++ v :: us ∧ ws.length = j ∧ σ[i]? = some (some v) ∧ RepRs K F Z σ S H (ws ++ us) rs' ∧ ws.length ≤ (ws ++ us).length
  | 0, _, _, i, rs', .cons (r := r) h t, e => by
    cases r with
    | d x => cases e
    | own k => cases e; exact ⟨_, [], _, rfl, rfl, h, t, by simp⟩
  | j + 1, _, _, i, rs', .cons (r := r) (rs := rs) h t, e => by
    have e' : (VL.pick rs j).map (fun p => (p.1, r :: p.2)) = some (i, rs') := by cases r <;> exact e
    obtain ⟨⟨i', q⟩, h1, h2⟩ := Option.map_eq_some_iff.mp e'
    cases h2
    obtain ⟨v, ws, us, rfl, hl, hs, rr, _⟩ := RepRs.pick t h1
    exact ⟨v, _ :: ws, us, rfl, by simp [hl], hs, .cons h rr, by simp⟩
  | _, _, _, _, _, .nil, e => by cases e
theorem Reps.splitAt {N : AP} {F : FP} {H : Hp} : ∀ {ws us : List V} {ds : List D}, Reps K N F H (ws ++ us) ds → ∃ d1 d2, ds = d1 ++ d2 ∧ Reps K N F H ws d1 ∧ Reps K N F H us d2
  | [], us, ds, h => ⟨[], ds, rfl, .nil, h⟩
  | w :: ws, us, _, .cons h t => by
    obtain ⟨d1, d2, rfl, h1, h2⟩ := Reps.splitAt (ws := ws) t
    exact ⟨_ :: d1, d2, rfl, .cons h h1, h2⟩
section
variable {es : List Expr} {tr : TA} {vr : VTA} {x : Str} {p0 : Pos} {j k : Nat} {ps : List Str}
theorem ve_fnI {jj : Nat} {p : List Int → List D → (D → List Int → Prop) → Prop} (E : Has X.prog X.w X.K X.mg X.base k x ps (spI K jj p)) (hr : Room j X.A) (ha : VA K X false (e :: es) tr vr)
    (hk : k ≤ j := by decide) (hg : Gl X x := by rfl) (hdb : (x == ("__debug__" : Str)) = false := by decide) (he : starEach (e :: es) X.env = (false, eval e X.env) :: starEach es X.env := by rfl)
    (hpl : (backTo pos (starEach es X.env)).any (·.1) = false := by rfl) : VE K X m (.Call (.Name x p0) (e :: es) [] pos) (tCall (spI K jj p) [] E0 tr) (vFnI jj p vr) := ⟨pe_fn E hr ha.pe hk hg hdb he hpl, fun H0 Z σ H S Q C k t hc =>
  ha.snd H0 Z σ H S _ _ k t fun vs H1 rs S1 k1 st1 rrs zq1 => by
    obtain ⟨i, rs', ad, ns, ds, e1, e2, e3, q⟩ := zq1
    obtain ⟨v, ws, us, rfl, hl, hs, rr, _⟩ := rrs.pick e1
    obtain ⟨o, g1, a, rfl, g2, g3⟩ := k1.ownAt e2
    rw [hs] at g1; cases g1
    have ma : Mo Z σ S1 a := .inl ⟨i, _, e2, rfl, hs⟩
    obtain ⟨d1, d2, rfl, r1, r2⟩ := Reps.splitAt (rr.allD e3)
    have hm : ∀ b, NM Z σ S1 b → H1 b ≠ none → b ≠ a ∧ H1 b = H1 b := fun b n _ => ⟨fun z => n (by rw [z]; exact ma), rfl⟩
    refine ⟨a, ws, us, ns, d1, d2, _, by rw [List.append_nil], hl, g3, r1.mono hm fun _ _ => trivial, r2.mono hm fun _ _ => trivial, q, fun d ns' v H' q g ga rv => ?_⟩
    -- the pen changed, and the heap grown
    have hG : ∀ b, upd H1 a (.lst (ns'.map V.int)) b ≠ none → H' b = upd H1 a (.lst (ns'.map V.int)) b := fun b hb => by
      by_cases hba : b = a
      · subst hba; rw [upd_same]; exact ga
      · rw [upd_ne hba] at hb ⊢; exact g b hba hb
    obtain ⟨k2, st2⟩ := k1.chg (s := .pen ad ns') (o := .lst (ns'.map V.int)) e2 rfl hs ⟨_, rfl⟩ rfl ⟨a, rfl, g2, upd_same⟩
    have k3 := k2.grow hG
    refine hc v H' (.d d) _ k3 ((st1.trans st2).trans (.grow hG)) (show Rep K _ _ H' v d from ?_) q
    refine (Rep.avoid (N' := NM Z σ (S1.set i (.pen ad ns'))) (fun b z => k3.mo (Classical.not_not.mp z)) (fun b ⟨c, ec, f⟩ => ?_) rv).mono (fun _ n _ => ⟨n, rfl⟩) (fun o ⟨c, ec, f⟩ _ => ⟨c, ec, k1.dom c f⟩)
    cases ec
    refine k2.nm ?_
    rw [upd_ne]
    · exact f
    · intro z; subst z; rw [g3] at f; cases f⟩
end
end
end VL
end
section
set_option maxHeartbeats 4000000
namespace VL
open PySem L2
def Gd (K : PySem.W.Frag) (Z : AP) (J : It) (ds : List D) (σ : St) (S : List Sl) (H : Hp) : Prop := ∀ σ2 S2 H2, (∀ p, H2 p = none → NM Z σ2 S2 p) → Step Z σ S H σ2 S2 H2 → ∀ i, (i < ds.length → J.go i H2) ∧ (∀ x H3, J.yld i H2 x H3 → i < ds.length → (∀ a, H2 a ≠ none → H3 a = H2 a) ∧ ∃ d, ds[i]? = some d ∧ Rep K (NM Z σ2 S2) AnyF H3 x d) ∧ (i = ds.length → J.stop i H2)
def SndI (K : PySem.W.Frag) (wi : TI) (vi : VTN) : Prop := ∀ H0 Z σ H S Q C, OK K H0 Z σ H S → vi S Q → (∀ J ds H' S', OK K H0 Z σ H' S' → Step Z σ S H σ S' H' → Gd K Z J ds σ S' H' → Q ds S' → C J H') → wi σ H C
structure VI (K : PySem.W.Frag) (X : Cx) (tg e : Expr) (wi : TI) (vi : VTN) : Prop where
  pi : PI X tg e wi
  snd : SndI K wi vi
section
variable {K : PySem.W.Frag} {X : Cx} {m : Bool} {e a b c tg : Expr} {ta tb tc te ti : TE} {va vb vc : VT} {pos : Pos} {st : Stmt} {rest : List Stmt} {t u : TS} {v w : VTS}
def vItL (va : VT) : VTN := fun S Q => va S fun r S1 => ∃ ds, r = .d (.lst ds) ∧ Q ds S1
def vItT (va : VT) : VTN := fun S Q => va S fun r S1 => ∃ ds, r = .d (.tup ds) ∧ Q ds S1
theorem vi_list (hK : X.K = K) (h : VE K X false e te va) : VI K X tg e (iList K te) (vItL va) := ⟨by subst hK; exact pi_list h.pe, fun H0 Z σ H S Q C k t hc => h.snd H0 Z σ H S _ _ k t fun v H1 r S1 k1 st1 rr zq1 => by
  obtain ⟨ds, e, q⟩ := zq1
  subst e
  have rr : Rep K _ _ H1 v (.lst ds) := rr
  obtain ⟨a, vs, rfl, hq, _⟩ := rr.sqL
  refine ⟨a, rfl, ⟨vs, hq⟩, hc _ ds H1 S1 k1 st1 (fun σ2 S2 H2 _ st2 i => ?_) q⟩
  obtain ⟨a', vs', e, hq2, r2⟩ := (rr.step st2).sqL
  cases e
  refine ⟨fun hi => ?_, fun x H3 hy hi => ?_, fun hi => ⟨vs', hq2, by rw [r2.length]; lia⟩⟩
  · obtain ⟨v, h1, _⟩ := r2.getD (List.getElem?_eq_getElem hi)
    exact ⟨vs', v, hq2, h1⟩
  · obtain ⟨e, h2⟩ := hy
    obtain ⟨d, h3, h4⟩ := r2.get (h2 vs' hq2)
    exact ⟨fun _ _ => by rw [e], d, h3, h4.mono (fun _ n _ => ⟨n, by rw [e]⟩) fun _ _ => trivial⟩⟩
theorem vi_tup (hK : X.K = K) (h : VE K X false e te va) : VI K X tg e (iTup K te) (vItT va) := ⟨by subst hK; exact pi_tup h.pe, fun H0 Z σ H S Q C k t hc => h.snd H0 Z σ H S _ _ k t fun v H1 r S1 k1 st1 rr zq1 => by
  obtain ⟨ds, e, q⟩ := zq1
  subst e
  have rr : Rep K _ _ H1 v (.tup ds) := rr
  obtain ⟨a, vs, rfl, hq, _⟩ := rr.sqT
  refine ⟨a, rfl, ⟨vs, hq⟩, hc _ ds H1 S1 k1 st1 (fun σ2 S2 H2 _ st2 i => ?_) q⟩
  obtain ⟨a', vs', e, hq2, r2⟩ := (rr.step st2).sqT
  cases e
  refine ⟨fun hi => ?_, fun x H3 hy hi => ?_, fun hi => ⟨vs', hq2, by rw [r2.length]; lia⟩⟩
  · obtain ⟨v, h1, _⟩ := r2.getD (List.getElem?_eq_getElem hi)
    exact ⟨vs', v, hq2, h1⟩
  · obtain ⟨e, h2⟩ := hy
    obtain ⟨d, h3, h4⟩ := r2.get (h2 vs' hq2)
    exact ⟨fun _ _ => by rw [e], d, h3, h4.mono (fun _ n _ => ⟨n, by rw [e]⟩) fun _ _ => trivial⟩⟩
def rg (lo : Int) (n : Nat) : List D := (List.range n).map fun (i : Nat) => D.int (lo + (i : Int))
theorem rg_len (lo : Int) (n : Nat) : (rg lo n).length = n := by simp [rg]
theorem rg_at {lo : Int} {n i : Nat} (h : i < n) : (rg lo n)[i]? = some (.int (lo + (i : Int))) := by simp [rg, h]
theorem gd_rng {lo : Int} {n : Nat} {Z : AP} {σ : St} {S : List Sl} {H : Hp} : Gd K Z (Itr lo n) (rg lo n) σ S H := fun σ2 S2 H2 _ st2 i => by
  rw [rg_len]
  refine ⟨fun h => h, fun x H3 ⟨e, hx⟩ hi => ⟨fun _ _ => by rw [e], _, rg_at hi, by rw [hx]; exact .int _⟩, fun h => by rw [h]; exact Nat.le_refl _⟩
section
variable {tr : TA} {vr : VTA} {p : Pos}
def vRg1 (vr : VTA) : VTN := fun S Q => vr S fun rs S1 => ∃ j : Int, rs = [.d (.int j)] ∧ -(2 ^ 62) ≤ j ∧ j < 2 ^ 62 ∧ Q (rg 0 j.toNat) S1
def vRg2 (vr : VTA) : VTN := fun S Q => vr S fun rs S1 => ∃ i j : Int, rs = [.d (.int i), .d (.int j)] ∧ (-(2 ^ 62) ≤ i ∧ i < 2 ^ 62 ∧ -(2 ^ 62) ≤ j ∧ j < 2 ^ 62) ∧ Q (rg i (j - i).toNat) S1
theorem vi_range1 (hg : Gl X "range") (hm : X.mg "range" = none) (ha : VA K X false [a] tr vr) (hs : starEach [a] X.env = [(false, eval a X.env)] := by rfl) : VI K X tg (.Call (.Name "range" p) [a] [] pos) (iRng1 tr) (vRg1 vr) := ⟨pi_range1 hg hm ha.pe hs, fun H0 Z σ H S Q C k t hc =>
  ha.snd H0 Z σ H S _ _ k t fun vs H1 rs S1 k1 st1 rrs zq1 => by
    obtain ⟨j, e, h1, h2, q⟩ := zq1
    subst e
    cases rrs with
    | cons r t =>
      cases t
      cases (show Rep K _ _ H1 _ (.int j) from r)
      exact ⟨j, rfl, h1, h2, hc _ _ H1 S1 k1 st1 gd_rng q⟩⟩
theorem vi_range2 (hg : Gl X "range") (hm : X.mg "range" = none) (ha : VA K X false [a, b] tr vr) (hs : starEach [a, b] X.env = [(false, eval a X.env), (false, eval b X.env)] := by rfl) (hs2 : starEach [b] X.env = [(false, eval b X.env)] := by rfl) : VI K X tg (.Call (.Name "range" p) [a, b] [] pos) (iRng2 tr) (vRg2 vr) := ⟨pi_range2 hg hm ha.pe hs hs2, fun H0 Z σ H S Q C k t hc =>
  ha.snd H0 Z σ H S _ _ k t fun vs H1 rs S1 k1 st1 rrs zq1 => by
    obtain ⟨i, j, e, h1, q⟩ := zq1
    subst e
    cases rrs with
    | cons r t =>
      cases t with
      | cons r' t =>
        cases t
        cases (show Rep K _ _ H1 _ (.int i) from r)
        cases (show Rep K _ _ H1 _ (.int j) from r')
        exact ⟨i, j, rfl, h1, hc _ _ H1 S1 k1 st1 gd_rng q⟩⟩
end
def runFor (vg : VG) (vb : VTS) (V : VEnds) : List D → List Sl → Prop
  | [] => V.nx
  | d :: r => fun S => vg d S fun S3 => vb ⟨runFor vg vb V r, V.rt, V.nx, runFor vg vb V r⟩ S3
def vFor (vi : VTN) (vg : VG) (vb : VTS) : VTS := fun V S => vi S fun ds S1 => runFor vg vb V ds S1 ∨ ∃ Iv : Nat → List Sl → Prop, Iv 0 S1 ∧ (∀ i d S2, ds[i]? = some d → Iv i S2 → vg d S2 fun S3 => vb { V with nx := Iv (i + 1), ct := Iv (i + 1), bk := V.nx } S3) ∧ ∀ S2, Iv ds.length S2 → V.nx S2
theorem vs_for {body : List Stmt} {wi : TI} {vi : VTN} {g : TG} {vg : VG} (hp : PassesOwn (model X.prog X.w) X.A X.env X.xe) (hc : X.calm = true) (hi : VI K X tg e wi vi) (hg : VGe K X tg g vg) (hb : VSs K X body t v) (hs : ∀ x, foldedSetIterable e X.env x = pure x := by intro _; rfl) :
    VS K X (.For tg e body [] pos) (tFor wi g t) (vFor vi vg v) := ⟨ps_for hp hc hi.pi hg.pg hb.ps hs, fun H0 Z σ H S V E k t l => hi.snd H0 Z σ H S _ _ k t fun J ds H1 S1 k1 st1 gd hh => by
  rcases hh with hr | ⟨Iv, i0, hs, hd⟩
  · refine ⟨fun i m σ H => m = ds.length - i ∧ i ≤ ds.length ∧ ∃ S2, OK K H0 Z σ H S2 ∧ Step Z _ S1 H1 σ S2 H ∧ runFor vg v V (ds.drop i) S2, ⟨ds.length, by simp, Nat.zero_le _, S1, k1, .refl, by simpa using hr⟩, ?_⟩
    rintro i m σ2 H2 ⟨rfl, hi, S2, k2, st2, p⟩
    obtain ⟨g1, g2, g3⟩ := gd σ2 S2 H2 (fun _ => k2.nm) st2 i
    by_cases hlt : i < ds.length
    · rw [List.drop_eq_getElem_cons hlt] at p
      refine .inr ⟨g1 hlt, fun σ' H' => ∃ S', OK K H0 Z σ' H' S' ∧ Step Z σ S1 H1 σ' S' H' ∧ runFor vg v V (ds.drop (i + 1)) S', fun σ' H' p' => ⟨ds.length - (i + 1), by lia, rfl, hlt, p'⟩, fun x H3 y => ?_⟩
      obtain ⟨hgr, d, hd', rd⟩ := g2 x H3 y hlt
      replace k2 := k2.grow hgr
      replace st2 := st2.trans (.grow hgr)
      rw [List.getElem?_eq_getElem hlt] at hd'
      cases hd'
      refine hg.snd H0 Z σ2 H3 S2 x _ _ _ k2 rd p fun σ4 H4 S4 k4 st4 q4 => ?_
      refine hb.snd H0 Z σ4 H4 S4 _ _ k4 q4 ⟨fun σ' H' S' k' s' q' => ⟨S', k', (st2.trans st4).trans s', q'⟩, fun σ' H' S' k' s' q' => l.nx σ' H' S' k' (((st1.trans st2).trans st4).trans s') q', fun σ' H' S' k' s' q' => ⟨S', k', (st2.trans st4).trans s', q'⟩, fun v d σ' H' S' k' s' r' q' => l.rt v d σ' H' S' k' (((st1.trans st2).trans st4).trans s') r' q'⟩
    · have e : i = ds.length := by lia
      rw [e, List.drop_length] at p
      exact .inl ⟨g3 e, l.nx _ _ _ k2 (st1.trans st2) p⟩
  refine ⟨fun i m σ H => m = ds.length - i ∧ i ≤ ds.length ∧ ∃ S2, OK K H0 Z σ H S2 ∧ Step Z _ S1 H1 σ S2 H ∧ Iv i S2, ⟨ds.length, by simp, Nat.zero_le _, S1, k1, .refl, i0⟩, ?_⟩
  rintro i m σ2 H2 ⟨rfl, hi, S2, k2, st2, p⟩
  obtain ⟨g1, g2, g3⟩ := gd σ2 S2 H2 (fun _ => k2.nm) st2 i
  by_cases hlt : i < ds.length
  · refine .inr ⟨g1 hlt, fun σ' H' => ∃ S', OK K H0 Z σ' H' S' ∧ Step Z σ S1 H1 σ' S' H' ∧ Iv (i + 1) S', fun σ' H' p' => ⟨ds.length - (i + 1), by lia, rfl, hlt, p'⟩, fun x H3 y => ?_⟩
    obtain ⟨hgr, d, hd', rd⟩ := g2 x H3 y hlt
    replace k2 := k2.grow hgr
    replace st2 := st2.trans (.grow hgr)
    refine hg.snd H0 Z σ2 H3 S2 x d _ _ k2 rd (hs i d S2 hd' p) fun σ4 H4 S4 k4 st4 q4 => ?_
    refine hb.snd H0 Z σ4 H4 S4 _ _ k4 q4 ⟨fun σ' H' S' k' s' q' => ⟨S', k', (st2.trans st4).trans s', q'⟩, fun σ' H' S' k' s' q' => l.nx σ' H' S' k' (((st1.trans st2).trans st4).trans s') q', fun σ' H' S' k' s' q' => ⟨S', k', (st2.trans st4).trans s', q'⟩, fun v d σ' H' S' k' s' r' q' => l.rt v d σ' H' S' k' (((st1.trans st2).trans st4).trans s') r' q'⟩
  · have e : i = ds.length := by lia
    exact .inl ⟨g3 e, l.nx _ _ _ k2 (st1.trans st2) (hd S2 (by rw [← e]; exact p))⟩⟩
end
def capS (n : Nat) (ix : List Nat) (S : List Sl) : List Sl := List.replicate n .no ++ ix.map fun i => (S[i]?).getD .no
def back1 (s t : Sl) : Sl := if s.mut then (if t.mut then t else .no) else s
def backFrom (n : Nat) (ix : List Nat) (T : List Sl) : Nat → List Sl → List Sl
  | _, [] => []
  | k, s :: r => (match ix.idxOf? k with | some j => back1 s ((T[n + j]?).getD .no) | none => s) :: backFrom n ix T (k + 1) r
def backS (n : Nat) (ix : List Nat) (S T : List Sl) : List Sl := backFrom n ix T 0 S
def Zin (Z : AP) (ix : List Nat) (σ : St) (S : List Sl) : AP := fun a => Z a ∨ ∃ (i : Nat) (s : Sl), i ∉ ix ∧ S[i]? = some s ∧ s.mut = true ∧ σ[i]? = some (some (V.ref a))
section
variable {K : PySem.W.Frag} {H H' H0 : Hp} {Z : AP} {σ σ' : St} {S T : List Sl} {n : Nat} {ix : List Nat}
theorem back_len (k : Nat) : (backFrom n ix T k S).length = S.length := by
  induction S generalizing k with
  | nil => rfl
  | cons s r ih => simp [backFrom, ih]
theorem back_at (k : Nat) {i : Nat} {s : Sl} (h : S[i]? = some s) : (backFrom n ix T k S)[i]? = some (match ix.idxOf? (k + i) with | some j => back1 s ((T[n + j]?).getD .no) | none => s) := by
  induction S generalizing k i with
  | nil => simp at h
  | cons s' r ih =>
    cases i with
    | zero => simp at h; subst h; rfl
    | succ i =>
      simp at h
      simp only [backFrom, List.getElem?_cons_succ]
      rw [ih (k + 1) h, show k + 1 + i = k + (i + 1) by lia]
theorem cap_at {j : Nat} {s : Sl} (h : (capS n ix S)[j]? = some s) (m : s.mut = true) : ∃ k i, j = n + k ∧ ix[k]? = some i ∧ S[i]? = some s := by
  unfold capS at h
  by_cases hj : j < n
  · rw [List.getElem?_append_left (by simpa using hj)] at h
    simp [hj] at h
    subst h; cases m
  · rw [List.getElem?_append_right (by simp; lia)] at h
    simp only [List.length_replicate, List.getElem?_map] at h
    cases hk : ix[j - n]? with
    | none => rw [hk] at h; cases h
    | some i =>
      rw [hk] at h
      simp at h
      refine ⟨j - n, i, by lia, hk, ?_⟩
      cases hs : S[i]? with
      | none => rw [hs] at h; simp at h; subst h; cases m
      | some s' => rw [hs] at h; simp at h; subst h; rfl
theorem cap_val {j : Nat} {s : Sl} (h : (capS n ix S)[j]? = some s) : s = .no ∨ ∃ k i, j = n + k ∧ ix[k]? = some i ∧ S[i]? = some s := by
  unfold capS at h
  by_cases hj : j < n
  · rw [List.getElem?_append_left (by simpa using hj)] at h
    simp [hj] at h
    exact .inl h.symm
  · rw [List.getElem?_append_right (by simp; lia)] at h
    simp only [List.length_replicate, List.getElem?_map] at h
    cases hk : ix[j - n]? with
    | none => rw [hk] at h; cases h
    | some i =>
      rw [hk] at h
      simp at h
      cases hs : S[i]? with
      | none => rw [hs] at h; simp at h; exact .inl h.symm
      | some s' => rw [hs] at h; simp at h; subst h; exact .inr ⟨j - n, i, by lia, hk, hs⟩
theorem capt_at {k i : Nat} (h : ix[k]? = some i) : (capt n ix σ)[n + k]? = some ((σ[i]?).getD none) := by
  unfold capt
  rw [List.getElem?_append_right (by simp)]
  simp [h]
theorem capS_at {k i : Nat} (h : ix[k]? = some i) : (capS n ix S)[n + k]? = some ((S[i]?).getD .no) := by
  unfold capS
  rw [List.getElem?_append_right (by simp)]
  simp [h]
theorem capt_get {k i : Nat} {v : V} (h : ix[k]? = some i) (e : (capt n ix σ)[n + k]? = some (some v)) : σ[i]? = some (some v) := by
  rw [capt_at h] at e
  cases hs : σ[i]? with
  | none => rw [hs] at e; cases e
  | some o => rw [hs] at e; simp at e; rw [e]
theorem mo_cap {a : Addr} : Mo (Zin Z ix σ S) (capt n ix σ) (capS n ix S) a ↔ Mo Z σ S a := by
  constructor
  · rintro (⟨j, s, h1, h2, h3⟩ | h | ⟨i, s, _, h1, h2, h3⟩)
    · obtain ⟨k, i, rfl, hk, hs⟩ := cap_at h1 h2
      exact .inl ⟨i, s, hs, h2, capt_get hk h3⟩
    · exact .inr h
    · exact .inl ⟨i, s, h1, h2, h3⟩
  · rintro (⟨i, s, h1, h2, h3⟩ | h)
    · by_cases hi : i ∈ ix
      · obtain ⟨k, hk⟩ := List.getElem?_of_mem hi
        refine .inl ⟨n + k, s, ?_, h2, ?_⟩
        · rw [capS_at hk, h1]; rfl
        · rw [capt_at hk, h3]; rfl
      · exact .inr (.inr ⟨i, s, hi, h1, h2, h3⟩)
    · exact .inr (.inl h)
theorem nodup_idx {l : List Nat} (h : l.Nodup) : ∀ {i j x : Nat}, l[i]? = some x → l[j]? = some x → i = j := fun {i j x} h1 h2 => by
  obtain ⟨a, e1⟩ := List.getElem?_eq_some_iff.mp h1
  obtain ⟨b, e2⟩ := List.getElem?_eq_some_iff.mp h2
  have hp := List.pairwise_iff_getElem.mp h
  rcases Nat.lt_trichotomy i j with c | c | c
  · exact (hp i j a b c (by rw [e1, e2])).elim
  · exact c
  · exact (hp j i b a c (by rw [e1, e2])).elim
theorem OK.capt (k : OK K H0 Z σ H S) (hn : ix.Nodup) : OK K H0 (Zin Z ix σ S) (L2.capt n ix σ) H (capS n ix S) where
  len := by simp [L2.capt, capS]
  dom := k.dom
  zl := fun a z => by
    rcases z with z | ⟨i, s, _, h1, h2, h3⟩
    · exact k.zl a z
    · exact k.mo (.inl ⟨i, s, h1, h2, h3⟩)
  nz := fun j s a h1 h2 h3 z => by
    obtain ⟨q, i, rfl, hk, hs⟩ := cap_at h1 h2
    have e := capt_get hk h3
    rcases z with z | ⟨i', s', hi', g1, g2, g3⟩
    · exact k.nz i s a hs h2 e z
    · have := k.inj i i' a s s' hs g1 h2 g2 e g3
      subst this
      exact hi' (List.mem_of_getElem? hk)
  inj := fun j j' a s s' h1 h2 m1 m2 h3 h4 => by
    obtain ⟨q, i, rfl, hk, hs⟩ := cap_at h1 m1
    obtain ⟨q', i', rfl, hk', hs'⟩ := cap_at h2 m2
    have := k.inj i i' a s s' hs hs' m1 m2 (capt_get hk h3) (capt_get hk' h4)
    subst this
    rw [nodup_idx hn hk hk']
  at_ := fun j o s h1 h2 => by
    have hN : ∀ a, NM Z σ S a → NM (Zin Z ix σ S) (L2.capt n ix σ) (capS n ix S) a := fun a x z => x (mo_cap.mp z)
    rcases cap_val h2 with rfl | ⟨q, i, rfl, hk, hs⟩
    · trivial
    · rw [capt_at hk] at h1
      obtain ⟨o', e1, sl⟩ := k.ownAt hs
      rw [e1] at h1
      simp at h1
      subst h1
      cases s with
      | no => trivial
      | val d => obtain ⟨v, e, r⟩ := sl; exact ⟨v, e, r.mono (fun a x _ => ⟨hN a x, rfl⟩) fun _ x => x⟩
      | fre d => obtain ⟨v, e, r⟩ := sl; exact ⟨v, e, r.mono (fun a x _ => ⟨hN a x, rfl⟩) fun _ x => x⟩
      | own ds => obtain ⟨a, vs, e, e', e0, r⟩ := sl; exact ⟨a, vs, e, e', e0, r.mono (fun a x _ => ⟨hN a x, rfl⟩) fun _ x => x⟩
      | pen ad ns => exact sl
      | odi ks ds => obtain ⟨a, vs, e, e', e0, ek, r⟩ := sl; exact ⟨a, vs, e, e', e0, ⟨ek.1, ek.2.mono (fun a x _ => ⟨hN a x, rfl⟩) fun _ x => x⟩, r.mono (fun a x _ => ⟨hN a x, rfl⟩) fun _ x => x⟩
      | obj k => obtain ⟨a, e, e0, r⟩ := sl; exact ⟨a, e, e0, k.mono (fun a x _ => ⟨hN a x, rfl⟩) rfl r⟩
theorem idx_some {i j : Nat} (h : ix.idxOf? i = some j) : ix[j]? = some i := by
  unfold List.idxOf? at h
  obtain ⟨h1, h2, _⟩ := List.findIdx?_eq_some_iff_getElem.mp h
  rw [List.getElem?_eq_getElem h1]
  simpa using h2
theorem idx_none {i : Nat} (h : ix.idxOf? i = none) : i ∉ ix := by
  unfold List.idxOf? at h
  intro hm
  have := List.findIdx?_eq_none_iff.mp h i hm
  simp at this
theorem backS_at {i : Nat} {s : Sl} (h : S[i]? = some s) : (backS n ix S T)[i]? = some (match ix.idxOf? i with | some j => back1 s ((T[n + j]?).getD .no) | none => s) := by
  have := back_at (n := n) (ix := ix) (T := T) 0 h
  rwa [Nat.zero_add] at this
theorem backS_mut {i : Nat} {s' : Sl} (h : (backS n ix S T)[i]? = some s') (m : s'.mut = true) : ∃ s, S[i]? = some s ∧ s.mut = true ∧ ((∃ j, ix[j]? = some i ∧ T[n + j]? = some s') ∨ (i ∉ ix ∧ s = s')) := by
  have hl : i < S.length := by
    have := (List.getElem?_eq_some_iff.mp h).1
    rwa [show (backS n ix S T).length = S.length from back_len 0] at this
  have e := backS_at (n := n) (ix := ix) (T := T) (List.getElem?_eq_getElem hl)
  rw [h] at e
  have e := Option.some.inj e
  refine ⟨_, List.getElem?_eq_getElem hl, ?_⟩
  cases hx : ix.idxOf? i with
  | none =>
    rw [hx] at e
    have e : s' = S[i] := e
    exact ⟨by rw [← e]; exact m, .inr ⟨idx_none hx, e.symm⟩⟩
  | some j =>
    rw [hx] at e
    simp only [back1] at e
    by_cases hm : (S[i]).mut = true
    · rw [if_pos hm] at e
      refine ⟨hm, .inl ⟨j, idx_some hx, ?_⟩⟩
      cases ht : T[n + j]? with
      | none => rw [ht] at e; simp [Sl.mut] at e; subst e; cases m
      | some t =>
        rw [ht] at e
        simp only [Option.getD_some] at e
        by_cases htm : t.mut = true
        · rw [if_pos htm] at e; rw [e]
        · rw [if_neg htm] at e; subst e; cases m
    · rw [if_neg hm] at e; subst e; exact (hm m).elim
theorem backS_val {i : Nat} {s' : Sl} (h : (backS n ix S T)[i]? = some s') (m : s'.mut = false) : s' = .no ∨ S[i]? = some s' := by
  have hl : i < S.length := by
    have := (List.getElem?_eq_some_iff.mp h).1
    rwa [show (backS n ix S T).length = S.length from back_len 0] at this
  have e := backS_at (n := n) (ix := ix) (T := T) (List.getElem?_eq_getElem hl)
  rw [h] at e
  have e := Option.some.inj e
  cases hx : ix.idxOf? i with
  | none => rw [hx] at e; exact .inr (by rw [List.getElem?_eq_getElem hl, e])
  | some j =>
    rw [hx] at e
    simp only [back1] at e
    by_cases hm : (S[i]).mut = true
    · rw [if_pos hm] at e
      by_cases htm : ((T[n + j]?).getD .no).mut = true
      · rw [if_pos htm] at e; rw [e, htm] at m; cases m
      · rw [if_neg htm] at e; exact .inl e
    · rw [if_neg hm] at e; exact .inr (by rw [List.getElem?_eq_getElem hl, e])
theorem OK.back (k : OK K H0 Z σ H S) (k' : OK K H0 (Zin Z ix σ S) σ' H' T) (st : Step (Zin Z ix σ S) (L2.capt n ix σ) (capS n ix S) H σ' T H') (hσ : ∀ (i : Nat) (v : V), (L2.capt n ix σ)[i]? = some (some v) → σ'[i]? = some (some v)) :
    OK K H0 Z σ H' (backS n ix S T) ∧ Step Z σ S H σ (backS n ix S T) H' ∧ ∀ a, NM (Zin Z ix σ S) σ' T a → NM Z σ (backS n ix S T) a := by
  have mo' : ∀ a, Mo Z σ (backS n ix S T) a → Mo (Zin Z ix σ S) σ' T a := fun a z => by
    rcases z with ⟨i, s', h1, h2, h3⟩ | z
    · obtain ⟨s, e, em, ⟨j, hj, ht⟩ | ⟨hi, rfl⟩⟩ := backS_mut h1 h2
      · exact .inl ⟨n + j, s', ht, h2, hσ _ _ (by rw [capt_at hj, h3]; rfl)⟩
      · exact .inr (.inr ⟨i, s, hi, e, em, h3⟩)
    · exact .inr (.inl z)
  have nm' : ∀ a, NM (Zin Z ix σ S) σ' T a → NM Z σ (backS n ix S T) a := fun a x z => x (mo' a z)
  have nm0 : ∀ a, NM Z σ S a → NM (Zin Z ix σ S) (L2.capt n ix σ) (capS n ix S) a := fun a x z => x (mo_cap.mp z)
  have old : ∀ a, NM Z σ S a → H a ≠ none → NM Z σ (backS n ix S T) a ∧ H' a = H a := fun a x e => ⟨nm' a (st.1 a (nm0 a x) e).2, (st.1 a (nm0 a x) e).1⟩
  refine ⟨⟨by rw [show (backS n ix S T).length = S.length from back_len 0]; exact k.len, fun i o s' h1 h2 => ?_, fun i j a s t h1 h2 m1 m2 h3 h4 => ?_, fun a e => k'.dom a e, fun a z => k'.zl a (.inl z), fun i s a h1 m h3 z => ?_⟩, ⟨fun a x e => ⟨(old a x e).2, (old a x e).1⟩, st.2.1, fun a z e => st.2.2 a (.inl z) e⟩, nm'⟩
  · cases hm : s'.mut with
    | true =>
      obtain ⟨s, e, em, ⟨j, hj, ht⟩ | ⟨hi, rfl⟩⟩ := backS_mut h2 hm
      · have eo : ∃ v, o = some v := by
          obtain ⟨o', e1, q⟩ := k.ownAt e
          rw [h1] at e1; cases e1
          cases s with
          | no => cases em
          | val d => cases em
          | fre d => cases em
          | own ds => obtain ⟨a, _, e, _⟩ := q; exact ⟨_, e⟩
          | pen ad ns => obtain ⟨a, e, _⟩ := q; exact ⟨_, e⟩
          | odi ks ds => obtain ⟨a, _, e, _⟩ := q; exact ⟨_, e⟩
          | obj k => obtain ⟨a, e, _⟩ := q; exact ⟨_, e⟩
        obtain ⟨v, rfl⟩ := eo
        have q := k'.at_ (n + j) (some v) s' (hσ _ _ (by rw [capt_at hj, h1]; rfl)) ht
        cases s' with
        | no => cases hm
        | val d => cases hm
        | fre d => cases hm
        | own ds => obtain ⟨a, vs, e, e', e0, r⟩ := q; exact ⟨a, vs, e, e', e0, r.mono (fun a x _ => ⟨nm' a x, rfl⟩) fun _ x => x⟩
        | pen ad ns => exact q
        | odi ks ds => obtain ⟨a, vs, e, e', e0, ek, r⟩ := q; exact ⟨a, vs, e, e', e0, ⟨ek.1, ek.2.mono (fun a x _ => ⟨nm' a x, rfl⟩) fun _ x => x⟩, r.mono (fun a x _ => ⟨nm' a x, rfl⟩) fun _ x => x⟩
        | obj k => obtain ⟨a, e, e0, r⟩ := q; exact ⟨a, e, e0, k.mono (fun a x _ => ⟨nm' a x, rfl⟩) rfl r⟩
      · obtain ⟨o', e1, q⟩ := k.ownAt e
        rw [h1] at e1; cases e1
        have hz : ∀ a us, o = some (V.ref a) → H a = some us → H' a = H a := fun a us eo ea => st.2.2 a (.inr ⟨i, s, hi, e, em, by rw [h1, eo]⟩) (by simp [ea])
        cases s with
        | no => cases hm
        | val d => cases hm
        | fre d => cases hm
        | own ds => obtain ⟨a, vs, e, e', e0, r⟩ := q; exact ⟨a, vs, e, (hz a _ e e').trans e', e0, r.mono old fun _ x => x⟩
        | pen ad ns => obtain ⟨a, e, e1, e'⟩ := q; exact ⟨a, e, e1, (hz a _ e e').trans e'⟩
        | odi ks ds => obtain ⟨a, vs, e, ⟨ob, e'⟩, e0, ek, r⟩ := q; exact ⟨a, vs, e, ⟨ob, (hz a _ e e').trans e'⟩, e0, ⟨ek.1, ek.2.mono old fun _ x => x⟩, r.mono old fun _ x => x⟩
        | obj k => obtain ⟨a, e, e0, r⟩ := q; exact ⟨a, e, e0, k.mono old (hz a _ e (Option.ne_none_iff_exists'.mp (k.ism r).ne).choose_spec) r⟩
    | false =>
      rcases backS_val h2 hm with rfl | e
      · trivial
      · have q := k.at_ i o s' h1 e
        cases s' with
        | no => trivial
        | val d => obtain ⟨v, e, r⟩ := q; exact ⟨v, e, r.mono old fun _ x => x⟩
        | fre d => obtain ⟨v, e, r⟩ := q; exact ⟨v, e, r.mono old fun _ x => x⟩
        | own ds => cases hm
        | pen ad ns => cases hm
        | odi ks ds => cases hm
        | obj k => cases hm
  · obtain ⟨s0, e0, em0, c1⟩ := backS_mut h1 m1
    obtain ⟨t0, f0, fm0, c2⟩ := backS_mut h2 m2
    exact k.inj i j a s0 t0 e0 f0 em0 fm0 h3 h4
  · obtain ⟨s0, e0, em0, c1⟩ := backS_mut h1 m
    exact k.nz i s0 a e0 em0 h3 z
end
section
variable {K : PySem.W.Frag} {X : Cx} {e a b c tg elt iter : Expr} {te : TE} {va : VT} {pos : Pos}
structure VTs (K : PySem.W.Frag) (X : Cx) (ifs : List Expr) (te : TT) (t : VTT) : Prop where
  pe : PTs X ifs te
  snd : SndT K te t
def vTrue : VTT := fun S Q => Q true S
theorem vts_nil : VTs K X [] tTrue vTrue := ⟨pts_nil, fun _ _ _ _ _ _ _ k h q => q _ _ _ k .refl h⟩
theorem vts_one {tA : TT} {wA : VTT} (h : VTe K X c tA wA) : VTs K X [c] tA wA := ⟨pts_one h.pe, h.snd⟩
def vComp (vi : VTN) (n : Nat) (ix : List Nat) (vg : VG) (vt : VTT) (ve : VT) : VTN := fun S Q => vi S fun ds S1 => ds.length ≤ 1000000 ∧ ∃ Iv : Nat → List D → List Sl → Prop, Iv 0 [] S1 ∧
  (∀ i d ys S2, ds[i]? = some d → Iv i ys S2 → vg d (capS n ix S2) fun S3 => vt S3 fun b S4 => if b = true then ve S4 fun r S5 => ∃ x, r = .d x ∧ Iv (i + 1) (ys ++ [x]) (backS n ix S2 S5) else Iv (i + 1) ys (backS n ix S2 S4)) ∧
  ∀ ys S2, Iv ds.length ys S2 → Q ys S2
theorem vn_comp {ifs : List Expr} {scope : Scope} {tg cs : List Str} {ix : List Nat} {target : Expr} {wi : TI} {vi : VTN} {g : TG} {vg : VG} {tc : TT} {vt : VTT} {te : TE} {ve : VT} (Sc : CompScope X scope tg cs ix) (hcalm : X.calm = true) (kg : KeepsG tg.length ix g) (hnd : ix.Nodup)
    (hi : VI K X target iter wi vi) (hg : ∀ C fp s H, VGe K (cxComp X scope (tg ++ cs) C fp s H) target g vg) (hc : ∀ C fp s H, VTs K (cxComp X scope (tg ++ cs) C fp s H) ifs tc vt) (he : ∀ C fp s H, VE K (cxComp X scope (tg ++ cs) C fp s H) true elt te ve)
    (hs : ∀ x, foldedSetIterable iter X.env x = pure x := by intro _; rfl) : VN K X (.ListComp elt [⟨target, iter, ifs, 0⟩] scope pos) (tComp wi tg.length ix g tc te) (vComp vi tg.length ix vg vt ve) := by
  have sg : SndG K g vg := (hg 0 [] X.s₀ (fun _ => none)).snd
  have sc : SndT K tc vt := (hc 0 [] X.s₀ (fun _ => none)).snd
  have se : SndE K true te ve := (he 0 [] X.s₀ (fun _ => none)).snd
  refine ⟨pe_comp Sc hcalm kg hi.pi (fun C fp s H => (hg C fp s H).pg) (fun C fp s H => (hc C fp s H).pe) (fun C fp s H => (he C fp s H).pe) hs, fun H0 Z σ H S Q C k t hq => ?_⟩
  refine hi.snd H0 Z σ H S _ _ k t fun J ds H1 S1 k1 st1 gd ⟨hl, Iv, i0, hs, hd⟩ => ?_
  refine ⟨fun i m ys H => m = ds.length - i ∧ i ≤ ds.length ∧ ys.length ≤ i ∧ ∃ S2 zs, OK K H0 Z σ H S2 ∧ Step Z σ S1 H1 σ S2 H ∧ Reps K (NM Z σ S2) (Fr H0) H ys zs ∧ Iv i zs S2, ⟨ds.length, by simp, Nat.zero_le _, Nat.le_refl _, S1, [], k1, .refl, .nil, i0⟩, ?_⟩
  rintro i m ys H2 ⟨rfl, hi, hy, S2, zs, k2, st2, rz, p⟩
  obtain ⟨g1, g2, g3⟩ := gd σ S2 H2 (fun _ => k2.nm) st2 i
  have hsz : (1000000 : Nat) < sizeLine := by rw [sizeLine_eq]; lia
  by_cases hlt : i < ds.length
  · refine .inr ⟨g1 hlt, by lia, fun ys' H' => ys'.length ≤ i + 1 ∧ ∃ S' zs', OK K H0 Z σ H' S' ∧ Step Z σ S1 H1 σ S' H' ∧ Reps K (NM Z σ S') (Fr H0) H' ys' zs' ∧ Iv (i + 1) zs' S', fun ys' H' ⟨p1, p2⟩ => ⟨ds.length - (i + 1), by lia, rfl, hlt, p1, p2⟩, fun x H3 y => ?_⟩
    obtain ⟨hgr, d, hd', rd⟩ := g2 x H3 y hlt
    replace k2 := k2.grow hgr
    replace st2 := st2.trans (.grow hgr)
    replace rz := rz.step (.grow hgr)
    have kc := k2.capt (n := tg.length) hnd
    have rd' : Rep K (NM (Zin Z ix σ S2) (L2.capt tg.length ix σ) (capS tg.length ix S2)) AnyF H3 x d := rd.mono (fun a n _ => ⟨fun z => n (mo_cap.mp z), rfl⟩) fun _ x => x
    -- the target leaves what the block took over
    have h1 := sg H0 _ _ H3 _ x d _ (fun σ4 H4 => ∃ S4, OK K H0 (Zin Z ix σ S2) σ4 H4 S4 ∧ Step (Zin Z ix σ S2) (L2.capt tg.length ix σ) (capS tg.length ix S2) H3 σ4 S4 H4 ∧ vt S4 fun b S5 => if b = true then ve S5 fun r S6 => ∃ x, r = .d x ∧ Iv (i + 1) (zs ++ [x]) (backS tg.length ix S2 S6) else Iv (i + 1) zs (backS tg.length ix S2 S5)) kc rd' (hs i d zs S2 hd' p) (fun σ4 H4 S4 k4 st4 q4 => ⟨S4, k4, st4, q4⟩)
    have h2 := kg x σ H3 _ h1
    refine (hg 0 [] X.s₀ (fun _ => none)).mono _ _ _ _ _ ?_ h2
    rintro σ4 H4 ⟨⟨hl4, hσ4⟩, S4, k4, st4, q4⟩
    refine sc H0 _ σ4 H4 S4 _ _ k4 q4 fun bb H5 S5 k5 st5 q5 => ?_
    cases bb with
    | false =>
      rw [if_neg Bool.false_ne_true] at q5 ⊢
      obtain ⟨kb, sb, nb⟩ := k2.back k5 (st4.trans st5) hσ4
      exact ⟨by lia, _, zs, kb, st2.trans sb, rz.step sb, q5⟩
    | true =>
      rw [if_pos rfl] at q5 ⊢
      refine se H0 _ σ4 H5 S5 _ _ k5 q5 fun vv H6 r S6 k6 st6 rr ⟨xx, er, q6⟩ => ?_
      subst er
      obtain ⟨kb, sb, nb⟩ := k2.back k6 ((st4.trans st5).trans st6) hσ4
      refine ⟨by simp; lia, _, zs ++ [xx], kb, st2.trans sb, Reps.append (rz.step sb) (.cons (Rep.mono (fun a n _ => ⟨nb a n, rfl⟩) (fun _ x => x rfl) rr) .nil), q6⟩
  · have e : i = ds.length := by lia
    refine .inl ⟨g3 e, by lia, fun l hp => ?_⟩
    exact hq l ys zs H2 _ S2 k2 (st1.trans st2) hp (upd_grow hp) upd_same (reps_new hp (rz.mono (fun _ n _ => ⟨n, rfl⟩) fun _ x _ => x)) (hd zs S2 (by rw [← e]; exact p))
theorem vs_compV {elt iter : Expr} {pos spos py : Pos} {yy : Str} {ii : Nat} {ifs : List Expr} {scope : Scope} {tg cs : List Str} {ix : List Nat} {target : Expr} {wi : TI} {vi : VTN} {g : TG} {vg : VG} {tc : TT} {vt : VTT} {te : TE} {ve : VT} (hN0 : X.N.Nodup) (hi0 : X.N[ii]? = some yy) (hx0 : Loc X.env.scope yy) (hf0 : X.fn yy = true ∨ X.env.scope.names.lookup yy = some .local)
    (Sc : CompScope X scope tg cs ix) (hcalm : X.calm = true) (kg : KeepsG tg.length ix g) (hnd : ix.Nodup)
    (hi : VI K X target iter wi vi) (hg : ∀ C fp s H, VGe K (cxComp X scope (tg ++ cs) C fp s H) target g vg) (hc : ∀ C fp s H, VTs K (cxComp X scope (tg ++ cs) C fp s H) ifs tc vt) (he : ∀ C fp s H, VE K (cxComp X scope (tg ++ cs) C fp s H) true elt te ve)
    (hsw : swapsWith (.ListComp elt [⟨target, iter, ifs, 0⟩] scope pos) (some (.Name yy py)) spos.line X.env = pure true := by rfl) (hs : ∀ x, foldedSetIterable iter X.env x = pure x := by intro _; rfl) : VS K X (.Assign [.Name yy py] (.ListComp elt [⟨target, iter, ifs, 0⟩] scope pos) spos) (tAsg (tComp wi tg.length ix g tc te) (gName ii)) (vAsg (vNew (vComp vi tg.length ix vg vt ve)) (vgN ii)) := by
  have h := vn_comp (pos := pos) Sc hcalm kg hnd hi hg hc he hs
  refine ⟨ps_compU hN0 hi0 hx0 Sc hcalm kg hi.pi (fun C fp s H => (hg C fp s H).pg) (fun C fp s H => (hc C fp s H).pe) (fun C fp s H => (he C fp s H).pe) hf0 hsw hs, sndAsg (ve_new (m := false) h).snd fun H0 Z σ H S v d Q C k r ⟨hi, q⟩ hc => hc _ _ _ (k.setVal hi r).1 (k.setVal hi r).2 q⟩
end
end VL
end
section
set_option maxHeartbeats 4000000
namespace VL
open PySem L2
section
variable {P : Program} {w : World} {K : PySem.W.Frag} {mg : Str → Option Value} {base : Heap}
def slots (n : Nat) (ds : List D) : List Sl := ds.map .val ++ List.replicate (n - ds.length) .no
theorem start_at {N : List Str} {vs : List V} {i : Nat} {v : V} (h : vs[i]? = some v) : (start N vs)[i]? = some (some v) := by
  unfold L2.start
  have hi := (List.getElem?_eq_some_iff.mp h).1
  rw [List.getElem?_append_left (by simpa using hi)]
  simp [h]
theorem slots_at {n : Nat} {ds : List D} {i : Nat} {s : Sl} (h : (slots n ds)[i]? = some s) : s = .no ∨ ∃ d, s = .val d ∧ ds[i]? = some d := by
  unfold slots at h
  by_cases hi : i < ds.length
  · rw [List.getElem?_append_left (by simpa using hi)] at h
    simp [hi] at h
    subst h
    exact .inr ⟨_, rfl, by simp [hi]⟩
  · rw [List.getElem?_append_right (by simpa using hi)] at h
    have := List.mem_of_getElem? h
    exact .inl (List.eq_of_mem_replicate this)
theorem slots_nomut {n : Nat} {ds : List D} {i : Nat} {s : Sl} (h : (slots n ds)[i]? = some s) : s.mut = false := by
  rcases slots_at h with rfl | ⟨d, rfl, _⟩ <;> rfl
theorem ok_start {N : List Str} {vs : List V} {ds : List D} {H : Hp} (r : Reps K Any AnyF H vs ds) : OK K H (fun _ => False) (start N vs) H (slots N.length ds) where
  len := by simp [L2.start, slots, r.length]
  dom := fun _ e => e
  zl := fun _ z => z.elim
  nz := fun i s a h m _ => by rw [slots_nomut h] at m; cases m
  inj := fun i j a s t h1 h2 m1 => by rw [slots_nomut h1] at m1; cases m1
  at_ := fun i o s h1 h2 => by
    rcases slots_at h2 with rfl | ⟨d, rfl, e⟩
    · trivial
    · obtain ⟨v, e1, e2⟩ := r.getD e
      rw [start_at e1] at h1
      cases h1
      refine ⟨v, rfl, e2.mono (fun a _ _ => ⟨?_, rfl⟩) fun _ x => x⟩
      rintro (⟨j, s, g1, g2, _⟩ | z)
      · rw [slots_nomut g1] at g2; cases g2
      · exact z
theorem has_P {x : Str} {st : Stmt} {N ps : List Str} {k : Nat} {p : List D → (D → Prop) → Prop} (S : Src K mg x st) (sc : FnScope N ps (defScope st))
    (hb : ∀ (kV doc pm : Value) (an : Option Addr) (cdv ct : Value) (us : List Value), us.length = ps.length → bindArgs (PySem.W.fnOf x x (defArgs st) (defBody st) (defScope st) .none kV doc pm an cdv ct) ⟨us, []⟩ = pure (ps.zip us))
    (len : ∀ ds R, p ds R → ds.length = ps.length)
    (hbody : ∀ (f : Addr) (cdv : Value) (A : Around) (outer : List Env) (s : Shared) (H : Hp) (E : XK), Room k (A.deeper (PyProof.Rows.envOfC x (defScope st) s.heap.objs.size f cdv)) →
      ∃ ts t, VSs K (cxOf CX0 P w K mg base N x (defScope st) f cdv A outer s H E).nox (defBody st) ts t ∧ ∀ ds R, p ds R → t { nx := fun _ => R .non, rt := fun d _ => R d } (slots N.length ds)) : Has P w K mg base (k + 1) x ps (spP K p) := by
  refine S.has sc hb (fun vs H Q E zq1 => by obtain ⟨ds, R, r, h, _⟩ := zq1; rw [r.length]; exact len ds R h) fun f cdv A outer s H vs Q E hr ⟨ds, R, r, h, fin⟩ => ?_
  obtain ⟨ts, t, vs', q⟩ := hbody f cdv A outer s H E hr
  have k0 := ok_start (N := N) r
  have st0 : ∀ {σ' S' H'}, Step (fun _ => False) (start N vs) (slots N.length ds) H σ' S' H' → ∀ a, H a ≠ none → H' a = H a := fun st a e => (st.1 a (by
    rintro (⟨j, s, g1, g2, _⟩ | z)
    · rw [slots_nomut g1] at g2; cases g2
    · exact z) e).1
  refine ⟨ts, vs'.ps, vs'.snd H _ _ H _ _ _ k0 (q ds R h) ⟨fun σ' H' S' k' st q => fin .non .non H' q (st0 st) .non, fun σ' H' S' k' st q => q.elim, fun σ' H' S' k' st q => q.elim, fun v d σ' H' S' k' st rr q => fin d v H' q (st0 st) (rr.mono (fun _ _ _ => ⟨trivial, rfl⟩) fun _ x => x)⟩⟩
def slotsI (n : Nat) (a : Addr) (ns : List Int) (ds es : List D) : List Sl := ds.map .val ++ .pen (some a) ns :: (es.map .val ++ List.replicate (n - (ds.length + 1 + es.length)) .no)
theorem slotsI_at {n : Nat} {a : Addr} {ns : List Int} {ds es : List D} {i : Nat} {s : Sl} (h : (slotsI n a ns ds es)[i]? = some s) : s = .no ∨ (∃ d, s = .val d ∧ (ds ++ .non :: es)[i]? = some d ∧ i ≠ ds.length) ∨ (i = ds.length ∧ s = .pen (some a) ns) := by
  unfold slotsI at h
  by_cases hi : i < ds.length
  · rw [List.getElem?_append_left (by simpa using hi)] at h
    simp [hi] at h
    subst h
    exact .inr (.inl ⟨_, rfl, by rw [List.getElem?_append_left hi]; simp [hi], by lia⟩)
  · by_cases hi2 : i = ds.length
    · subst hi2
      rw [List.getElem?_append_right (by simp)] at h
      simp at h
      exact .inr (.inr ⟨rfl, h.symm⟩)
    · rw [List.getElem?_append_right (by simp; lia)] at h
      rw [List.length_map] at h
      obtain ⟨j, hj⟩ : ∃ j, i - ds.length = j + 1 := ⟨i - ds.length - 1, by lia⟩
      rw [hj, List.getElem?_cons_succ] at h
      by_cases hj2 : j < es.length
      · rw [List.getElem?_append_left (by simpa using hj2)] at h
        simp [hj2] at h
        subst h
        refine .inr (.inl ⟨_, rfl, ?_, hi2⟩)
        rw [List.getElem?_append_right (by lia), hj, List.getElem?_cons_succ]
        simp [hj2]
      · rw [List.getElem?_append_right (by simpa using hj2)] at h
        exact .inl (List.eq_of_mem_replicate (List.mem_of_getElem? h))
theorem has_I {x : Str} {st : Stmt} {N ps : List Str} {k : Nat} (j : Nat) {p : List Int → List D → (D → List Int → Prop) → Prop} (S : Src K mg x st) (sc : FnScope N ps (defScope st))
    (hb : ∀ (kV doc pm : Value) (an : Option Addr) (cdv ct : Value) (us : List Value), us.length = ps.length → bindArgs (PySem.W.fnOf x x (defArgs st) (defBody st) (defScope st) .none kV doc pm an cdv ct) ⟨us, []⟩ = pure (ps.zip us))
    (len : ∀ ns ds R, p ns ds R → ds.length + 1 = ps.length)
    (hbody : ∀ (f : Addr) (cdv : Value) (A : Around) (outer : List Env) (s : Shared) (H : Hp) (E : XK), Room k (A.deeper (PyProof.Rows.envOfC x (defScope st) s.heap.objs.size f cdv)) →
      ∃ ts t, VSs K (cxOf CX0 P w K mg base N x (defScope st) f cdv A outer s H E).nox (defBody st) ts t ∧ ∀ a ns ds es R, ds.length = j → p ns (ds ++ es) R → t { nx := fun S' => ∃ ns', S'[j]? = some (.pen (some a) ns') ∧ R .non ns', rt := fun d S' => ∃ ns', S'[j]? = some (.pen (some a) ns') ∧ R d ns' } (slotsI N.length a ns ds es)) :
    Has P w K mg base (k + 1) x ps (spI K j p) := by
  refine S.has sc hb (fun vs H Q E zq1 => by
    obtain ⟨a, ws, us, ns, ds, es, R, e, hl, hp, r1, r2, h, _⟩ := zq1
    have := len _ _ _ h
    rw [e, List.length_append, List.length_cons, r1.length, r2.length]
    rw [List.length_append] at this
    lia) fun f cdv A outer s H vs Q E hr ⟨a, ws, us, ns, ds, es, R, e, hl, hp, r1, r2, h, fin⟩ => ?_
  subst e
  obtain ⟨ts, t, vs', q⟩ := hbody f cdv A outer s H E hr
  have hdl : ds.length = j := by rw [← r1.length]; exact hl
  subst hdl
  have hmut : ∀ {i : Nat} {s : Sl}, (slotsI N.length a ns ds es)[i]? = some s → s.mut = true → i = ds.length ∧ s = .pen (some a) ns := fun {i s} h m => by
    rcases slotsI_at h with rfl | ⟨d, rfl, _⟩ | h
    · cases m
    · cases m
    · exact h
  have hpen : (start N (ws ++ .ref a :: us))[ds.length]? = some (some (V.ref a)) := start_at (by rw [← hl]; simp)
  have hmo : ∀ b, Mo (fun _ => False) (start N (ws ++ .ref a :: us)) (slotsI N.length a ns ds es) b → b = a := fun b z => by
    rcases z with ⟨i, s, g1, g2, g3⟩ | z
    · obtain ⟨rfl, _⟩ := hmut g1 g2
      rw [hpen] at g3; cases g3; rfl
    · exact z.elim
  have hll : N.length - (ws.length + (us.length + 1)) = N.length - (ds.length + 1 + es.length) := by rw [r1.length, r2.length]; lia
  have k0 : OK K H (fun _ => False) (start N (ws ++ .ref a :: us)) H (slotsI N.length a ns ds es) := {
    len := by simp [L2.start, slotsI, r1.length, r2.length]; lia
    dom := fun _ e => e
    zl := fun _ z => z.elim
    nz := fun _ _ _ _ _ _ z => z
    inj := fun i j a s t h1 h2 m1 m2 _ _ => by rw [(hmut h1 m1).1, (hmut h2 m2).1]
    at_ := fun i o s h1 h2 => by
      rcases slotsI_at h2 with rfl | ⟨d, rfl, e, hi⟩ | ⟨rfl, rfl⟩
      · trivial
      · have rr : ∃ v, (ws ++ .ref a :: us)[i]? = some v ∧ Rep K (· ≠ a) AnyF H v d := by
          by_cases hi2 : i < ds.length
          · rw [List.getElem?_append_left hi2] at e
            obtain ⟨v, e1, e2⟩ := r1.getD e
            exact ⟨v, by rw [List.getElem?_append_left (by rw [r1.length]; exact hi2)]; exact e1, e2⟩
          · rw [List.getElem?_append_right (by lia)] at e
            obtain ⟨j, hj⟩ : ∃ j, i - ds.length = j + 1 := ⟨i - ds.length - 1, by lia⟩
            rw [hj, List.getElem?_cons_succ] at e
            obtain ⟨v, e1, e2⟩ := r2.getD e
            exact ⟨v, by rw [List.getElem?_append_right (by rw [r1.length]; lia), r1.length, hj, List.getElem?_cons_succ]; exact e1, e2⟩
        obtain ⟨v, e1, e2⟩ := rr
        rw [start_at e1] at h1
        cases h1
        exact ⟨v, rfl, e2.mono (fun b n _ => ⟨fun z => n (hmo b z), rfl⟩) fun _ x => x⟩
      · rw [hpen] at h1
        cases h1
        exact ⟨a, rfl, fun b z => by cases z; rfl, hp⟩ }
  have st0 : ∀ {σ' S' H'}, Step (fun _ => False) (start N (ws ++ .ref a :: us)) (slotsI N.length a ns ds es) H σ' S' H' → ∀ b, b ≠ a → H b ≠ none → H' b = H b := fun st b n e => (st.1 b (fun z => n (hmo b z)) e).1
  have pn : ∀ {σ' S' H' ns'}, OK K H (fun _ => False) σ' H' S' → S'[ds.length]? = some (.pen (some a) ns') → σ'[ds.length]? = some (some (V.ref a)) ∧ H' a = some (.lst (ns'.map .int)) := fun k' e => by
    obtain ⟨o, e1, b, rfl, e2, e3⟩ := k'.ownAt e
    obtain rfl := e2 a rfl
    exact ⟨e1, e3⟩
  refine ⟨ts, vs'.ps, vs'.snd H _ _ H _ _ _ k0 (q a ns ds es R rfl h) ⟨fun σ' H' S' k' st ⟨ns', e, q⟩ => fin .non ns' .non H' q (st0 st) (pn k' e).2 .non, fun σ' H' S' k' st q => q.elim, fun σ' H' S' k' st q => q.elim, fun v d σ' H' S' k' st rr ⟨ns', e, q⟩ => fin d ns' v H' q (st0 st) (pn k' e).2 (rr.mono (fun b n _ => ⟨fun z => ?_, rfl⟩) fun _ x => x)⟩⟩
  subst z
  exact n _ _ _ e (pn k' e).1
end
end VL
end
section
set_option maxHeartbeats 4000000
namespace VL
open PySem L2
section
variable {S : List Sl} {Q : VR → List Sl → Prop} {V : VEnds}
end
end VL
end
section
set_option maxHeartbeats 4000000
namespace VL
open PySem L2
mutual
def pd : D → PyData
  | .int i => .int i
  | .bl b => .bool b
  | .non => .none
  | .str x => .str x
  | .ty _ => .none
  | .dic _ _ => .none
  | .exc _ => .none
  | .tup ds => .tuple (pds ds)
  | .lst ds => .list (pds ds)
def pds : List D → List PyData
  | [] => []
  | d :: r => pd d :: pds r
end
mutual
def noTy : D → Bool
  | .ty _ => false
  | .dic _ _ => false
  | .exc _ => false
  | .tup ds => noTys ds
  | .lst ds => noTys ds
  | _ => true
def noTys : List D → Bool
  | [] => true
  | d :: r => noTy d && noTys r
end
section
variable {K : PySem.W.Frag} {X : Cx} {pins : List (Addr × Obj)} {σ : St} {H : Hp} {s : Shared} {N : AP} {F : FP}
mutual
theorem rep_reads (I : Inv X pins σ H s) (hK : X.K = K) {v : V} {d : D} {u : Value} : Rep K N F H v d → noTy d = true → RelV v u → ∃ as, Reads s.heap u (pd d) as
  | .int i, _, r => by obtain ⟨t, rfl⟩ := r; exact ⟨_, .int i t⟩
  | .bl b, _, r => by cases r; exact ⟨_, .bool b⟩
  | .non, _, r => by cases r; exact ⟨_, .none⟩
  | .str x, _, r => by obtain ⟨t, rfl⟩ := r; exact ⟨_, .str x t⟩
  | .ty x, e, _ => by cases e
  | .dic n f h _ _ rs, e, _ => by simp [noTy] at e
  | .exc n h _, e, _ => by simp [noTy] at e
  | .tup n h rs, e, r => by
    cases r
    obtain ⟨its, rv, ⟨o, ho, hc, n, hd⟩, _⟩ := I.tuple (xs := _) (.inl h)
    obtain ⟨as, ra⟩ := reps_reads I hK rs (by simpa [noTy] using e) rv
    exact ⟨as, .tuple ho hc hd (by simpa using ra)⟩
  | .tupK h rs, e, r => by
    cases r
    obtain ⟨its, rv, ⟨o, ho, hc, n, hd⟩, _⟩ := I.tuple (xs := _) (by rw [hK]; exact sqT_none h)
    obtain ⟨as, ra⟩ := reps_reads I hK rs (by simpa [noTy] using e) rv
    exact ⟨as, .tuple ho hc hd (by simpa using ra)⟩
  | .lst n f h rs, e, r => by
    cases r
    obtain ⟨its, rv, pl, _⟩ := I.list (xs := _) (.inl (.inl h))
    obtain ⟨o, ho, hc, n, hd⟩ := pl.isList
    obtain ⟨as, ra⟩ := reps_reads I hK rs (by simpa [noTy] using e) rv
    exact ⟨_, .list ho hc hd (by simpa using ra)⟩
  | .lstF n f h rs, e, r => by
    cases r
    obtain ⟨its, rv, pl, _⟩ := I.list (xs := _) (.inl (.inr ⟨_, h⟩))
    obtain ⟨o, ho, hc, n, hd⟩ := pl.isList
    obtain ⟨as, ra⟩ := reps_reads I hK rs (by simpa [noTy] using e) rv
    exact ⟨_, .list ho hc hd (by simpa using ra)⟩
  | .lstK f h rs, e, r => by
    cases r
    obtain ⟨its, rv, pl, _⟩ := I.list (xs := _) (by rw [hK]; exact sqL_none h)
    obtain ⟨o, ho, hc, n, hd⟩ := pl.isList
    obtain ⟨as, ra⟩ := reps_reads I hK rs (by simpa [noTy] using e) rv
    exact ⟨_, .list ho hc hd (by simpa using ra)⟩
theorem reps_reads (I : Inv X pins σ H s) (hK : X.K = K) {vs : List V} {ds : List D} {us : List Value} : Reps K N F H vs ds → noTys ds = true → Vals vs us → ∃ as, ReadsAll s.heap us (pds ds) as
  | .nil, _, r => by cases r; exact ⟨_, .nil⟩
  | .cons h t, e, r => by
    simp only [noTys, Bool.and_eq_true] at e
    cases r with
    | cons r1 r2 =>
      obtain ⟨as, ra⟩ := rep_reads I hK h e.1 r1
      obtain ⟨bs, rb⟩ := reps_reads I hK t e.2 r2
      exact ⟨_, .cons ra rb⟩
end
end
structure Okd (d : D) : Prop where
  ty : noTy d = true
  lay : (pd d).canLay0 = true
  dep : (pd d).depth ≤ 40
def rEqD (K : PySem.W.Frag) (neg : Bool) : R2 := fun x y H Q => ∃ d1 d2, Rep K Any AnyF H x d1 ∧ Rep K Any AnyF H y d2 ∧ Okd d1 ∧ Okd d2 ∧ Q (.bl (if neg then !PyData.eqv (pd d1) (pd d2) else PyData.eqv (pd d1) (pd d2))) H
def wEqD (neg : Bool) : D → D → (D → Prop) → Prop := fun d1 d2 q => Okd d1 ∧ Okd d2 ∧ q (.bl (if neg then !PyData.eqv (pd d1) (pd d2) else PyData.eqv (pd d1) (pd d2)))
def rInD (K : PySem.W.Frag) (neg : Bool) : R2 := fun x y H Q => ∃ d ds, Rep K Any AnyF H x d ∧ (Rep K Any AnyF H y (.lst ds) ∨ Rep K Any AnyF H y (.tup ds)) ∧ Okd d ∧ Okd (.lst ds) ∧ Q (.bl (if neg then !(pds ds).any (fun y => PyData.eqv y (pd d)) else (pds ds).any (fun y => PyData.eqv y (pd d)))) H
def wInD (neg : Bool) : D → D → (D → Prop) → Prop := fun d d2 q => ∃ ds, (d2 = .lst ds ∨ d2 = .tup ds) ∧ Okd d ∧ Okd (.lst ds) ∧ q (.bl (if neg then !(pds ds).any (fun y => PyData.eqv y (pd d)) else (pds ds).any (fun y => PyData.eqv y (pd d))))
section
variable {K : PySem.W.Frag} {X : Cx}
theorem op_eqD (hK : X.K = K) (hu : X.A.units + 64 < cLine) : OpR X (compareOp .Eq) (rEqD K false) := by
  intro pins s σ H x y v u Q I rx ry ⟨d1, d2, r1, r2, o1, o2, q⟩
  obtain ⟨as, ra⟩ := rep_reads I hK r1 o1.ty rx
  obtain ⟨bs, rb⟩ := rep_reads I hK r2 o2.ty ry
  exact SeqAt.compareEq_reads ra rb o1.lay o2.lay (by have := o1.dep; lia) ⟨.bl _, H, I, rfl, q⟩
theorem op_neD (hK : X.K = K) (hu : X.A.units + 64 < cLine) : OpR X (compareOp .NotEq) (rEqD K true) := by
  intro pins s σ H x y v u Q I rx ry ⟨d1, d2, r1, r2, o1, o2, q⟩
  obtain ⟨as, ra⟩ := rep_reads I hK r1 o1.ty rx
  obtain ⟨bs, rb⟩ := rep_reads I hK r2 o2.ty ry
  exact SeqAt.compareNe_reads ra rb o1.lay o2.lay (by have := o1.dep; lia) ⟨.bl _, H, I, rfl, q⟩
theorem okd_items {ds : List D} (o : Okd (.lst ds)) : PyData.canLayAll0 (pds ds) = true ∧ PyData.depthAll (pds ds) ≤ 40 ∧ noTy (.tup ds) = true := by
  refine ⟨by simpa [pd, PyData.canLay0] using o.lay, ?_, by simpa [noTy] using o.ty⟩
  have := o.dep
  simp only [pd, PyData.depth] at this
  lia
theorem op_notInD (hK : X.K = K) (hu : X.A.units + 64 < cLine) : OpR X (compareOp .NotIn) (rInD K true) := by
  intro pins s σ H x y v u Q I rx ry ⟨d, ds, r1, r2, o1, o2, q⟩
  obtain ⟨as, ra⟩ := rep_reads I hK r1 o1.ty rx
  obtain ⟨h1, h2, h3⟩ := okd_items o2
  rcases r2 with r2 | r2
  · obtain ⟨bs, rb⟩ := rep_reads I hK r2 o2.ty ry
    exact SeqAt.notIn_list_reads (by simpa [pd] using rb) ra h1 o1.lay (by lia) ⟨.bl _, H, I, rfl, q⟩
  · obtain ⟨bs, rb⟩ := rep_reads I hK r2 h3 ry
    exact SeqAt.notIn_tuple_reads (by simpa [pd] using rb) ra h1 o1.lay (by lia) ⟨.bl _, H, I, rfl, q⟩
theorem l_eqD {neg : Bool} : Lift2 K (rEqD K neg) (wEqD neg) := fun x y H d1 d2 q C r1 r2 ⟨o1, o2, h⟩ hc => ⟨d1, d2, r1, r2, o1, o2, hc _ _ h fun _ _ => .bl _⟩
theorem l_inD {neg : Bool} : Lift2 K (rInD K neg) (wInD neg) := fun x y H d1 d2 q C r1 r2 ⟨ds, e, o1, o2, h⟩ hc => ⟨d1, ds, r1, e.imp (fun e => by rw [← e]; exact r2) (fun e => by rw [← e]; exact r2), o1, o2, hc _ _ h fun _ _ => .bl _⟩
end
theorem pds_map {α : Type} (f : α → D) : ∀ l : List α, pds (l.map f) = l.map fun x => pd (f x)
  | [] => rfl
  | _ :: r => by simp [pds, pds_map f r]
theorem noTys_map {α : Type} {f : α → D} (h : ∀ x, noTy (f x) = true) : ∀ l : List α, noTys (l.map f) = true
  | [] => rfl
  | _ :: r => by simp [noTys, h, noTys_map h r]
theorem lays_map {α : Type} {f : α → PyData} (h : ∀ x, (f x).canLay0 = true) : ∀ l : List α, PyData.canLayAll0 (l.map f) = true
  | [] => rfl
  | _ :: r => by simp [PyData.canLayAll0, h, lays_map h r]
theorem deps_map {α : Type} {f : α → PyData} {n : Nat} (h : ∀ x, (f x).depth ≤ n) : ∀ l : List α, PyData.depthAll (l.map f) ≤ n
  | [] => by simp [PyData.depthAll]
  | x :: r => by simp only [List.map_cons, PyData.depthAll]; exact Nat.max_le.mpr ⟨h x, deps_map h r⟩
structure Enc {α : Type} (n : Nat) (f : α → D) : Prop where
  ty : ∀ x, noTy (f x) = true
  lay : ∀ x, (pd (f x)).canLay0 = true
  dep : ∀ x, (pd (f x)).depth ≤ n
  eq : ∀ x y, PyData.eqv (pd (f x)) (pd (f y)) = true ↔ x = y
theorem eqvAll_map {α : Type} {f : α → PyData} (h : ∀ x y, PyData.eqv (f x) (f y) = true ↔ x = y) : ∀ l m : List α, PyData.eqvAll (l.map f) (m.map f) = true ↔ l = m
  | [], [] => by simp [PyData.eqvAll]
  | [], _ :: _ => by simp [PyData.eqvAll]
  | _ :: _, [] => by simp [PyData.eqvAll]
  | x :: r, y :: t => by simp [PyData.eqvAll, h, eqvAll_map h r t]
theorem enc_int : Enc 0 D.int := ⟨fun _ => rfl, fun _ => rfl, fun _ => Nat.le_refl _, fun x y => by simp [pd, PyData.eqv]⟩
theorem enc_bl : Enc 0 D.bl := ⟨fun _ => rfl, fun _ => rfl, fun _ => Nat.le_refl _, fun x y => by simp [pd, PyData.eqv]⟩
theorem Enc.tup {α : Type} {n : Nat} {f : α → D} (e : Enc n f) : Enc (n + 1) (fun l : List α => D.tup (l.map f)) where
  ty := fun l => by simp only [noTy]; exact noTys_map e.ty l
  lay := fun l => by simp only [pd, PyData.canLay0, pds_map]; exact lays_map e.lay l
  dep := fun l => by simp only [pd, PyData.depth, pds_map]; exact Nat.succ_le_succ (deps_map e.dep l)
  eq := fun l m => by simp only [pd, PyData.eqv, pds_map]; exact eqvAll_map e.eq l m
theorem Enc.lst {α : Type} {n : Nat} {f : α → D} (e : Enc n f) : Enc (n + 1) (fun l : List α => D.lst (l.map f)) where
  ty := fun l => by simp only [noTy]; exact noTys_map e.ty l
  lay := fun l => by simp only [pd, PyData.canLay0, pds_map]; exact lays_map e.lay l
  dep := fun l => by simp only [pd, PyData.depth, pds_map]; exact Nat.succ_le_succ (deps_map e.dep l)
  eq := fun l m => by simp only [pd, PyData.eqv, pds_map]; exact eqvAll_map e.eq l m
theorem enc_eT : Enc 1 eT := enc_int.tup
theorem enc_eL : Enc 2 eL := enc_eT.lst
theorem Enc.okd {α : Type} {n : Nat} {f : α → D} (e : Enc n f) (hn : n ≤ 40) (x : α) : Okd (f x) := ⟨e.ty x, e.lay x, Nat.le_trans (e.dep x) hn⟩
theorem Enc.eqv {α : Type} [DecidableEq α] {n : Nat} {f : α → D} (e : Enc n f) (x y : α) : PyData.eqv (pd (f x)) (pd (f y)) = decide (x = y) := by
  rw [Bool.eq_iff_iff, e.eq, decide_eq_true_iff]
theorem Enc.any {α : Type} [DecidableEq α] {n : Nat} {f : α → D} (e : Enc n f) (x : α) (l : List α) : (pds (l.map f)).any (fun y => PyData.eqv y (pd (f x))) = decide (x ∈ l) := by
  rw [pds_map, List.any_map]
  induction l with
  | nil => simp
  | cons a r ih =>
    rw [List.any_cons, ih]
    simp only [Function.comp, e.eqv]
    rw [Bool.eq_iff_iff]
    simp only [Bool.or_eq_true, decide_eq_true_eq, List.mem_cons]
    exact ⟨fun z => z.elim (fun z => .inl z.symm) .inr, fun z => z.elim (fun z => .inl z.symm) .inr⟩
theorem i_eqE {α : Type} [DecidableEq α] {n : Nat} {f : α → D} (e : Enc n f) {x y : α} {q : D → Prop} (h : q (.bl (decide (x = y)))) (hn : n ≤ 40 := by decide) : wEqD false (f x) (f y) q := ⟨e.okd hn x, e.okd hn y, by simpa [e.eqv] using h⟩
theorem i_neE {α : Type} [DecidableEq α] {n : Nat} {f : α → D} (e : Enc n f) {x y : α} {q : D → Prop} (h : q (.bl (!decide (x = y)))) (hn : n ≤ 40 := by decide) : wEqD true (f x) (f y) q := ⟨e.okd hn x, e.okd hn y, by simpa [e.eqv] using h⟩
theorem i_notInE {α : Type} [DecidableEq α] {n : Nat} {f : α → D} (e : Enc n f) {x : α} {l : List α} {q : D → Prop} (h : q (.bl (!decide (x ∈ l)))) (hn : n + 1 ≤ 40 := by decide) : wInD true (f x) (.lst (l.map f)) q := ⟨_, .inl rfl, e.okd (by lia) x, e.lst.okd hn l, by simpa only [e.any, if_true] using h⟩
end VL
namespace VL
open PySem L2
section
variable {K : PySem.W.Frag} {X : Cx}
theorem c_len (hK : X.K = K) : CallR X (.builtin "len") (fun xs H Q => ∃ p ys, xs = [.ref p] ∧ (SqL K H p ys ∨ SqT K H p ys) ∧ Q (.int ys.length) H) := by subst hK; exact call_len_seq
theorem c_isi (hK : X.K = K) : CallR X (.builtin "isinstance") (rIsi K) := by subst hK; exact call_isi
theorem bt_sorted : bootBuiltins "sorted" = some (.builtin "sorted") := by decide +kernel
theorem bt_max : bootBuiltins "max" = some (.builtin "max") := by decide +kernel
end
end VL
end
section
set_option maxHeartbeats 4000000
namespace VL
open PySem L2
section
variable {S S1 : List Sl} {Q : VR → List Sl → Prop} {QT : Bool → List Sl → Prop} {QN : List D → List Sl → Prop} {QA : List VR → List Sl → Prop} {W : VEnds} {va vb : VT} {vr : VTA} {vt vu : VTT} {vn : VTN} {s t : VTS} {g : VG}
def kSeq (u : VTS) (W : VEnds) : List Sl → Prop := fun S' => ∃ S'', Wk S' S'' ∧ u W S''
theorem i_seq {u : VTS} (h : t ⟨kSeq u W, W.rt, W.bk, W.ct⟩ S) : vSeq t u W S := h
theorem i_kSeq {u : VTS} (h : u W S) : kSeq u W S := ⟨S, Wk.refl S, h⟩
def kAsg (g : VG) (W : VEnds) : VR → List Sl → Prop := fun r S1 => ∃ d, r = .d d ∧ g d S1 W.nx
theorem i_asg (h : va S (kAsg g W)) : vAsg va g W S := h
theorem i_kAsg {d : D} (h : g d S W.nx) : kAsg g W (.d d) S := ⟨d, rfl, h⟩
theorem i_gN {i : Nat} {d : D} {q : List Sl → Prop} (e : Nat.ble (i + 1) S.length = true) (h : q (S.set i (.val d))) : vgN i d S q := ⟨Nat.le_of_ble_eq_true e, h⟩
theorem i_gT {n : Nat} {ds : List D} {u : List D → List Sl → (List Sl → Prop) → Prop} {q : List Sl → Prop} (e : ds.length = n) (h : u ds S q) : vgT n u (.tup ds) S q := ⟨ds, rfl, e, h⟩
theorem i_gNil {q : List Sl → Prop} (h : q S) : vgNil [] S q := ⟨rfl, h⟩
theorem i_gCons {d : D} {r : List D} {u : List D → List Sl → (List Sl → Prop) → Prop} {q : List Sl → Prop} (h : g d S fun S1 => u r S1 q) : vgCons g u (d :: r) S q := ⟨d, r, rfl, h⟩
def kSetN (i : Nat) (W : VEnds) : List D → List Sl → Prop := fun ds S1 => i < S1.length ∧ W.nx (S1.set i (.own ds))
theorem i_setN {i : Nat} (h : vn S (kSetN i W)) : vSetN i vn W S := h
theorem i_kSetN {i : Nat} {ds : List D} (e : Nat.ble (i + 1) S.length = true) (h : W.nx (S.set i (.own ds))) : kSetN i W ds S := ⟨Nat.le_of_ble_eq_true e, h⟩
def kSetP (i : Nat) (W : VEnds) : List D → List Sl → Prop := fun ds S1 => ∃ ns : List Int, ds = ns.map .int ∧ i < S1.length ∧ W.nx (S1.set i (.pen none ns))
theorem i_setP {i : Nat} (h : vn S (kSetP i W)) : vSetP i vn W S := h
theorem i_kSetP {i : Nat} {ns : List Int} (e : Nat.ble (i + 1) S.length = true) (h : W.nx (S.set i (.pen none ns))) : kSetP i W (ns.map .int) S := ⟨ns, rfl, Nat.le_of_ble_eq_true e, h⟩
def kRet (W : VEnds) : VR → List Sl → Prop := fun r S1 => ∃ d, retD S1 r = some d ∧ W.rt d S1
theorem i_ret (h : va S (kRet W)) : vRet va W S := h
theorem i_kRet {r : VR} {d : D} (e : retD S r = some d) (h : W.rt d S) : kRet W r S := ⟨d, e, h⟩
def kIf (t u : VTS) (W : VEnds) : Bool → List Sl → Prop := fun b S1 => if b = true then t W S1 else u W S1
theorem i_ifS {u : VTS} (h : vt S (kIf t u W)) : vIfS vt t u W S := h
theorem i_kIf {u : VTS} {b : Bool} (h1 : b = true → t W S) (h2 : b = false → u W S) : kIf t u W b S := by
  cases b with
  | true => show (if true = true then _ else _); rw [if_pos rfl]; exact h1 rfl
  | false => show (if false = true then _ else _); rw [if_neg Bool.false_ne_true]; exact h2 rfl
theorem i_kIfT {u : VTS} (h : t W S) : kIf t u W true S := by show (if true = true then _ else _); rw [if_pos rfl]; exact h
theorem i_kIfF {u : VTS} (h : u W S) : kIf t u W false S := by show (if false = true then _ else _); rw [if_neg Bool.false_ne_true]; exact h
theorem i_kIfd {u : VTS} {p : Prop} [Decidable p] (h1 : p → t W S) (h2 : ¬p → u W S) : kIf t u W (decide p) S := i_kIf (fun e => h1 (of_decide_eq_true e)) (fun e => h2 (of_decide_eq_false e))
def kDrop (W : VEnds) : VR → List Sl → Prop := fun _ S1 => W.nx S1
theorem i_drop (h : va S (kDrop W)) : vDrop va W S := h
theorem i_kDrop {r : VR} (h : W.nx S) : kDrop W r S := h
theorem i_next (h : W.nx S) : vNext W S := h
theorem j_c {d : D} (h : Q (.d d) S) : vC d S Q := h
theorem j_var {i : Nat} {r : VR} (e : rdO i S[i]? = some r) (h : Q r S) : vVar i S Q := ⟨r, e, h⟩
def kFlat (Q : VR → List Sl → Prop) : VR → List Sl → Prop := fun r S' => (match r with | .d d => flat d = true | .own _ => True) ∧ Q r S'
theorem j_flat (h : va S (kFlat Q)) : vFlat va S Q := h
theorem j_kFlat {d : D} (e : flat d = true) (h : Q (.d d) S) : kFlat Q (.d d) S := ⟨e, h⟩
theorem j_kFlatO {i : Nat} (h : Q (.own i) S) : kFlat Q (.own i) S := ⟨trivial, h⟩
def k2a (w : D → D → (D → Prop) → Prop) (vb : VT) (Q : VR → List Sl → Prop) : VR → List Sl → Prop := fun ra S1 => vb S1 fun rb S2 => ∃ d1 d2, get S2 ra = some d1 ∧ get S2 rb = some d2 ∧ w d1 d2 fun d => Q (.d d) S2
def k2b (w : D → D → (D → Prop) → Prop) (Q : VR → List Sl → Prop) (ra : VR) : VR → List Sl → Prop := fun rb S2 => ∃ d1 d2, get S2 ra = some d1 ∧ get S2 rb = some d2 ∧ w d1 d2 fun d => Q (.d d) S2
theorem j_2 {w : D → D → (D → Prop) → Prop} (h : va S (k2a w vb Q)) : v2 w va vb S Q := h
theorem j_2a {w : D → D → (D → Prop) → Prop} {ra : VR} (h : vb S (k2b w Q ra)) : k2a w vb Q ra S := h
theorem j_2b {w : D → D → (D → Prop) → Prop} {ra rb : VR} {d1 d2 : D} (e1 : get S ra = some d1) (e2 : get S rb = some d2) (h : w d1 d2 fun d => Q (.d d) S) : k2b w Q ra rb S := ⟨d1, d2, e1, e2, h⟩
theorem j_wI0 {f : Int → Int → L2.V} {i j : Int} {q : D → Prop} (h : q (ofV (f i j))) : wI0 f (.int i) (.int j) q := ⟨i, j, rfl, rfl, h⟩
theorem j_wI {C : Int → Int → Prop} {f : Int → Int → L2.V} {i j : Int} {q : D → Prop} (c : C i j) (h : q (ofV (f i j))) : wI C f (.int i) (.int j) q := ⟨i, j, rfl, rfl, c, h⟩
theorem j_isN {d : D} {q : D → Prop} {neg : Bool} (h : q (.bl (if neg then !isNo d else isNo d))) : wIsN neg d .non q := ⟨rfl, h⟩
def kIx1 (vb : VT) (Q : VR → List Sl → Prop) : VR → List Sl → Prop := fun ra S1 => vb S1 fun rb S2 => ∃ ds i d, (get S2 ra = some (.lst ds) ∨ get S2 ra = some (.tup ds)) ∧ get S2 rb = some (.int i) ∧ atI ds i = some d ∧ Q (.d d) S2
def kIx2 (Q : VR → List Sl → Prop) (ra : VR) : VR → List Sl → Prop := fun rb S2 => ∃ ds i d, (get S2 ra = some (.lst ds) ∨ get S2 ra = some (.tup ds)) ∧ get S2 rb = some (.int i) ∧ atI ds i = some d ∧ Q (.d d) S2
theorem j_ix (h : va S (kIx1 vb Q)) : vIx va vb S Q := h
theorem j_ix1 {ra : VR} (h : vb S (kIx2 Q ra)) : kIx1 vb Q ra S := h
theorem j_ixL {ra rb : VR} {ds : List D} {i : Int} {d : D} (e1 : get S ra = some (.lst ds)) (e2 : get S rb = some (.int i)) (e3 : atI ds i = some d) (h : Q (.d d) S) : kIx2 Q ra rb S := ⟨ds, i, d, .inl e1, e2, e3, h⟩
theorem j_ixT {ra rb : VR} {ds : List D} {i : Int} {d : D} (e1 : get S ra = some (.tup ds)) (e2 : get S rb = some (.int i)) (e3 : atI ds i = some d) (h : Q (.d d) S) : kIx2 Q ra rb S := ⟨ds, i, d, .inr e1, e2, e3, h⟩
def kUn (f : Int → L2.V) (Q : VR → List Sl → Prop) : VR → List Sl → Prop := fun r S1 => ∃ i, get S1 r = some (.int i) ∧ Q (.d (ofV (f i))) S1
theorem j_un {f : Int → L2.V} (h : va S (kUn f Q)) : vUn f va S Q := h
theorem j_kUn {f : Int → L2.V} {r : VR} {i : Int} (e : get S r = some (.int i)) (h : Q (.d (ofV (f i))) S) : kUn f Q r S := ⟨i, e, h⟩
def kTest (QT : Bool → List Sl → Prop) : VR → List Sl → Prop := fun r S' => ∃ k, r = .d (.bl k) ∧ QT k S'
theorem j_test (h : va S (kTest QT)) : vTest va S QT := h
theorem j_kTest {k : Bool} (h : QT k S) : kTest QT (.d (.bl k)) S := ⟨k, rfl, h⟩
def kOr (u : VTT) (QT : Bool → List Sl → Prop) : Bool → List Sl → Prop := fun c S1 => if c = true then QT true S1 else u S1 QT
def kNot (QT : Bool → List Sl → Prop) : Bool → List Sl → Prop := fun c S1 => QT (!c) S1
theorem j_or (h : vt S (kOr vu QT)) : vOr vt vu S QT := h
theorem j_not (h : vt S (kNot QT)) : vNot vt S QT := h
theorem j_kNot {b : Bool} (h : QT (!b) S) : kNot QT b S := h
theorem j_kOr {b : Bool} (h1 : b = true → QT true S) (h2 : b = false → vu S QT) : kOr vu QT b S := by
  cases b with
  | true => show (if true = true then _ else _); rw [if_pos rfl]; exact h1 rfl
  | false => show (if false = true then _ else _); rw [if_neg Bool.false_ne_true]; exact h2 rfl
theorem j_kOrF (h : vu S QT) : kOr vu QT false S := j_kOr (fun e => nomatch e) fun _ => h
theorem j_kOrT (h : QT true S) : kOr vu QT true S := j_kOr (fun _ => h) fun e => nomatch e
def kOrV (vb : VT) (Q : VR → List Sl → Prop) : VR → List Sl → Prop := fun r S1 => ∃ c, r = .d (.bl c) ∧ if c = true then Q (.d (.bl true)) S1 else vb S1 Q
theorem j_orV (h : va S (kOrV vb Q)) : vOrV va vb S Q := h
theorem j_kOrV {c : Bool} (h1 : c = true → Q (.d (.bl true)) S) (h2 : c = false → vb S Q) : kOrV vb Q (.d (.bl c)) S := ⟨c, rfl, by
  cases c with
  | true => rw [if_pos rfl]; exact h1 rfl
  | false => rw [if_neg Bool.false_ne_true]; exact h2 rfl⟩
def kIfE (va vb : VT) (Q : VR → List Sl → Prop) : Bool → List Sl → Prop := fun c S1 => if c = true then va S1 Q else vb S1 Q
theorem j_ifE (h : vt S (kIfE va vb Q)) : vIf vt va vb S Q := h
theorem j_kIfE {b : Bool} (h1 : b = true → va S Q) (h2 : b = false → vb S Q) : kIfE va vb Q b S := by
  cases b with
  | true => show (if true = true then _ else _); rw [if_pos rfl]; exact h1 rfl
  | false => show (if false = true then _ else _); rw [if_neg Bool.false_ne_true]; exact h2 rfl
theorem j_nil (h : QA [] S) : vNil S QA := h
def kCons1 (vr : VTA) (QA : List VR → List Sl → Prop) : VR → List Sl → Prop := fun r S1 => vr S1 fun rs S2 => QA (r :: rs) S2
theorem j_cons (h : va S (kCons1 vr QA)) : vCons va vr S QA := h
theorem j_kCons {r : VR} (h : vr S fun rs S2 => QA (r :: rs) S2) : kCons1 vr QA r S := h
def kTup (Q : VR → List Sl → Prop) : List VR → List Sl → Prop := fun rs S1 => ∃ ds, allD rs = some ds ∧ ds.length ≤ 1000 ∧ Q (.d (.tup ds)) S1
theorem j_tup (h : vr S (kTup Q)) : vTup vr S Q := h
theorem j_kTup {rs : List VR} {ds : List D} (e : allD rs = some ds) (e2 : Nat.ble ds.length 1000 = true) (h : Q (.d (.tup ds)) S) : kTup Q rs S := ⟨ds, e, Nat.le_of_ble_eq_true e2, h⟩
def kLst (QN : List D → List Sl → Prop) : List VR → List Sl → Prop := fun rs S1 => ∃ ds, allD rs = some ds ∧ ds.length ≤ 1000 ∧ QN ds S1
theorem j_lst (h : vr S (kLst QN)) : vLst vr S QN := h
theorem j_kLst {rs : List VR} {ds : List D} (e : allD rs = some ds) (e2 : Nat.ble ds.length 1000 = true) (h : QN ds S) : kLst QN rs S := ⟨ds, e, Nat.le_of_ble_eq_true e2, h⟩
def kNew (Q : VR → List Sl → Prop) : List D → List Sl → Prop := fun ds S1 => Q (.d (.lst ds)) S1
theorem j_new (h : vn S (kNew Q)) : vNew vn S Q := h
theorem j_kNew {ds : List D} (h : Q (.d (.lst ds)) S) : kNew Q ds S := h
def kCB (w : List D → (D → Prop) → Prop) (Q : VR → List Sl → Prop) : List VR → List Sl → Prop := fun rs S1 => ∃ ds, gets S1 rs = some ds ∧ w ds fun d => Q (.d d) S1
theorem j_cb {w : List D → (D → Prop) → Prop} (h : vr S (kCB w Q)) : vCB w vr S Q := h
theorem j_kCB {w : List D → (D → Prop) → Prop} {rs : List VR} {ds : List D} (e : gets S rs = some ds) (h : w ds fun d => Q (.d d) S) : kCB w Q rs S := ⟨ds, e, h⟩
theorem j_lenL {es : List D} {q : D → Prop} (h : q (.int es.length)) : wLen [.lst es] q := ⟨es, .inl rfl, h⟩
theorem j_mm {f : Int → Int → Int} {i j : Int} {q : D → Prop} (h : q (.int (f i j))) : wMM f [.int i, .int j] q := ⟨i, j, rfl, h⟩
theorem j_fn {p : List D → (D → Prop) → Prop} (h : vr S (kCB p Q)) : vFn p vr S Q := h
def kFnN (p : List D → (D → Prop) → Prop) (QN : List D → List Sl → Prop) : List VR → List Sl → Prop := fun rs S1 => ∃ ds, gets S1 rs = some ds ∧ p ds fun d => ∃ es, d = .lst es ∧ flats es = true ∧ QN es S1
theorem j_fnN {p : List D → (D → Prop) → Prop} (h : vr S (kFnN p QN)) : vFnN p vr S QN := h
theorem j_kFnN {p : List D → (D → Prop) → Prop} {rs : List VR} {ds : List D} (e : gets S rs = some ds) (h : p ds fun d => ∃ es, d = .lst es ∧ flats es = true ∧ QN es S) : kFnN p QN rs S := ⟨ds, e, h⟩
def kFnI (j : Nat) (p : List Int → List D → (D → List Int → Prop) → Prop) (Q : VR → List Sl → Prop) : List VR → List Sl → Prop := fun rs S1 => ∃ i rs' ad ns ds, pick rs j = some (i, rs') ∧ S1[i]? = some (.pen ad ns) ∧ allD rs' = some ds ∧ p ns ds fun d ns' => Q (.d d) (S1.set i (.pen ad ns'))
theorem j_fnI {j : Nat} {p : List Int → List D → (D → List Int → Prop) → Prop} (h : vr S (kFnI j p Q)) : vFnI j p vr S Q := h
theorem j_kFnI {j : Nat} {p : List Int → List D → (D → List Int → Prop) → Prop} {rs rs' : List VR} {i : Nat} {ad : Option Addr} {ns : List Int} {ds : List D} (e1 : pick rs j = some (i, rs')) (e2 : S[i]? = some (.pen ad ns)) (e3 : allD rs' = some ds) (h : p ns ds fun d ns' => Q (.d d) (S.set i (.pen ad ns'))) : kFnI j p Q rs S := ⟨i, rs', ad, ns, ds, e1, e2, e3, h⟩
def kListOf (QN : List D → List Sl → Prop) : List VR → List Sl → Prop := fun rs S1 => ∃ r ds, rs = [r] ∧ (get S1 r = some (.lst ds) ∨ get S1 r = some (.tup ds)) ∧ flats ds = true ∧ QN ds S1
theorem j_listOf (h : vr S (kListOf QN)) : vListOf vr S QN := h
theorem j_kListT {r : VR} {ds : List D} (e : get S r = some (.tup ds)) (f : flats ds = true) (h : QN ds S) : kListOf QN [r] S := ⟨r, ds, rfl, .inr e, f, h⟩
def kTupOf (Q : VR → List Sl → Prop) : List VR → List Sl → Prop := fun rs S1 => ∃ r ds, rs = [r] ∧ (get S1 r = some (.lst ds) ∨ r = .d (.tup ds)) ∧ flats ds = true ∧ Q (.d (.tup ds)) S1
theorem j_tupOf (h : vr S (kTupOf Q)) : vTupOf vr S Q := h
theorem j_kTupL {r : VR} {ds : List D} (e : get S r = some (.lst ds)) (f : flats ds = true) (h : Q (.d (.tup ds)) S) : kTupOf Q [r] S := ⟨r, ds, rfl, .inl e, f, h⟩
def kSetIx1 (i : Nat) (vi : VT) (W : VEnds) : VR → List Sl → Prop := fun r S1 => (∃ s, S1[i]? = some s ∧ s.mut = true) ∧ vi S1 fun ri S2 => ∃ j, get S2 ri = some (.int j) ∧
  ((∃ ad ns k n, S2[i]? = some (.pen ad ns) ∧ ixN ns.length j = some k ∧ r = .d (.int n) ∧ W.nx (S2.set i (.pen ad (ns.set k n)))) ∨
   (∃ ds k d, S2[i]? = some (.own ds) ∧ ixN ds.length j = some k ∧ r = .d d ∧ W.nx (S2.set i (.own (ds.set k d)))))
def kSetIx2 (i : Nat) (W : VEnds) (r : VR) : VR → List Sl → Prop := fun ri S2 => ∃ j, get S2 ri = some (.int j) ∧
  ((∃ ad ns k n, S2[i]? = some (.pen ad ns) ∧ ixN ns.length j = some k ∧ r = .d (.int n) ∧ W.nx (S2.set i (.pen ad (ns.set k n)))) ∨
   (∃ ds k d, S2[i]? = some (.own ds) ∧ ixN ds.length j = some k ∧ r = .d d ∧ W.nx (S2.set i (.own (ds.set k d)))))
theorem i_setIx {i : Nat} (h : va S (kSetIx1 i vb W)) : vSetIx i va vb W S := h
theorem i_kSetIx {i : Nat} {r : VR} {s : Sl} (e : S[i]? = some s) (m : s.mut = true) (h : vb S (kSetIx2 i W r)) : kSetIx1 i vb W r S := ⟨⟨s, e, m⟩, h⟩
theorem i_kSetIxP {i : Nat} {ri : VR} {j n : Int} {ad : Option Addr} {ns : List Int} {k : Nat} (e1 : get S ri = some (.int j)) (e2 : S[i]? = some (.pen ad ns)) (e3 : ixN ns.length j = some k) (h : W.nx (S.set i (.pen ad (ns.set k n)))) : kSetIx2 i W (.d (.int n)) ri S := ⟨j, e1, .inl ⟨ad, ns, k, n, e2, e3, rfl, h⟩⟩
def kFor (g : VG) (b : VTS) (W : VEnds) : List D → List Sl → Prop := fun ds S1 => runFor g b W ds S1 ∨ ∃ Iv : Nat → List Sl → Prop, Iv 0 S1 ∧ (∀ i d S2, ds[i]? = some d → Iv i S2 → g d S2 fun S3 => b { W with nx := Iv (i + 1), ct := Iv (i + 1), bk := W.nx } S3) ∧ ∀ S2, Iv ds.length S2 → W.nx S2
theorem i_for {b : VTS} (h : vn S (kFor g b W)) : vFor vn g b W S := h
theorem i_kForU {b : VTS} {ds : List D} (h : runFor g b W ds S) : kFor g b W ds S := .inl h
theorem i_runN {b : VTS} (h : W.nx S) : runFor g b W [] S := h
theorem i_runC {b : VTS} {d : D} {r : List D} (h : g d S fun S3 => b ⟨runFor g b W r, W.rt, W.nx, runFor g b W r⟩ S3) : runFor g b W (d :: r) S := h
theorem i_kForR {b : VTS} {lo : Int} {n : Nat} (Iv : Nat → List Sl → Prop) (h0 : Iv 0 S) (h1 : ∀ i S2, i < n → Iv i S2 → g (.int (lo + (i : Int))) S2 fun S3 => b ⟨Iv (i + 1), W.rt, W.nx, Iv (i + 1)⟩ S3) (h2 : ∀ S2, Iv n S2 → W.nx S2) : kFor g b W (rg lo n) S :=
  .inr ⟨Iv, h0, fun i d S2 e p => by
    have hi : i < n := by have := (List.getElem?_eq_some_iff.mp e).1; rwa [rg_len] at this
    rw [rg_at hi] at e
    cases e
    exact h1 i S2 hi p, fun S2 p => h2 S2 (by rwa [rg_len] at p)⟩
def kItL (QN : List D → List Sl → Prop) : VR → List Sl → Prop := fun r S1 => ∃ ds, r = .d (.lst ds) ∧ QN ds S1
def kItT (QN : List D → List Sl → Prop) : VR → List Sl → Prop := fun r S1 => ∃ ds, r = .d (.tup ds) ∧ QN ds S1
theorem j_itL (h : va S (kItL QN)) : vItL va S QN := h
theorem j_itT (h : va S (kItT QN)) : vItT va S QN := h
theorem j_kItL {ds : List D} (h : QN ds S) : kItL QN (.d (.lst ds)) S := ⟨ds, rfl, h⟩
theorem j_kItT {ds : List D} (h : QN ds S) : kItT QN (.d (.tup ds)) S := ⟨ds, rfl, h⟩
def kRg1 (QN : List D → List Sl → Prop) : List VR → List Sl → Prop := fun rs S1 => ∃ j : Int, rs = [.d (.int j)] ∧ -(2 ^ 62) ≤ j ∧ j < 2 ^ 62 ∧ QN (rg 0 j.toNat) S1
def kRg2 (QN : List D → List Sl → Prop) : List VR → List Sl → Prop := fun rs S1 => ∃ i j : Int, rs = [.d (.int i), .d (.int j)] ∧ (-(2 ^ 62) ≤ i ∧ i < 2 ^ 62 ∧ -(2 ^ 62) ≤ j ∧ j < 2 ^ 62) ∧ QN (rg i (j - i).toNat) S1
theorem j_rg1 (h : vr S (kRg1 QN)) : vRg1 vr S QN := h
theorem j_rg2 (h : vr S (kRg2 QN)) : vRg2 vr S QN := h
theorem j_kRg1 {j : Int} (h1 : 0 ≤ j ∧ j < 1000000) (h : QN (rg 0 j.toNat) S) : kRg1 QN [.d (.int j)] S := ⟨j, rfl, by lia, by lia, h⟩
theorem j_kRg2 {i j : Int} (h1 : -1000000 ≤ i ∧ i < 1000000 ∧ -1000000 ≤ j ∧ j < 1000000) (h : QN (rg i (j - i).toNat) S) : kRg2 QN [.d (.int i), .d (.int j)] S := ⟨i, j, rfl, ⟨by lia, by lia, by lia, by lia⟩, h⟩
def kComp (n : Nat) (ix : List Nat) (g : VG) (vt : VTT) (ve : VT) (QN : List D → List Sl → Prop) : List D → List Sl → Prop := fun ds S1 => ds.length ≤ 1000000 ∧ ∃ Iv : Nat → List D → List Sl → Prop, Iv 0 [] S1 ∧
  (∀ i d ys S2, ds[i]? = some d → Iv i ys S2 → g d (capS n ix S2) fun S3 => vt S3 fun b S4 => if b = true then ve S4 fun r S5 => ∃ x, r = .d x ∧ Iv (i + 1) (ys ++ [x]) (backS n ix S2 S5) else Iv (i + 1) ys (backS n ix S2 S4)) ∧
  ∀ ys S2, Iv ds.length ys S2 → QN ys S2
theorem j_comp {n : Nat} {ix : List Nat} {ve : VT} (h : vn S (kComp n ix g vt ve QN)) : vComp vn n ix g vt ve S QN := h
def kCompT (ve : VT) (A : D → List Sl → Prop) (B : List Sl → Prop) : Bool → List Sl → Prop := fun b S4 => if b = true then ve S4 fun r S5 => ∃ x, r = .d x ∧ A x S5 else B S4
def kCompE (A : D → List Sl → Prop) : VR → List Sl → Prop := fun r S5 => ∃ x, r = .d x ∧ A x S5
theorem j_kComp {n : Nat} {ix : List Nat} {ve : VT} {ds : List D} (Iv : Nat → List D → List Sl → Prop) (hl : ds.length ≤ 1000000) (h0 : Iv 0 [] S)
    (h1 : ∀ i d ys S2, ds[i]? = some d → Iv i ys S2 → g d (capS n ix S2) fun S3 => vt S3 (kCompT ve (fun x S5 => Iv (i + 1) (ys ++ [x]) (backS n ix S2 S5)) (fun S4 => Iv (i + 1) ys (backS n ix S2 S4)))) (h2 : ∀ ys S2, Iv ds.length ys S2 → QN ys S2) : kComp n ix g vt ve QN ds S := ⟨hl, Iv, h0, h1, h2⟩
theorem j_kCompR {n : Nat} {ix : List Nat} {ve : VT} {lo : Int} {m : Nat} (Iv : Nat → List D → List Sl → Prop) (hl : m ≤ 1000000) (h0 : Iv 0 [] S)
    (h1 : ∀ i ys S2, i < m → Iv i ys S2 → g (.int (lo + (i : Int))) (capS n ix S2) fun S3 => vt S3 (kCompT ve (fun x S5 => Iv (i + 1) (ys ++ [x]) (backS n ix S2 S5)) (fun S4 => Iv (i + 1) ys (backS n ix S2 S4)))) (h2 : ∀ ys S2, Iv m ys S2 → QN ys S2) : kComp n ix g vt ve QN (rg lo m) S :=
  ⟨by rw [rg_len]; exact hl, Iv, h0, fun i d ys S2 e p => by
    have hi : i < m := by have := (List.getElem?_eq_some_iff.mp e).1; rwa [rg_len] at this
    rw [rg_at hi] at e
    cases e
    exact h1 i ys S2 hi p, fun ys S2 p => h2 ys S2 (by rwa [rg_len] at p)⟩
theorem j_true (h : QT true S) : vTrue S QT := h
theorem j_kCompT {ve : VT} {A : D → List Sl → Prop} {B : List Sl → Prop} {b : Bool} (h1 : b = true → ve S (kCompE A)) (h2 : b = false → B S) : kCompT ve A B b S := by
  cases b with
  | true => show (if true = true then _ else _); rw [if_pos rfl]; exact h1 rfl
  | false => show (if false = true then _ else _); rw [if_neg Bool.false_ne_true]; exact h2 rfl
theorem j_kCompTT {ve : VT} {A : D → List Sl → Prop} {B : List Sl → Prop} (h : ve S (kCompE A)) : kCompT ve A B true S := j_kCompT (fun _ => h) fun e => nomatch e
theorem j_kCompE {A : D → List Sl → Prop} {x : D} (h : A x S) : kCompE A (.d x) S := ⟨x, rfl, h⟩
theorem j_eqI {i j : Int} {q : D → Prop} (h : q (.bl (decide (i = j)))) : wEq (.int i) (.int j) q := ⟨.int i, .int j, rfl, rfl, rfl, by simpa using h⟩
theorem j_isi {d : D} {c : String} {b : Bool} {q : D → Prop} (hn : ∀ n, d ≠ .ty n) (e : isiB (tyD d) c = some b) (h : q (.bl b)) (hE : isE d = false := by with_unfolding_all rfl) : wIsi [d, .ty c] q := ⟨d, c, b, rfl, hn, hE, e, h⟩
end
end VL
end
section
set_option maxHeartbeats 4000000
namespace VL
open PySem L2
section
variable {K : PySem.W.Frag} {X : Cx} {m : Bool} {e a b c o : Expr} {ta tb tc te : TE} {va vb vc : VT} {pos : Pos}
theorem reps_tt : ∀ {ps : List Addr} {nss : List (List Int)} {N : AP} {F : FP} {H : Hp}, Tups K (fun _ => none) ps nss → Reps K N F H (ps.map V.ref) (nss.map eT)
  | _, _, _, _, _, .nil => .nil
  | _, _, _, _, _, .cons h t => .cons (.tupK h Reps.ints) (reps_tt t)
end
section
variable {S : List Sl} {Q : VR → List Sl → Prop} {QT : Bool → List Sl → Prop} {W : VEnds} {va vb : VT} {vt vu : VTT} {t u : VTS} {b : Bool}
theorem c_orF (e : b = false) (h : vu S QT) : kOr vu QT b S := by subst e; exact j_kOrF h
theorem c_ifT (e : b = true) (h : t W S) : kIf t u W b S := by subst e; exact i_kIfT h
theorem c_ifF (e : b = false) (h : u W S) : kIf t u W b S := by subst e; exact i_kIfF h
theorem c_eT (e : b = true) (h : va S Q) : kIfE va vb Q b S := by subst e; exact j_kIfE (fun _ => h) fun e => nomatch e
theorem c_eF (e : b = false) (h : vb S Q) : kIfE va vb Q b S := by subst e; exact j_kIfE (fun e => nomatch e) fun _ => h
theorem c_ovF {c : Bool} (e : c = false) (h : vb S Q) : kOrV vb Q (.d (.bl c)) S := by subst e; exact j_kOrV (fun e => nomatch e) fun _ => h
end
section
variable {α : Type} {S : List Sl} {QN : List D → List Sl → Prop} {g : VG} {vt : VTT} {ve : VT} {n : Nat} {ix : List Nat}
theorem take_succ_map {β : Type} {xs : List α} {en : α → β} {i : Nat} {d : β} (h : (xs.map en)[i]? = some d) : ∃ x, xs[i]? = some x ∧ d = en x ∧ x ∈ xs ∧ xs.take (i + 1) = xs.take i ++ [x] := by
  rw [List.getElem?_map] at h
  obtain ⟨x, h1, h2⟩ := Option.map_eq_some_iff.mp h
  refine ⟨x, h1, h2.symm, List.mem_of_getElem? h1, ?_⟩
  rw [List.take_add_one, h1]
  rfl
theorem comp_filter {xs : List α} {en f : α → D} {p : α → Bool} (hl : xs.length ≤ 1000000)
    (h : ∀ x ∈ xs, ∀ (A : D → List Sl → Prop) (B : List Sl → Prop), (∀ S5, backS n ix S S5 = S → p x = true → A (f x) S5) → (∀ S5, backS n ix S S5 = S → p x = false → B S5) → g (en x) (capS n ix S) fun S3 => vt S3 (kCompT ve A B))
    (h2 : QN ((xs.filter p).map f) S) : kComp n ix g vt ve QN (xs.map en) S := by
  refine j_kComp (fun i ys S' => S' = S ∧ ys = ((xs.take i).filter p).map f) (by simpa using hl) ⟨rfl, by simp⟩ ?_ ?_
  · rintro i d ys S2 e ⟨rfl, rfl⟩
    obtain ⟨x, h1, rfl, hm, ht⟩ := take_succ_map e
    refine h x hm _ _ (fun S5 e5 hp => ⟨e5, ?_⟩) (fun S5 e5 hp => ⟨e5, ?_⟩)
    · rw [ht, List.filter_append, List.map_append]
      simp [hp]
    · rw [ht, List.filter_append, List.map_append]
      simp [hp]
  · rintro ys S2 ⟨rfl, rfl⟩
    rw [List.length_map, List.take_length]
    exact h2
theorem comp_map {xs : List α} {en f : α → D} (hl : xs.length ≤ 1000000)
    (h : ∀ x ∈ xs, ∀ (A : D → List Sl → Prop) (B : List Sl → Prop), (∀ S5, backS n ix S S5 = S → A (f x) S5) → g (en x) (capS n ix S) fun S3 => vt S3 (kCompT ve A B))
    (h2 : QN (xs.map f) S) : kComp n ix g vt ve QN (xs.map en) S := by
  refine comp_filter (p := fun _ => true) hl (fun x hx A B hA _ => h x hx A B fun S5 e => hA S5 e rfl) ?_
  rwa [List.filter_eq_self.mpr (by intros; rfl)]
end
section
variable {α : Type} [DecidableEq α] {n : Nat} {f : α → D} {x y : α} {l : List α} {q : D → Prop}
theorem i_niT (e : Enc n f) (hx : x ∉ l) (h : q (.bl true)) (hn : n + 1 ≤ 40 := by decide) : wInD true (f x) (.lst (l.map f)) q := i_notInE e (by rw [decide_eq_false hx]; exact h) hn
theorem i_niF (e : Enc n f) (hx : x ∈ l) (h : q (.bl false)) (hn : n + 1 ≤ 40 := by decide) : wInD true (f x) (.lst (l.map f)) q := i_notInE e (by rw [decide_eq_true hx]; exact h) hn
theorem i_eqT (e : Enc n f) (hx : x = y) (h : q (.bl true)) (hn : n ≤ 40 := by decide) : wEqD false (f x) (f y) q := i_eqE e (by rw [decide_eq_true hx]; exact h) hn
theorem i_eqF (e : Enc n f) (hx : x ≠ y) (h : q (.bl false)) (hn : n ≤ 40 := by decide) : wEqD false (f x) (f y) q := i_eqE e (by rw [decide_eq_false hx]; exact h) hn
theorem i_neF (e : Enc n f) (hx : x = y) (h : q (.bl false)) (hn : n ≤ 40 := by decide) : wEqD true (f x) (f y) q := i_neE e (by rw [decide_eq_true hx]; exact h) hn
end
end VL
end
section
set_option maxHeartbeats 4000000
namespace L2
open PySem PySem.Spec PyProof.Rows
open PySem.SeqAt PySem.MeetsSeq PySem.MeetsSeq2 PySem.MeetsSeq3
open PySem.AutoSeq1 (wpAny_loadPart')
section
variable {prog : Program} {w : World} {A : Around} {E : Value → Shared → Prop}
end
end L2
end
section
set_option maxHeartbeats 4000000
namespace VL
open PySem L2 PySem.SeqAt PySem.Spec PyProof.Rows
section
variable {X : Cx} {pins : List (Addr × Obj)} {σ : L2.St} {H : Hp} {s : Shared} {K : PySem.W.Frag}
def rMinI (K : PySem.W.Frag) (le : Int → Int → Prop) : List V → Hp → VK → Prop := fun xs H Q => ∃ (l : Addr) (ns : List Int), xs = [.ref l] ∧ SqL K H l (ns.map V.int) ∧ ns ≠ [] ∧ ∀ M, M ∈ ns → (∀ a ∈ ns, le M a) → Q (.int M) H
theorem c_max1 (hK : X.K = K) (hc : X.calm = true) : CallR X (.builtin "max") (rMinI K fun M a => a ≤ M) := by
  intro pins s σ H xs us Q I r ⟨l, ns, e, hq, hne, q⟩
  subst e hK
  obtain ⟨u, rfl, rx⟩ := Vals.one r
  cases rx
  obtain ⟨vs, rv, pl, _⟩ := I.list hq
  obtain ⟨m, F⟩ := I.fr
  exact PySem.W.kso_max F news_all pl.isList (by simpa using intsAre_of rv) (List.length_pos_iff.mpr hne) (I.ok.hd hc) fun h' M t tk F' N' h1 h2 => ⟨.int M, H, I.led (t' := tk) F.ns F' N', ⟨_, rfl⟩, q M h1 h2⟩
def wMin1 (le : Int → Int → Prop) : List D → (D → Prop) → Prop := fun ds q => ∃ ns : List Int, ds = [.lst (ns.map .int)] ∧ ns ≠ [] ∧ ∀ M, M ∈ ns → (∀ a ∈ ns, le M a) → q (.int M)
theorem l_min1 {le : Int → Int → Prop} : LiftC K (rMinI K le) (wMin1 le) := by
  rintro xs H ds q C r ⟨ns, rfl, hne, h⟩ hc
  obtain ⟨v, rfl, rv⟩ := rep1 r
  obtain ⟨a, vs, rfl, hq, rr⟩ := rv.sqL
  cases Reps.toInts rr
  exact ⟨a, ns, rfl, hq, hne, fun M h1 h2 => hc _ _ (h M h1 h2) fun _ _ => .int _⟩
end
section
variable {K : PySem.W.Frag} {X : Cx} {m : Bool} {e a b : Expr} {ta tb te : TE} {va vb : VT} {tr : TA} {vr : VTA} {pos p : Pos}
def vTru (va : VT) : VTT := fun S Q => va S fun r S1 => ∃ d b, get S1 r = some d ∧ tru d = some b ∧ Q b S1
theorem vt_tru (hK : X.K = K) (h : VE K X false e te va) (he : ∀ whole, isTrue e X.env whole = (do let v ← whole; standAt e.pos; holding [v] (truthy v)) := by intro _; rfl) : VTe K X e (fun σ H Q => te σ H fun x H' => ∃ k, TruV K x H' k ∧ Q k H') (vTru va) :=
  ⟨by subst hK; exact pt_truth h.pe he, fun H0 Z σ H S Q C k t hc => h.snd H0 Z σ H S _ _ k t fun v H1 r S1 k1 st1 rr zq1 => by
    obtain ⟨d, b, e1, e2, q⟩ := zq1
    refine ⟨b, ?_, hc b H1 S1 k1 st1 q⟩
    have r1 := rr.get k1 e1
    cases d with
    | int i => cases r1; cases e2; rfl
    | bl i => cases r1; cases e2; rfl
    | non => cases r1; cases e2; rfl
    | str i => cases e2
    | ty i => cases e2
    | dic ks i => cases e2
    | exc i => cases e2
    | tup ds => obtain ⟨a, vs, rfl, hq, rr'⟩ := r1.sqT; cases e2; exact .inr (.inl ⟨vs, hq, by cases rr' <;> rfl⟩)
    | lst ds => obtain ⟨a, vs, rfl, hq, rr'⟩ := r1.sqL; cases e2; exact .inl ⟨vs, hq, by cases rr' <;> rfl⟩⟩
def vCat (i : Nat) (t : VTN) : VTN := fun S Q => (∃ ds, S[i]? = some (.own ds)) ∧ t S fun es S1 => ∃ ds, S1[i]? = some (.own ds) ∧ ds.length + es.length ≤ 1000000 ∧ Q (ds ++ es) S1
theorem vn_cat {t : VTN} (i : Nat) (ho : PE X a (tVar i)) (h : VN K X b tb t) : VN K X (.BinOp a .Add b pos) (tOp rCat (tVar i) tb) (vCat i t) := ⟨pe_op op_cat ho h.pe, fun H0 Z σ H S Q C k zq1 hc => by
  obtain ⟨⟨ds0, e0⟩, t⟩ := zq1
  obtain ⟨o, g1, c, us, rfl, g2, g3, g4⟩ := k.ownAt e0
  refine ⟨.ref c, g1, h.snd H0 Z σ H S _ _ k t fun a' vs es H1 H' S1 k1 st1 ha hg hl rr ⟨ds, e1, hlen, q⟩ => ?_⟩
  obtain ⟨o', g1', c', us', rfl, g2', g3', g4'⟩ := k1.ownAt e1
  rw [g1] at g1'; cases g1'
  have k2 := k1.grow hg
  have g2'' : H' c = some (.lst us') := by rw [hg c (by simp [g2'])]; exact g2'
  refine ⟨c, a', us', vs, rfl, rfl, g2'', hl, by rw [g4'.length, rr.length, sizeLine_eq]; lia, fun p hp => ?_⟩
  refine hc p _ _ H' _ S1 k2 (st1.trans (.grow hg)) hp (upd_grow hp) upd_same (Reps.append ?_ ?_) q
  · exact reps_new hp ((g4'.mono (fun b n e => ⟨n, hg b e⟩) fun _ x => x).mono (fun _ n _ => ⟨n, rfl⟩) fun _ x _ => x)
  · exact reps_new hp (rr.mono (fun _ n _ => ⟨n.1, rfl⟩) fun _ x _ => x)⟩
abbrev VO := List Sl → (Option Int → List Sl → Prop) → Prop
def SndO (K : PySem.W.Frag) (te : TO) (t : VO) : Prop := ∀ H0 Z σ H S Q C, OK K H0 Z σ H S → t S Q → (∀ o H' S', OK K H0 Z σ H' S' → Step Z σ S H σ S' H' → Q o S' → C o H') → te σ H C
structure VOe (K : PySem.W.Frag) (X : Cx) (e : Option Expr) (te : TO) (t : VO) : Prop where
  pe : PO X e te
  snd : SndO K te t
def voNo : VO := fun S Q => Q none S
def voSome (va : VT) : VO := fun S Q => va S fun r S1 => ∃ i, r = .d (.int i) ∧ Q (some i) S1
theorem vo_none : VOe K X none tNoPart voNo := ⟨po_none, fun _ _ _ _ _ _ _ k h q => q _ _ _ k .refl h⟩
theorem vo_some (h : VE K X false e te va) : VOe K X (some e) (tPart te) (voSome va) := ⟨po_some h.pe, fun H0 Z σ H S Q C k t hc => h.snd H0 Z σ H S _ _ k t fun v H1 r S1 k1 st1 rr zq1 => by
  obtain ⟨i, e, q⟩ := zq1
  subst e
  cases (show Rep K _ _ H1 v (.int i) from rr)
  exact ⟨i, rfl, hc _ H1 S1 k1 st1 q⟩⟩
def cutD (ds : List D) (lo hi : Option Int) : List D := (ds.drop (HT.sIx ds.length 0 lo)).take (HT.sIx ds.length ds.length hi - HT.sIx ds.length 0 lo)
theorem reps_cut {N : AP} {F : FP} {H : Hp} {vs : List V} {ds : List D} (r : Reps K N F H vs ds) (lo hi : Option Int) : Reps K N F H (cutV vs lo hi) (cutD ds lo hi) := by
  unfold cutV cutD
  rw [r.length]
  exact (r.drop _).take _
def vSl (va : VT) (vl vh : VO) : VTN := fun S Q => va S fun r S1 => vl S1 fun lo S2 => vh S2 fun hi S3 => ∃ ds, get S3 r = some (.lst ds) ∧ flats ds = true ∧ Q (cutD ds lo hi) S3
theorem flats_drop : ∀ {ds : List D} (n : Nat), flats ds = true → flats (ds.drop n) = true
  | _, 0, h => by simpa using h
  | [], _ + 1, h => by simpa using h
  | d :: r, n + 1, h => by simp only [flats, Bool.and_eq_true] at h; simpa using flats_drop n h.2
theorem flats_take : ∀ {ds : List D} (n : Nat), flats ds = true → flats (ds.take n) = true
  | _, 0, h => by simp [flats]
  | [], _ + 1, h => by simpa using h
  | d :: r, n + 1, h => by simp only [flats, Bool.and_eq_true] at h; simp [flats, h.1, flats_take n h.2]
theorem vn_sl {lo hi : Option Expr} {tl th : TO} {vl vh : VO} {p2 : Pos} (hK : X.K = K) (h : VE K X false e te va) (hl : VOe K X lo tl vl) (hh : VOe K X hi th vh) : VN K X (.Subscript e (.Slice lo hi none p2) pos) (tSl (rSlL K) te tl th) (vSl va vl vh) :=
  ⟨by subst hK; exact pe_slice sl_list h.pe hl.pe hh.pe, fun H0 Z σ H S Q C k t hc => h.snd H0 Z σ H S _ _ k t fun v H1 r S1 k1 st1 rr t1 => hl.snd H0 Z σ H1 S1 _ _ k1 t1 fun lo H2 S2 k2 st2 t2 => hh.snd H0 Z σ H2 S2 _ _ k2 t2 fun hi H3 S3 k3 st3 zq1 => by
    obtain ⟨ds, e, f, q⟩ := zq1
    obtain ⟨a, vs, rfl, hq, rs⟩ := ((rr.step st2).step st3).elems k3 e
    exact ⟨a, vs, rfl, hq, fun p hp => hc p _ _ H3 _ S3 k3 ((st1.trans st2).trans st3) hp (upd_grow hp) upd_same (flats_new hp (reps_cut rs lo hi) (by unfold cutD; exact flats_take _ (flats_drop _ f))) q⟩⟩
end
end VL
end
section
set_option maxHeartbeats 4000000
namespace VL
open PySem L2
section
variable {K : PySem.W.Frag} {X : Cx} {m : Bool} {e a b : Expr} {ta tb te : TE} {va vb : VT} {tr : TA} {vr : VTA} {pos p : Pos}
end
section
variable {S : List Sl} {Q : VR → List Sl → Prop} {QT : Bool → List Sl → Prop} {QN : List D → List Sl → Prop} {W : VEnds} {va vb : VT} {vr : VTA} {vn : VTN} {vl vh : VO}
@[irreducible] def kCat (i : Nat) (QN : List D → List Sl → Prop) : List D → List Sl → Prop := fun es S1 => ∃ ds, S1[i]? = some (.own ds) ∧ ds.length + es.length ≤ 1000000 ∧ QN (ds ++ es) S1
theorem j_cat {i : Nat} {ds : List D} (e : S[i]? = some (.own ds)) (h : vn S (kCat i QN)) : vCat i vn S QN := by unfold kCat at h; exact ⟨⟨ds, e⟩, h⟩
theorem j_kCat {i : Nat} {es ds : List D} (e : S[i]? = some (.own ds)) (hl : ds.length + es.length ≤ 1000000) (h : QN (ds ++ es) S) : kCat i QN es S := by unfold kCat; exact ⟨ds, e, hl, h⟩
@[irreducible] def kTru (QT : Bool → List Sl → Prop) : VR → List Sl → Prop := fun r S1 => ∃ d b, get S1 r = some d ∧ tru d = some b ∧ QT b S1
theorem j_tru (h : va S (kTru QT)) : vTru va S QT := by unfold kTru at h; exact h
theorem j_kTru {r : VR} {d : D} {b : Bool} (e : get S r = some d) (e2 : tru d = some b) (h : QT b S) : kTru QT r S := by unfold kTru; exact ⟨d, b, e, e2, h⟩
@[irreducible] def kSl1 (vl vh : VO) (QN : List D → List Sl → Prop) : VR → List Sl → Prop := fun r S1 => vl S1 fun lo S2 => vh S2 fun hi S3 => ∃ ds, get S3 r = some (.lst ds) ∧ flats ds = true ∧ QN (cutD ds lo hi) S3
@[irreducible] def kSl2 (r : VR) (vh : VO) (QN : List D → List Sl → Prop) : Option Int → List Sl → Prop := fun lo S2 => vh S2 fun hi S3 => ∃ ds, get S3 r = some (.lst ds) ∧ flats ds = true ∧ QN (cutD ds lo hi) S3
@[irreducible] def kSl3 (r : VR) (lo : Option Int) (QN : List D → List Sl → Prop) : Option Int → List Sl → Prop := fun hi S3 => ∃ ds, get S3 r = some (.lst ds) ∧ flats ds = true ∧ QN (cutD ds lo hi) S3
theorem j_sl (h : va S (kSl1 vl vh QN)) : vSl va vl vh S QN := by unfold kSl1 at h; exact h
theorem j_kSl1 {r : VR} (h : vl S (kSl2 r vh QN)) : kSl1 vl vh QN r S := by unfold kSl1; unfold kSl2 at h; exact h
theorem j_kSl2 {r : VR} {lo : Option Int} (h : vh S (kSl3 r lo QN)) : kSl2 r vh QN lo S := by unfold kSl2; unfold kSl3 at h; exact h
theorem j_kSl3 {r : VR} {lo hi : Option Int} {ds : List D} (e : get S r = some (.lst ds)) (f : flats ds = true) (h : QN (cutD ds lo hi) S) : kSl3 r lo QN hi S := by unfold kSl3; exact ⟨ds, e, f, h⟩
theorem j_kSl3E {r : VR} {lo hi : Option Int} {ds es : List D} (e : get S r = some (.lst ds)) (f : flats ds = true) (e2 : cutD ds lo hi = es) (h : QN es S) : kSl3 r lo QN hi S := j_kSl3 e f (by rw [e2]; exact h)
variable {QO : Option Int → List Sl → Prop}
theorem j_voNo (h : QO none S) : voNo S QO := h
@[irreducible] def kVo (QO : Option Int → List Sl → Prop) : VR → List Sl → Prop := fun r S1 => ∃ i, r = .d (.int i) ∧ QO (some i) S1
theorem j_voSome (h : va S (kVo QO)) : voSome va S QO := by unfold kVo at h; exact h
theorem j_kVo {i : Int} (h : QO (some i) S) : kVo QO (.d (.int i)) S := by unfold kVo; exact ⟨i, rfl, h⟩
theorem j_min1 {ns : List Int} {le : Int → Int → Prop} {q : D → Prop} (hne : ns ≠ []) (h : ∀ M, M ∈ ns → (∀ a ∈ ns, le M a) → q (.int M)) : wMin1 le [.lst (ns.map .int)] q := ⟨ns, rfl, hne, h⟩
end
end VL
end
section
set_option maxHeartbeats 4000000
namespace VL
open PySem L2
section
variable {X : Cx} {K : PySem.W.Frag}
end
section
variable {K : PySem.W.Frag} {X : Cx} {m : Bool} {e a b : Expr} {es : List Expr} {ta tb te : TE} {va vb : VT} {tr : TA} {vr : VTA} {pos p : Pos} {stm : Stmt} {ts : TS} {t : VTS}
end
section
variable {P : Program} {w : World} {K : PySem.W.Frag} {mg : Str → Option Value} {base : Heap}
end
section
variable {K : PySem.W.Frag} {X : Cx} {m : Bool} {e e0 : Expr} {te : TE} {pos p0 : Pos} {x : Str} {j k : Nat} {ps : List Str} {t : VTN} {p : List Int → List D → (D → List Int → Prop) → Prop}
end
end VL
end
section
set_option maxHeartbeats 4000000
namespace L2
open PySem PySem.Spec PyProof.Rows
theorem vals_of_ints : ∀ {vs : List Value} {ns : List Int}, IntsAre vs ns → Vals (ns.map V.int) vs
  | _, _, .nil => .nil
  | _, _, .cons n t r => .cons ⟨t, rfl⟩ (vals_of_ints r)
theorem Inv.made_list {X : Cx} {pins : List (Addr × Obj)} {σ : St} {H : Hp} {s : Shared} {m : Str → Option Value} {h' : Heap} {D : Addr} {vs' : List Value} {c : Nat} {ws : List V} (hex : X.ex = []) (I : Inv X pins σ H s) (Fn : s.heap.Ns X.env.locals m) (F' : Fr X.base X.env.locals h' m)
    (N' : News X.base X.env.locals h' ((D, PySem.W.listOf vs'.toArray c) :: allNews X.base s.heap X.env.locals)) (hlt : ∀ q ∈ allNews X.base s.heap X.env.locals, q.1 < D) (r : Vals ws vs') (hz : ws.length ≤ sizeLine) :
    H D = none ∧ Inv X pins σ (upd H D (.lst ws)) { s with heap := h' } := by
  have N1 : News X.base X.env.locals h' (allNews X.base s.heap X.env.locals) := fun p hp => N' p (List.mem_cons_of_mem _ hp)
  have I1 : Inv X pins σ H { s with heap := h' } := I.led (t' := s.toks) Fn F' N1
  have ND := N' (D, _) List.mem_cons_self
  have young : ∀ b o, s.heap.get? b = some o → b ≠ D := fun b o e z => by
    by_cases hb : b = X.env.locals
    · exact ND.2.1 (z ▸ hb)
    · cases q : X.base.get? b with
      | some u => rw [z, ND.2.2] at q; cases q
      | none => exact absurd (hlt (b, o) (mem_allNews hb q e)) (by rw [z]; exact Nat.lt_irrefl _)
  have hDn : H D = none := by
    cases z : H D with
    | none => rfl
    | some u =>
      obtain ⟨ob, eo⟩ := ObjOk.there (I.hok D u z)
      exact absurd rfl (young D ob eo)
  have s0D : X.s₀.heap.get? D = none := by
    cases z : X.s₀.heap.get? D with
    | none => rfl
    | some ob =>
      obtain ⟨o', e'⟩ := I.base.there D ob z (by rw [hex]; simp)
      exact absurd rfl (young D o' e')
  refine ⟨hDn, I1.trackN hDn s0D ND.2.1 (fun x c e z => ?_) (fun p hp z => ?_) ⟨hz, vs', c, r, ND.1⟩⟩
  · obtain ⟨v, o, ho, _⟩ := I.cell x c e
    exact young c o ho z
  · exact young p.1 p.2 (I.pin p hp).1 z
def rSortI (K : PySem.W.Frag) : List V → Hp → VK → Prop := fun xs H Q => ∃ (l : Addr) (ns : List Int), xs = [.ref l] ∧ SqL K H l (ns.map V.int) ∧ ns.length < 64 ∧
  ∀ (D : Addr) (ns' : List Int), H D = none → ns'.Perm ns → ns'.Pairwise (· ≤ ·) → Q (.ref D) (upd H D (.lst (ns'.map V.int)))
theorem call_sortI {X : Cx} (hex : X.ex = []) : CallR X (.builtin "sorted") (rSortI X.K) := by
  intro pins s σ H xs us Q I r h
  obtain ⟨l, ns, rfl, hl, h64, q⟩ := h
  obtain ⟨u, rfl, rx⟩ := vals1 r
  cases rx
  obtain ⟨vs, rv, pl, hz⟩ := I.list hl
  obtain ⟨m, F⟩ := I.fr
  refine PySem.W.kso_sorted F news_all pl.isList (intsAre_of rv) h64 fun D vs' ns' c h' F' N' hlt hi hlen hp hs _ => ?_
  obtain ⟨hD, I2⟩ := I.made_list hex F.ns F' N' hlt (vals_of_ints hi) (by rw [List.length_map, hlen, sizeLine_eq]; lia)
  exact ⟨.ref D, _, I2, rfl, q D ns' hD hp hs⟩
end L2
namespace VL
open PySem L2
section
variable {K : PySem.W.Frag} {X : Cx} {m : Bool} {e : Expr} {te ta : TE} {va vb : VT} {tr : TA} {vr : VTA} {pos p : Pos}
def vSortI (vr : VTA) : VTN := fun S Q => vr S fun rs S1 => ∃ r ns, rs = [r] ∧ get S1 r = some (.lst (ns.map .int)) ∧ ns.length < 64 ∧ ∀ ns' : List Int, ns'.Perm ns → ns'.Pairwise (· ≤ ·) → Q (ns'.map .int) S1
theorem vn_sortI (hK : X.K = K) (hex : X.ex = []) (hg : Gl X "sorted") (hm : X.mg "sorted" = none) (hb : bootBuiltins "sorted" = some (.builtin "sorted")) (ha : VA K X false [e] tr vr) (he : starEach [e] X.env = [(false, eval e X.env)] := by rfl) :
    VN K X (.Call (.Name "sorted" p) [e] [] pos) (tCB (rSortI K) tr) (vSortI vr) :=
  ⟨by subst hK; exact pe_callB (call_sortI hex) hg hm hb ha.pe (by decide) (by decide) he rfl, fun H0 Z σ H S Q C k t hc => ha.snd H0 Z σ H S _ _ k t fun vs H1 rs S1 k1 st1 rrs zq1 => by
    obtain ⟨r, ns, e1, e2, h2, q⟩ := zq1
    subst e1
    obtain ⟨v, rfl, rv⟩ := rrs.one
    obtain ⟨a, ys, rfl, hq, rr⟩ := rv.elems k1 e2
    cases Reps.toInts rr
    exact ⟨a, ns, rfl, hq, h2, fun D ns' hD hp hs => hc D _ _ H1 _ S1 k1 st1 hD (upd_grow hD) upd_same Reps.ints (q ns' hp hs)⟩⟩
end
end VL
end
section
set_option maxHeartbeats 4000000
namespace VL
open PySem L2
section
variable {K : PySem.W.Frag} {X : Cx} {m : Bool} {e o : Expr} {te : TE} {vb : VT} {pos : Pos}
def vIxD (rows : List (Int × List (List Int))) (vb : VT) : VT := fun S Q => vb S fun rb S1 => ∃ k nss, get S1 rb = some (.int k) ∧ (k, nss) ∈ rows ∧ Q (.d (.tup (nss.map eT))) S1
theorem ve_ixD {a : Addr} {rows : List (Int × List (List Int))} (hK : X.K = K) (hd : okD K a rows = true) (ho : PE X o (tC (.ref a))) (h : VE K X false e te vb) (hs : PlainIx e) : VE K X m (.Subscript o e pos) (tOp (rIxD K rows) (tC (.ref a)) te) (vIxD rows vb) :=
  ⟨by subst hK; exact pe_ix ix_dict ho h.pe hs, fun H0 Z σ H S Q C k t hc => h.snd H0 Z σ H S _ _ k t fun v H1 r S1 k1 st1 rr zq1 => by
    obtain ⟨i, nss, e1, hi, q⟩ := zq1
    cases rr.get k1 e1
    refine ⟨a, i, nss, rfl, rfl, hd, hi, fun v tt => ?_⟩
    obtain ⟨a', ps, rfl, h⟩ := tt
    obtain ⟨h1, h2⟩ := h fun _ => none
    exact hc _ H1 (.d (.tup (nss.map eT))) S1 k1 st1 (show Rep K _ _ H1 (.ref a') (.tup (nss.map eT)) from .tupK h1 (reps_tt h2)) q⟩
end
section
variable {S : List Sl} {Q : VR → List Sl → Prop} {vb : VT}
@[irreducible] def kIxD (rows : List (Int × List (List Int))) (Q : VR → List Sl → Prop) : VR → List Sl → Prop := fun rb S1 => ∃ k nss, get S1 rb = some (.int k) ∧ (k, nss) ∈ rows ∧ Q (.d (.tup (nss.map eT))) S1
theorem j_ixD {rows : List (Int × List (List Int))} (h : vb S (kIxD rows Q)) : vIxD rows vb S Q := by unfold kIxD at h; exact h
theorem j_kIxD {rows : List (Int × List (List Int))} {r : VR} {k : Int} {nss : List (List Int)} (e : get S r = some (.int k)) (hm : (k, nss) ∈ rows) (h : Q (.d (.tup (nss.map eT))) S) : kIxD rows Q r S := by unfold kIxD; exact ⟨k, nss, e, hm, h⟩
end
end VL
end
section
set_option maxHeartbeats 4000000
namespace L2
open PySem PySem.Spec PyProof.Rows
section
variable {X : Cx} {pins : List (Addr × Obj)} {σ : St} {H : Hp} {s : Shared}
end
section
variable {X : Cx}
end
end L2
namespace L2
open PySem PySem.Spec PyProof.Rows
section
variable {X : Cx} {o i value : Expr} {pos pos' : Pos} {td ty tv : TE}
end
end L2
namespace VL
open PySem L2
section
variable {K : PySem.W.Frag} {N : AP} {F : FP} {H : Hp}
end
section
variable {K : PySem.W.Frag} {X : Cx} {m : Bool} {e o ie : Expr} {te ti : TE} {va vi : VT} {pos posS : Pos}
end
end VL
end
section
set_option maxHeartbeats 4000000
namespace L2
open PySem PySem.Spec PyProof.Rows
section
variable {prog : Program} {w : World} {A : Around} {E : Value → Shared → Prop} {s : Shared}
end
end L2
end
section
set_option maxHeartbeats 4000000
namespace L2
open PySem PySem.Spec PyProof.Rows
section
variable {prog : Program} {w : World} {A : Around} {E : Value → Shared → Prop} {s : Shared}
end
section
variable {X : Cx} {p pr pos posr : Pos} {e : Expr} {tr : TA}
end
end L2
end
section
set_option maxHeartbeats 4000000
namespace VL
open PySem L2
section
variable {K : PySem.W.Frag} {X : Cx} {m : Bool} {e : Expr} {te : TE} {va vb : VT} {tr : TA} {vr : VTA} {pos p pr posr : Pos}
end
section
variable {S : List Sl} {Q : VR → List Sl → Prop} {QN : List D → List Sl → Prop} {QD : List (List Int × D) → List Sl → Prop} {W : VEnds} {va vb : VT} {vr : VTA} {vd : VTD}
end
section
variable {K : PySem.W.Frag} {X : Cx} {m : Bool} {e : Expr} {te : TE} {pos : Pos}
variable {S : List Sl} {Q : VR → List Sl → Prop} {vn : VTN}
end
theorem j_kCompTF {S : List Sl} {ve : VT} {A : D → List Sl → Prop} {B : List Sl → Prop} (h : B S) : kCompT ve A B false S := j_kCompT (fun e => nomatch e) fun _ => h
section
variable {K : PySem.W.Frag} {X : Cx} {e : Expr} {te : TE} {va : VT} {pos pos' : Pos} {x : Str}
theorem vs_set1 {i : Nat} (hN : X.N.Nodup) (hi : X.N[i]? = some x) (hx : Loc X.env.scope x) (h : VE K X false e te va) (hs : swapsWith e (some (.Name x pos')) pos.line X.env = pure false := by rfl)
    (hf : X.fn x = true ∨ X.env.scope.names.lookup x = some .local := by first | exact .inl rfl | exact .inr rfl | assumption) : VS K X (.Assign [.Name x pos'] e pos) (tAsg te (gName i)) (vAsg va (vgN i)) := vs_set (fun _ h => ps_set hN hi hx h hs hf) h
end
end VL
end
section
set_option maxHeartbeats 4000000
namespace L2
open PySem PySem.Spec PyProof.Rows
section
variable {X : Cx} {tg : Expr}
end
end L2
namespace VL
open PySem L2
section
variable {K : PySem.W.Frag} {X : Cx} {a b c tg : Expr} {tr : TA} {vr : VTA} {p pos : Pos}
variable {S : List Sl} {QN : List D → List Sl → Prop}
end
end VL
end
section
set_option maxHeartbeats 4000000
namespace L2
open PySem PySem.Spec PyProof.Rows
end L2
namespace VL
open PySem L2
section
variable {K : PySem.W.Frag} {X : Cx} {m : Bool} {e a b o : Expr} {te ta tb : TE} {va vb : VT} {pos apos : Pos}
end
section
variable {S : List Sl} {Q : VR → List Sl → Prop} {va vb : VT} {vn : VTN}
end
theorem at_0 {d : D} {r : List D} : atI (d :: r) 0 = some d := atI_nat (j := 0) rfl
end VL
namespace L2
open PySem
end L2
end
section
set_option maxHeartbeats 4000000
namespace VL
open PySem L2
section
variable {K : PySem.W.Frag} {X : Cx} {e : Expr} {te : TE} {pos pos' : Pos} {x : Str}
end
end VL
end
section
set_option maxHeartbeats 4000000
namespace L2
open PySem PySem.Spec PyProof.Rows
section
variable {X : Cx}
variable {e st : Expr} {te ts : TE} {p2 pos : Pos}
end
end L2
namespace VL
open PySem L2
section
variable {K : PySem.W.Frag} {X : Cx} {m : Bool} {e st : Expr} {te ta : TE} {va vb : VT} {tr : TA} {vr : VTA} {pos p p1 p2 pos2 : Pos}
end
section
variable {S : List Sl} {Q : VR → List Sl → Prop} {QN : List D → List Sl → Prop} {va vb : VT} {vr : VTA}
@[irreducible] def kSortI (QN : List D → List Sl → Prop) : List VR → List Sl → Prop := fun rs S1 => ∃ (r : VR) (ns : List Int), rs = [r] ∧ get S1 r = some (.lst (ns.map .int)) ∧ ns.length < 64 ∧ ∀ ns' : List Int, ns'.Perm ns → ns'.Pairwise (· ≤ ·) → QN (ns'.map .int) S1
theorem j_sortI (h : vr S (kSortI QN)) : vSortI vr S QN := by unfold kSortI at h; exact h
theorem j_kSortI {r : VR} {ns : List Int} (e : get S r = some (.lst (ns.map .int))) (hl : ns.length < 64) (h : ∀ ns' : List Int, ns'.Perm ns → ns'.Pairwise (· ≤ ·) → QN (ns'.map .int) S) : kSortI QN [r] S := by unfold kSortI; exact ⟨r, ns, rfl, e, hl, h⟩
end
end VL
end
section
set_option maxHeartbeats 4000000
namespace L2
open PySem PySem.Spec PyProof.Rows PySem.W
structure Flies (P : Program) (w : World) (outer : List Env) (H : Hp) (s : Shared) (x : Addr) (cls a0 : Value) (B : Heap) (H' : Hp) (s' : Shared) : Prop where
  os : s'.os = s.os
  bare : AllBare s'.gens
  fly : Heap.FlyingW B outer x cls a0 s'.heap
  frm : ∀ b ∈ frs outer, ∀ o, s.heap.get? b = some o → ∃ sl, s'.heap.get? b = some { o with slots := sl }
  hok : HOk P w H' B
  cov : ∀ b o, s.heap.get? b = some o → H b = none → b ∉ frs outer → B.get? b = some o
  same : ∀ b, H b ≠ none → H' b = H b
  free : ∀ b o, s.heap.get? b = some o → H b = none → H' b = none
  new : s.heap.get? x = none
def CX1 (P : Program) (w : World) : CXT := fun outer H s E e s' => ∃ x cls a0 B H', e = .ref x ∧ Flies P w outer H s x cls a0 B H' s' ∧ E cls none H'
section
variable {P : Program} {w : World} {outer : List Env} {H H' : Hp} {s s' : Shared} {x : Addr} {cls a0 : Value} {B : Heap}
theorem Flies.hok' (f : Flies P w outer H s x cls a0 B H' s') : HOk P w H' s'.heap := f.hok.kept f.fly.1
theorem Flies.un (f : Flies P w outer H s x cls a0 B H' s') : Un (frs outer) [] H H' s.heap s'.heap where
  keep := fun b o e n nb _ => f.fly.1 b o (f.cov b o e n nb)
  slot := fun b o e _ hb _ => f.frm b hb o e
  free := fun b o e n _ => f.free b o e n
  there := fun b o e _ => by
    cases n : H b with
    | none =>
      by_cases hb : b ∈ frs outer
      · obtain ⟨sl, q⟩ := f.frm b hb o e
        exact ⟨_, q⟩
      · exact ⟨o, f.fly.1 b o (f.cov b o e n hb)⟩
    | some u => exact ObjOk.there (f.hok' b u (by rw [f.same b (by rw [n]; simp)]; exact n))
  tups := fun b xs e => by rw [f.same b (by rw [e]; simp)]; exact e
  frzs := fun b o u e => by rw [f.same b (by rw [e]; simp)]; exact e
  tbls := fun b ps e => ⟨#[], by rw [f.same b (by rw [e]; simp), e]; simp⟩
theorem Flies.noX (f : Flies P w outer H s x cls a0 B H' s') : H' x = none := by
  cases n : H' x with
  | none => rfl
  | some u =>
    obtain ⟨o, e⟩ := ObjOk.there (f.hok x u n)
    rw [f.fly.2.1] at e
    cases e
theorem hok_hide {h : Heap} {as : List Addr} (k : HOk P w H h) (hf : ∀ a ∈ as, H a = none) : HOk P w H (hideAll h as) := fun b u e => by
  have nb : ∀ c v, H c = some v → c ∉ as := fun c v q z => by rw [hf c z] at q; cases q
  refine (k b u e).stay (fun c v hc q => hideAll_get _ q ?_) (fun c q => q) fun c xs q => q
  rcases hc with rfl | hc
  · exact nb c u e
  · exact nb c _ hc
end
structure ThrowsTo (X : Cx) (Hin : Hp) (E : XK) : Prop where
  first : ∀ pins σ H s h1 x cls args, Inv X pins σ H s → Heap.MadeExcOf s.heap h1 x cls args → (∀ b, Hin b ≠ none → H b = Hin b) → E cls none H → ∀ tk, X.xe (.ref x) { s with heap := h1, toks := tk }
  next : ∀ pins σ H s e s', Inv X pins σ H s → CX1 X.prog X.w X.stack H s (fun c _ H' => (∀ b, Hin b ≠ none → H' b = Hin b) ∧ E c none H') e s' → X.xe e s'
section
variable {P : Program} {w : World} {K : PySem.W.Frag} {mg : Str → Option Value} {base : Heap} {N : List Str} {qual : Str} {scope : Scope} {f : Addr} {cd : Value} {A : Around} {outer : List Env} {s : Shared} {H : Hp} {E : XK}
theorem throws_of : ThrowsTo (cxOf (CX1 P w) P w K mg base N qual scope f cd A outer s H E) H E where
  first := fun pins σ Hc sr h1 x cls args I hx fr he tk => by
    have nf : ∀ b ∈ frs outer, ∀ o, s.heap.get? b = some o → ∀ vs, o.data ≠ .fields vs := fun b hb o e => by
      obtain ⟨_, o', e', n⟩ := I.ok.funs.mem hb
      have e' : s.heap.get? b = some o' := e'
      rw [e] at e'; cases e'
      exact n
    refine wpAny_leaves_madeW (base := hideAll sr.heap (frs (envOfC qual scope s.heap.objs.size f cd :: outer))) I.ok.frames rfl (fun b o q => of_hideAll _ q) (funFrames_hide I.stack fun env he a ha => List.mem_filterMap.mpr ⟨env, he, ha⟩) hx fun h' t fl _ _ up => ?_
    refine ⟨x, cls, .ref t, _, Hc, rfl, ⟨I.os, I.bare, fl, fun b hb o e => ?_, hok_hide I.hok I.stkFree, fun b o e n nb => ?_, fr, fun b o e n => ?_, ?_⟩, he⟩
    · obtain ⟨sl, q⟩ := I.base.slot b o e (I.ok.frf b hb) hb (by intro z; cases z)
      obtain ⟨sl', q'⟩ := up b _ (hx.keeps _ _ q) (nf b hb o e)
      exact ⟨sl', q'⟩
    · refine hideAll_get _ (I.base.keep b o e n nb (by intro z; cases z)) fun z => ?_
      rcases List.mem_cons.mp (I.stkSub b z) with e' | z
      · have lt := Heap.lt_size e
        have ab : s.heap.objs.size ≤ b := e' ▸ I.ok.above
        exact absurd lt (Nat.not_lt.mpr ab)
      · exact nb z
    · exact I.base.free b o e n (by intro z; cases z)
    · cases q : s.heap.get? x with
      | none => rfl
      | some o =>
        obtain ⟨o', e'⟩ := I.base.there x o q (by intro z; cases z)
        rw [hx.new] at e'
        cases e'
  next := fun pins σ Hc sr e s' I h => by
    obtain ⟨x, cls, a0, B, H', rfl, F, fr, he⟩ := h
    have nf : ∀ b ∈ frs outer, ∀ o, s.heap.get? b = some o → ∀ vs, o.data ≠ .fields vs := fun b hb o e => by
      obtain ⟨_, o', e', n⟩ := I.ok.funs.mem hb
      have e' : s.heap.get? b = some o' := e'
      rw [e] at e'; cases e'
      exact n
    refine wpAny_leaves_onW I.ok.frames rfl F.fly fun h' fl up => ?_
    have sub : ∀ b ∈ frs outer, b ∈ frs (envOfC qual scope s.heap.objs.size f cd :: outer) := fun b hb => by
      obtain ⟨env, h1, h2⟩ := List.mem_filterMap.mp hb
      exact List.mem_filterMap.mpr ⟨env, List.mem_cons_of_mem _ h1, h2⟩
    refine ⟨x, cls, a0, B, H', rfl, ⟨F.os.trans I.os, F.bare, fl, fun b hb o e => ?_, F.hok, fun b o e n nb => ?_, fr, fun b o e n => ?_, ?_⟩, he⟩
    · obtain ⟨sl, q⟩ := I.base.slot b o e (I.ok.frf b hb) hb (by intro z; cases z)
      obtain ⟨sl1, q1⟩ := F.frm b (sub b hb) _ q
      obtain ⟨sl2, q2⟩ := up b _ q1 (nf b hb o e)
      exact ⟨sl2, q2⟩
    · refine F.cov b o (I.base.keep b o e n nb (by intro z; cases z)) (I.base.free b o e n (by intro z; cases z)) fun z => ?_
      rcases List.mem_cons.mp (I.stkSub b z) with e' | z
      · have lt := Heap.lt_size e
        have ab : s.heap.objs.size ≤ b := e' ▸ I.ok.above
        exact absurd lt (Nat.not_lt.mpr ab)
      · exact nb z
    · obtain ⟨o', e'⟩ := I.base.there b o e (by intro z; cases z)
      exact F.free b o' e' (I.base.free b o e n (by intro z; cases z))
    · cases q : s.heap.get? x with
      | none => rfl
      | some o =>
        obtain ⟨o', e'⟩ := I.base.there x o q (by intro z; cases z)
        rw [F.new] at e'
        cases e'
end
theorem own_at {K : Frag} {h : Heap} {mg : Str → Option Value} {x : Str} {C : Addr} {bmB : List Value} {newId : String} (X : K.In h) (hm : mg x = some (.ref C)) (q : excIn K C bmB newId = true) : OwnCls x C bmB newId mg h := by
  unfold excIn at q
  cases hl : K.lookup C with
  | none => rw [hl] at q; cases q
  | some o =>
    rw [hl] at q
    split at q
    case h_2 => cases q
    case h_1 dd cd sl e =>
    cases e
    split at q
    case h_2 => cases q
    case h_1 C' bm k0 k1 k2 k3 n k5 hm' hs =>
    have hh := X _ _ hl
    simp only [Bool.and_eq_true, beq_iff_eq, Bool.not_eq_true'] at q
    obtain ⟨⟨⟨⟨⟨q1, q2⟩, q3⟩, q4⟩, q5⟩, q6⟩ := q
    cases cd
    cases q1; cases q2
    simp only at hm' q3 q5 q6
    cases hm'; cases q3
    rw [show sl = #[k0, k1, k2, k3, some (.builtin _), k5] from Array.toList_inj.mp hs] at hh
    exact ⟨hm, _, _, _, _, _, _, _, _, _, _, _, _, _, _, _, _, _, hh, .of_isNs (isNs_of_in X q5), nsMap_none_of_in X q5 q6, tail_of_in X q4⟩
section
variable {X : Cx} {Hin : Hp} {E : XK} {C : Addr} {bmB : List Value} {B newId initId : String} {x : Str} {z : Str} {j : Nat} {np p cpos pos : Pos}
def tRaise (Hin : Hp) (E : XK) (C : Addr) : TS := fun _ _ H => (∀ b, Hin b ≠ none → H b = Hin b) ∧ E (.ref C) none H
theorem ps_raise (T : ThrowsTo X Hin E) (FB : ExcBaseFacts B newId initId bmB) (ec : excIn X.K C bmB newId = true) (hm : X.mg x = some (.ref C)) (hc : X.calm = true) (hg : Gl X x := by rfl) (hd : (x == ("__debug__" : Str)) = false := by decide)
    (he : starEach [.Constant (.str z) j p] X.env = [(false, eval (.Constant (.str z) j p) X.env)] := by rfl) :
    PS X (.Raise (some (.Call (.Name x np) [.Constant (.str z) j p] [] cpos)) none pos) (tRaise Hin E C) := by
  intro pins s σ H D I ⟨fr, ec'⟩
  have O : OwnCls x C bmB newId X.mg s.heap := own_at I.kIn hm ec
  obtain ⟨tl, N, nm, q, bs, hdct, sn, sub, ab, col, dd, k0, k1, k2, k3, k5, mN, hC, hN, hni, TL⟩ := O.obj
  refine wpAny_Raise_call_subT (mN := mN) (nm := nm) (q := q) (C := C) (N := N) (bs := bs) (bm := tl) (hdct := hdct) (sn := sn) (sub := sub) (ab := ab) (col := col) (dd := dd) (k0 := k0) (k1 := k1) (k2 := k2) (k3 := k3) (k5 := k5) FB (TL.hasType FB.hasBase) (I.ok.hd hc) (by rw [he]; rfl) hni (ld_glob I hg hm ⟨rfl, ?_⟩ hd)
  rw [he]
  refine Calls.evalArgs_plain ?_
  refine Calls.spliced_cons (Calls.Constant_str (k := j) (pos := p) (Calls.spliced_nil ⟨rfl, ?_, hC, hN, TL, fun h' e mk => ?_⟩))
  · show 1 ≤ sizeLine
    rw [sizeLine_eq]; lia
  · exact T.first pins σ H s h' e (.ref C) _ I mk fr ec' _
end
section
open Builtin Builtin.ObjectAttr Builtin.Getset_descriptor
def clsTold (K : Frag) (C : Addr) : Bool := (findIn K (.ref C) "__getattribute__" == some (some (.builtin "BaseException.__getattribute__"))) && (findIn K (.ref C) "__getattr__" == some none) && (findIn K (.ref C) "__class__" == some (some (.builtin "object.__class__"))) &&
  (specialIn K (.builtin "object.__class__") "__get__" == some (some (.builtin "getset_descriptor.__get__"))) && (takesIn K (.builtin "object.__class__") == some true) && (mroIn K C (.type "object") == some true) && (mroIn K C (.type "BaseException") == some true)
section
variable {prog : Program} {w : World} {A : Around} {E : Value → Shared → Prop} {s : Shared} {K : Frag} {x C : Addr} {o : Obj}
theorem class_told {Q : Option Value → Shared → Prop} (X : K.In s.heap) (ho : s.heap.get? x = some o) (hc : o.cls = .ref C) (ok : clsTold K C = true) (h : Q (some (.ref C)) { s with toks := s.toks + 1 }) : wpAny (model prog w) A (getAttr? (.ref x) "__class__") Q E s := by
  obtain ⟨hp, g, d, tk, os⟩ := s
  simp only [clsTold, Bool.and_eq_true, beq_iff_eq] at ok
  obtain ⟨⟨⟨⟨⟨⟨o1, o2⟩, o3⟩, o4⟩, o5⟩, o6⟩, o7⟩ := ok
  have T0 : Looks (model prog w) hp (typeOf (.ref x)) (.ref C) := hc ▸ (Looks.ld ho).andThen .now
  have T1 := looks_findIn (M := model prog w) X o1
  have T2 := looks_findIn (M := model prog w) X o2
  have T3 : Looks (model prog w) hp (find (.ref x) (.ref C) "__class__") (.bind (.builtin "getset_descriptor.__get__") (.builtin "object.__class__")) :=
    (looks_findIn X o3).andThen ((show Looks (model prog w) hp (getOf (some (.builtin "object.__class__"))) _ from looks_specialIn X o4).andThen
      ((show Looks (model prog w) hp (dataDescriptor? (some (.builtin "object.__class__")) (some (.builtin "getset_descriptor.__get__"))) (some (.builtin "getset_descriptor.__get__", .builtin "object.__class__")) from (looks_takesIn X o5).andThen .now).andThen (Looks.tag .now)))
  have T6 := looks_mroIn (M := model prog w) X o6
  have T7 : Looks (model prog w) hp (isInstance (.ref x) (.type "BaseException")) true := T0.andThen (looks_mroIn X o7)
  have gets : ∀ (A : Around) (tk : Nat), wpAny (model prog w) A (call (.builtin "getset_descriptor.__get__") [.builtin "object.__class__", .ref x, .ref C]) (fun v s' => v = .ref C ∧ s' = ⟨hp, g, d, tk, os⟩) (fun _ _ => False) ⟨hp, g, d, tk, os⟩ := fun A tk => by
    refine wpAny_call (codeAny_call_builtin KF.slot_gs.plain KF.entry_gs (KF.slot_gs.check _ _ _ _ _ _ _ _ KF.type_class (KF.args_gs _ _ _) ?_))
    simp only [Builtin.«getset_descriptor.__get__», descrGet, dga_obj]
    refine wpAny_bind (wpAny_pure ?_)
    simp only [descrGetter, descrCheckInstance, descrNameAndClass, isInstance, KF.owner_class]
    repeat lk
    exact ⟨Code.quiet_builtin _ (by decide +kernel), codeAny_builtin KF.entry_class (by simp only [Builtin.«object.__class__», shownTypeOf]; (repeat lk); exact ⟨rfl, rfl⟩)⟩
  have asks : ∀ (A : Around) (tk : Nat) (nt : Tok), wpAny (model prog w) A (call (.builtin "BaseException.__getattribute__") [.ref x, .str "__class__" nt]) (fun v s' => v = .ref C ∧ s' = ⟨hp, g, d, tk, os⟩) (fun _ _ => False) ⟨hp, g, d, tk, os⟩ := fun A tk nt => by
    have kd : builtinKind "BaseException.__getattribute__" = some .slot := by decide +kernel
    have sp : splitId "BaseException.__getattribute__" = some ("BaseException", "__getattribute__") := by decide +kernel
    refine wpAny_call (codeAny_call_builtin (by decide +kernel) F.entry_bexc_ga ?_)
    simp only [checkBuiltinCall, kd, sp]
    refine wpAny_bind (T7.at ?_)
    have fits : (match Manifest.signature? "BaseException.__getattribute__" with
      | some sig => Bind.checkArgs "BaseException.__getattribute__" sig { pos := [Value.ref x, Value.str "__class__" nt] }
      | _ => pure ()) = pure () := F.args_bexc_ga (.ref x) (.str "__class__" nt)
    simp only [Bool.not_true, Bool.false_eq_true, if_false]
    refine (show _ = _ from fits) ▸ wpAny_pure ?_
    refine wpAny_bind (wpAny_pure (wpAny_bind (wpAny_pure (wpAny_bind (T0.at (wpAny_bind (T3.at ?_)))))))
    exact wpAny_bind (wpAny_mono (gets _ tk) (fun v s' ⟨a, b⟩ => wpAny_pure ⟨a, b⟩) fun _ _ z => z.elim)
  have no : (Value.builtin "BaseException.__getattribute__" == Value.builtin "object.__getattribute__") = false := by decide +kernel
  simp only [getAttr?, getAttrBy?, getAttrBy]
  refine wpAny_bind (wpAny_mkText (wpAny_bind (wpAny_attempt (wpAny_holding (wpAny_bind (T0.at (wpAny_bind (T1.at ?_))))))))
  simp only [no, Bool.and_false, Bool.false_eq_true, if_false, getAttrByItsOwn, hookBefore, onTheHeap, if_true]
  refine wpAny_bind (T2.at (wpAny_bind (wpAny_attempt (wpAny_holding ?_))))
  simp only [callGetattribute, Bool.false_and, Bool.false_eq_true, if_false, boundAndCalled, F.attr_ValueError.ga.bind]
  refine wpAny_bind (wpAny_pure (wpAny_mono (asks A (tk + 1) tk) (fun v s' ⟨a, b⟩ => ?_) fun _ _ z => z.elim))
  subst a b
  exact handed_on rfl (wpAny_pure h)
def ExcAt (x C : Addr) (h : Heap) : Prop := ∃ o, h.get? x = some o ∧ o.cls = .ref C
theorem cls_obj {cd : ClassData} (e : clsIn K C = some cd) : ∃ o, K.lookup C = some o ∧ o.data = .cls cd := by
  unfold clsIn at e
  split at e
  · next c d cd' sl q => cases e; exact ⟨_, q, rfl⟩
  · cases e
theorem kitx_exc (hk : kitCls K (.ref C) (.ref C) = some true) (ok : clsTold K C = true) (hc : (clsIn K C).isSome = true) : KitX K (.ref x) (.ref C) (ExcAt x C) where
  ty := fun M h _ ⟨o, e, c⟩ => c ▸ (Looks.ld e).andThen .now
  it := fun M h X _ => (kit_cls X hk).2.1
  ne := fun h tp dd its n sl X htp => by
    obtain ⟨cd, hcd⟩ := Option.isSome_iff_exists.mp hc
    obtain ⟨o, e, d⟩ := cls_obj hcd
    refine Bool.eq_false_iff.mpr fun q => ?_
    cases beq_iff_eq.mp q
    have z := X _ _ e
    rw [htp] at z
    cases z
    cases d
  ca := fun X ⟨o, e, c⟩ k => class_told X e c ok k
end
end
section
variable {X : Cx} {pins : List (Addr × Obj)} {σ : St} {H H' : Hp} {s s' : Shared} {x : Addr} {cls a0 : Value} {B : Heap}
theorem Flies.on {h' : Heap} {tk : Nat} (I : Inv X pins σ H s) (f : Flies X.prog X.w X.stack H s x cls a0 B H' s') (fl : Heap.FlyingW B X.stack x cls a0 h') (up : s'.heap.UpToSlots h') : Flies X.prog X.w X.stack H s x cls a0 B H' { s' with heap := h', toks := tk } where
  os := f.os
  bare := f.bare
  fly := fl
  frm := fun b hb o e => by
    obtain ⟨sl, q⟩ := f.frm b hb o e
    obtain ⟨_, o', e', n⟩ := I.stack.mem hb
    rw [e] at e'; cases e'
    obtain ⟨sl', q'⟩ := up b _ q n
    exact ⟨sl', q'⟩
  hok := f.hok
  cov := f.cov
  same := f.same
  free := f.free
  new := f.new
theorem Inv.lands (I : Inv X pins σ H s) (f : Flies X.prog X.w X.stack H s x cls a0 B H' s') : Inv X pins σ H' s' :=
  I.call' (ch := []) f.os f.un f.hok' f.bare fun b z => by cases z
abbrev Cx.caught (X : Cx) (x : Addr) : Cx := { X with A := X.A.mark (some (.ref x)), calm := false }
theorem Inv.caught (I : Inv X pins σ H s) (x : Addr) : Inv (X.caught x) pins σ H s :=
  ⟨⟨I.ok.mod, I.ok.kind, I.ok.glob, I.ok.blt, I.ok.above, I.ok.inj, I.ok.has, I.ok.cab, fun z => Bool.noConfusion z, I.ok.frames, I.ok.stk, I.ok.exf, I.ok.bs, I.ok.bsz, I.ok.noex, I.ok.exfs, I.ok.funs, I.ok.frf⟩, I.os, I.bare, I.base, I.loc, I.cell, I.free, I.freeC, I.pin, I.hok, I.len⟩
theorem Inv.uncaught {x : Addr} (J : Inv (X.caught x) pins σ H s) (ok : X.Ok) : Inv X pins σ H s := ⟨ok, J.os, J.bare, J.base, J.loc, J.cell, J.free, J.freeC, J.pin, J.hok, J.len⟩
theorem drop_ok {M : Model} {A : Around} {E : Value → Shared → Prop} {i : Nat} {n : Str} {v : V} {Q : Unit → Shared → Prop} (I : Inv X pins σ H s) (hN : X.N.Nodup) (hi : X.N[i]? = some n) (hk : X.env.scope.names.lookup n = some .local) (hv : σ[i]? = some (some v))
    (h : ∀ s', Inv X pins (σ.set i none) H s' → Q () s') : wpAny M A (unbindName X.env n) Q E s := by
  obtain ⟨m, hn, hl⟩ := id I.loc
  obtain ⟨u, _, q⟩ := hl i n v hi hv (.inl hk)
  have hm : m n = some u := by
    rcases q with ⟨_, e⟩ | ⟨z, _⟩
    · exact e
    · have hk' : X.env.kindOf n = some .local := hk
      rw [hk'] at z
      rcases z with z | z <;> cases z
  have hcls : (X.env.scope.kind == .class || (X.env.scope.kind == .module && X.env.locals != X.env.globals)) = false := by rw [I.ok.kind]; rfl
  have hiσ : i < σ.length := by rw [I.len]; exact (List.getElem?_eq_some_iff.mp hi).1
  refine wpAny_unbindName_local hk hn hm hcls fun h' u' hn' hs => ?_
  have far : ∀ b o, X.s₀.heap.get? b = some o → b ≠ X.env.locals := fun b o e => Nat.ne_of_lt (Nat.lt_of_lt_of_le (Heap.lt_size e) I.ok.above)
  refine h _ ⟨I.ok, I.os, I.bare, ⟨fun b o e n hb hx => (hs.2 b (far b o e)).trans (I.base.keep b o e n hb hx), fun b o e n hb hx => ?_, I.base.free, fun b o e hx => ?_, I.base.tups, I.base.frzs, I.base.tbls⟩, ⟨_, hn', fun j y v' e1 e2 e3 => ?_⟩, fun y c e => ?_, I.free, I.freeC, fun p hp => ?_, fun b ob e => ?_, by simpa using I.len⟩
  · obtain ⟨sl, q⟩ := I.base.slot b o e n hb hx
    exact ⟨sl, (hs.2 b (far b o e)).trans q⟩
  · obtain ⟨o', q⟩ := I.base.there b o e hx
    exact ⟨o', (hs.2 b (far b o e)).trans q⟩
  · have hj : j ≠ i := fun z => by
      rw [z, List.getElem?_set_self hiσ] at e2
      cases e2
    rw [List.getElem?_set_ne (Ne.symm hj)] at e2
    obtain ⟨w', r', q⟩ := hl j y v' e1 e2 e3
    refine ⟨w', r', ?_⟩
    rcases q with ⟨k, e⟩ | ⟨k, c, e, z⟩
    · have : y ≠ n := fun e => hj (nodup_ix hN e1 (e ▸ hi))
      exact .inl ⟨k, by simp [this, e]⟩
    · exact .inr ⟨k, c, e, z.sameBut hs (I.cne y c e)⟩
  · obtain ⟨w', z⟩ := I.cell y c e
    exact ⟨w', z.sameBut hs (I.cne y c e)⟩
  · obtain ⟨e, n, ne, nf, d⟩ := I.pin p hp
    exact ⟨(hs.2 p.1 ne).trans e, n, ne, nf, d⟩
  · refine (I.hok b ob e).stay (fun c w' hc q => (hs.2 c ?_).trans q) (fun _ q => q) fun _ _ q => q
    rintro rfl
    rcases hc with rfl | hc
    · rw [I.free] at e; cases e
    · rw [I.free] at hc; cases hc
end
section
variable {X : Cx} {k i : Nat} {f CB : Addr} {fd : FuncData} {ps : List Str} {sp : Sp} {e0 : Expr} {es : List Expr} {ta : TA} {x cb en : Str} {b0 : Stmt} {suite : List Stmt} {th : TS} {p pos pe np hp tp : Pos}
def unE (D : Ends) (i : Nat) : Ends := { nx := fun σ H => D.nx (σ.set i none) H, rt := D.rt, bk := fun σ H => D.bk (σ.set i none) H, ct := fun σ H => D.ct (σ.set i none) H }
end
def excOk (K : Frag) (C : Addr) : Bool := (kitCls K (.ref C) (.ref C) == some true) && clsTold K C && (clsIn K C).isSome
theorem excOk.kit {K : Frag} {x C : Addr} (h : excOk K C = true) : KitX K (.ref x) (.ref C) (ExcAt x C) := by
  simp only [excOk, Bool.and_eq_true, beq_iff_eq] at h
  exact kitx_exc h.1.1 h.1.2 h.2
def clsV : Value → V
  | .ref C => .ref C
  | .type T => .ty T
  | _ => .non
def isC : Value → Bool
  | .ref _ => true
  | .type _ => true
  | _ => false
theorem clsV_rel {c u : Value} (h : isC c = true) (r : RelV (clsV c) u) : u = c := by
  match c, h, r with
  | .ref _, _, r => exact r
  | .type _, _, r => exact r
theorem clsV_vals : ∀ {cs us : List Value}, cs.all isC = true → Vals (cs.map clsV) us → us = cs
  | [], _, _, .nil => rfl
  | c :: cs, _, h, .cons r t => by
    simp only [List.all_cons, Bool.and_eq_true] at h
    rw [clsV_rel h.1 r, clsV_vals h.2 t]
def rIsiE (K : PySem.W.Frag) : List V → Hp → VK → Prop := fun xs H Q => ∃ y o C c b, xs = [.ref y, c] ∧ H y = some (.frz o (.own y)) ∧ o.cls = .ref C ∧ excOk K C = true ∧
  ((∃ cv, c = clsV cv ∧ isC cv = true ∧ kitOne K (.ref C) cv = some b) ∨ (∃ t cs, c = .ref t ∧ SqT K H t (cs.map clsV) ∧ cs.all isC = true ∧ kitAny K (.ref C) cs = some b)) ∧ Q (.bl b) H
theorem call_isiE {X : Cx} : CallR X (.builtin "isinstance") (rIsiE X.K) := by
  intro pins s σ H xs us Q I r ⟨y, o, C, c, b, e, hy, hc, ok, h, q⟩
  subst e
  obtain ⟨u, w', rfl, rx, rc⟩ := vals2 r
  cases rx
  have at_ : ExcAt y C s.heap := ⟨o, (show ObjOk X.prog X.w H s.heap y (.frz o (.own y)) from I.hok y _ hy).1, hc⟩
  have fin : ∀ tk, EP X pins σ Q (.bool b) { s with toks := tk } := fun tk => ⟨.bl b, H, I.tok tk, rfl, q⟩
  rcases h with ⟨cv, rfl, hi, e⟩ | ⟨t, cs, rfl, hq, hi, e⟩
  · rw [clsV_rel hi rc]
    exact PySem.W.kia_one (excOk.kit ok) I.kIn at_ e (fun z => nomatch z) fin
  · cases rc
    obtain ⟨its, r2, tp, _⟩ := I.tuple hq
    cases clsV_vals hi r2
    obtain ⟨o2, h1, h2, n, h3⟩ := tp
    obtain ⟨oc, od, odt, osl⟩ := o2
    simp only at h2 h3
    subst h2; subst h3
    exact PySem.W.kia_tup (excOk.kit ok) I.kIn at_ h1 e (fun z => nomatch z) fin
def tRefs : List Addr → TA
  | [] => tNil
  | c :: r => tCons (tC (.ref c)) (tRefs r)
theorem tRefs_of {σ : St} {H : Hp} : ∀ {cs : List Addr} {Q : List V → Hp → Prop}, Q (cs.map V.ref) H → tRefs cs σ H Q
  | [], _, h => h
  | _ :: cs, _, h => tRefs_of (cs := cs) h
theorem pa_refs0 {X : Cx} : PA X [] (tRefs []) := pa_nil
theorem pa_refs {X : Cx} {n : Str} {p : Pos} {c : Addr} {es : List Expr} {cs : List Addr} (hm : X.mg n = some (.ref c)) (hr : PA X es (tRefs cs)) (hg : Gl X n := by rfl) (hd : (n == ("__debug__" : Str)) = false := by decide)
    (hs : starEach (.Name n p :: es) X.env = (false, eval (.Name n p) X.env) :: starEach es X.env := by rfl) : PA X (.Name n p :: es) (tRefs (c :: cs)) := pa_cons (pe_glob hg hm rfl hd) hr hs
end L2
namespace VL
open PySem L2 PySem.W
section
variable {K : PySem.W.Frag} {X : Cx} {m : Bool} {i : Nat} {en cn : Str} {p1 p2 p3 p4 pos : Pos} {es : List Expr} {cs : List Addr} {c : Value}
theorem repE {H0 H : Hp} {Z : AP} {σ : St} {S : List Sl} {C : Addr} (k : OK K H0 Z σ H S) (h : S[i]? = some (.val (.exc (.ref C)))) : ∃ y o, σ[i]? = some (some (.ref y)) ∧ H y = some (.frz o (.own y)) ∧ o.cls = .ref C := by
  obtain ⟨o, e, v, rfl, r⟩ := k.ownAt h
  cases r with | exc n hh hc => exact ⟨_, _, e, hh, hc⟩
def vIsiE (K : Frag) (i : Nat) (c : Value) : VT := fun S Q => ∃ C b, S[i]? = some (.val (.exc (.ref C))) ∧ excOk K C = true ∧ kitOne K (.ref C) c = some b ∧ Q (.d (.bl b)) S
theorem ve_isiE (hK : X.K = K) (hc : isC c = true) (hcn : PE X (.Name cn p3) (tC (clsV c))) (hi : X.N[i]? = some en) (hv : Vis X.env.scope en) (hg : Gl X "isinstance") (hm : X.mg "isinstance" = none) (hd : (en == ("__debug__" : Str)) = false := by decide) (hcd : (en == ("__classdict__" : Str)) = false := by decide)
    (he : starEach [.Name en p2, .Name cn p3] X.env = [(false, eval (.Name en p2) X.env), (false, eval (.Name cn p3) X.env)] := by rfl) :
    VE K X m (.Call (.Name "isinstance" p1) [.Name en p2, .Name cn p3] [] pos) (tCB (rIsiE K) (tCons (tVar i) (tCons (tC (clsV c)) tNil))) (vIsiE K i c) :=
  ⟨by subst hK; exact pe_callB call_isiE hg hm bt_isinstance (pa_cons (pe_var hi hv hd hcd) (pa_cons hcn pa_nil)), fun H0 Z σ H S Q C k t hcc => by
    obtain ⟨C0, b, h1, h2, h3, q⟩ := t
    obtain ⟨y, o, e1, e2, e3⟩ := repE k h1
    exact ⟨_, e1, y, o, C0, _, b, rfl, e2, e3, h2, .inl ⟨c, rfl, hc, h3⟩, hcc _ _ (.d (.bl b)) S k .refl (Rep.bl b) q⟩⟩
def vIsiT (K : Frag) (i : Nat) (cs : List Addr) : VT := fun S Q => ∃ C b, S[i]? = some (.val (.exc (.ref C))) ∧ excOk K C = true ∧ kitAny K (.ref C) (cs.map Value.ref) = some b ∧ Q (.d (.bl b)) S
theorem ve_isiT {x1} (hK : X.K = K) (hcs : PA X es (tRefs cs)) (hz : cs.length < 100) (hi : X.N[i]? = some en) (hv : Vis X.env.scope en) (hg : Gl X "isinstance") (hm : X.mg "isinstance" = none) (hd : (en == ("__debug__" : Str)) = false := by decide) (hcd : (en == ("__classdict__" : Str)) = false := by decide)
    (he : starEach [.Name en p2, .Tuple es x1 p3] X.env = [(false, eval (.Name en p2) X.env), (false, eval (.Tuple es x1 p3) X.env)] := by rfl) :
    VE K X m (.Call (.Name "isinstance" p1) [.Name en p2, .Tuple es x1 p3] [] pos) (tCB (rIsiE K) (tCons (tVar i) (tCons (tTup (tRefs cs)) tNil))) (vIsiT K i cs) :=
  ⟨by subst hK; exact pe_callB call_isiE hg hm bt_isinstance (pa_cons (pe_var hi hv hd hcd) (pa_cons (pe_tup hcs) pa_nil)), fun H0 Z σ H S Q C k t hcc => by
    obtain ⟨C0, b, h1, h2, h3, q⟩ := t
    obtain ⟨y, o, e1, e2, e3⟩ := repE k h1
    refine ⟨_, e1, tRefs_of ⟨by rw [List.length_map, sizeLine_eq]; lia, fun p hp => ?_⟩⟩
    have g := upd_grow (o := .tup (cs.map V.ref)) hp
    refine ⟨y, o, C0, _, b, rfl, by rw [g y (by rw [e2]; simp)]; exact e2, e3, h2, .inr ⟨p, cs.map Value.ref, rfl, .inl (.inl ?_), by simp [isC], h3⟩, hcc _ _ (.d (.bl b)) S (k.grow g) (.grow g) (Rep.bl b) q⟩
    rw [upd_same, List.map_map]
    rfl⟩
end
end VL
namespace VL
open PySem L2 PySem.W
def spX (K : PySem.W.Frag) (bad : List D → Addr → Prop) : Sp := fun vs H _ E => ∃ ds C, Reps K Any AnyF H vs ds ∧ bad ds C ∧ ∀ H', (∀ a, H a ≠ none → H' a = H a) → E (.ref C) none H'
def HasX (P : Program) (w : World) (K : PySem.W.Frag) (mg : Str → Option Value) (base : Heap) (k : Nat) (x : Str) (ps : List Str) (bad : List D → Addr → Prop) : Prop :=
  ∃ (f : Addr) (fd : FuncData), FnOk P w K mg base (CX1 P w) k f fd ps (spX K bad) ∧ mg x = some (.ref f) ∧ PySem.W.keepIn K (.ref f) = true ∧ Binds K fd ps []
def Fz (Hin : Hp) (Z : AP) (σ : St) (S : List Sl) (H : Hp) : Prop := ∀ a, Hin a ≠ none → H a = Hin a ∧ NM Z σ S a
theorem Fz.step {Hin H H' : Hp} {Z : AP} {σ σ' : St} {S S' : List Sl} (f : Fz Hin Z σ S H) (st : Step Z σ S H σ' S' H') : Fz Hin Z σ' S' H' := fun a e => by
  obtain ⟨e1, n⟩ := f a e
  obtain ⟨e2, n2⟩ := st.1 a n (by rw [e1]; exact e)
  exact ⟨e2.trans e1, n2⟩
structure VXs (K : PySem.W.Frag) (X : Cx) (Hin : Hp) (E : XK) (sts : List Stmt) (ts : TS) (t : (Addr → Prop) → List Sl → Prop) : Prop where
  ps : PSs X sts ts
  snd : ∀ Wc : Addr → Prop, (∀ C, Wc C → ∀ H', (∀ a, Hin a ≠ none → H' a = Hin a) → E (.ref C) none H') → ∀ H0 Z σ H S D, OK K H0 Z σ H S → Fz Hin Z σ S H → t Wc S → ts D σ H
section
variable {K : PySem.W.Frag} {X : Cx} {Hin : Hp} {E : XK} {sts rest A : List Stmt} {st : Stmt} {ts us : TS} {t u : (Addr → Prop) → List Sl → Prop} {v : VTS} {pos : Pos}
theorem vx_never : VXs K X Hin E sts tNever (fun _ _ => False) := ⟨pss_never, fun _ _ _ _ _ _ _ _ _ _ h => h.elim⟩
theorem vx_raise {C : Addr} {bmB : List Value} {B newId initId : String} {x z : Str} {j : Nat} {np p cpos pos : Pos} (T : ThrowsTo X Hin E) (FB : ExcBaseFacts B newId initId bmB) (ec : excIn X.K C bmB newId = true) (hm : X.mg x = some (.ref C)) (hc : X.calm = true) (hg : Gl X x := by rfl) (hd : (x == ("__debug__" : Str)) = false := by decide)
    (he : starEach [.Constant (.str z) j p] X.env = [(false, eval (.Constant (.str z) j p) X.env)] := by rfl) :
    VXs K X Hin E [.Raise (some (.Call (.Name x np) [.Constant (.str z) j p] [] cpos)) none pos] (tRaise Hin E C) (fun Wc _ => Wc C) :=
  ⟨pss_one (ps_raise T FB ec hm hc hg hd he), fun Wc hE H0 Z σ H S D k f h => ⟨fun b e => (f b e).1, hE C h H fun b e => (f b e).1⟩⟩
theorem vx_if {c : Expr} {tc : TT} {wc : VTT} (hc : VTe K X c tc wc) (ha : VXs K X Hin E A ts t) (hr : VXs K X Hin E rest us u) : VXs K X Hin E (.If c A [] pos :: rest) (tSeq (tIfS tc ts tNext) us) (fun Wc S => wc S fun b S1 => if b = true then t Wc S1 else u Wc S1) :=
  ⟨pss_cons (ps_if hc.pe ha.ps pss_nil) hr.ps, fun Wc hE H0 Z σ H S D k f h => hc.snd H0 Z σ H S _ _ k h fun b H1 S1 k1 st1 q => by
    cases b with
    | true => rw [if_pos rfl] at q ⊢; exact ha.snd Wc hE H0 Z σ H1 S1 _ k1 (f.step st1) q
    | false => rw [if_neg Bool.false_ne_true] at q ⊢; exact hr.snd Wc hE H0 Z σ H1 S1 D k1 (f.step st1) q⟩
theorem vx_call {k j : Nat} {x : Str} {ps : List Str} {bad : List D → Addr → Prop} {e : Expr} {es : List Expr} {tr : TA} {vr : VTA} {p0 cpos : Pos} (T : ThrowsTo X Hin E) (F : HasX X.prog X.w X.K X.mg X.base k x ps bad) (hK : X.K = K) (hr : Room j X.A) (ha : VA K X false (e :: es) tr vr)
    (hk : k ≤ j := by decide) (hg : Gl X x := by rfl) (hdb : (x == ("__debug__" : Str)) = false := by decide) (he : starEach (e :: es) X.env = (false, eval e X.env) :: starEach es X.env := by rfl)
    (hpl : (backTo cpos (starEach es X.env)).any (·.1) = false := by rfl) (hs : swapsWith (.Call (.Name x p0) (e :: es) [] cpos) none pos.line X.env = pure false := by rfl) :
    VXs K X Hin E (.Expr (.Call (.Name x p0) (e :: es) [] cpos) pos :: rest) (tSeq (tDrop (tCall (spX K bad) [] (fun c _ H' => (∀ b, Hin b ≠ none → H' b = Hin b) ∧ E c none H') tr)) tNever) (fun Wc S => vr S fun rs S1 => ∃ ds C, gets S1 rs = some ds ∧ bad ds C ∧ Wc C) := by
  subst hK
  obtain ⟨f, fd, F, hm, kp, hb⟩ := F
  refine ⟨pss_cons (ps_expr (pe_call F (hr.mono hk) hg hm kp hb .nil (fun pins σ H s e s' I h => T.next pins σ H s e s' I h) ha.pe hdb he hpl) hs) pss_never, fun Wc hE H0 Z σ H S D k f h => ?_⟩
  refine ha.snd H0 Z σ H S _ _ k h fun vs H1 rs S1 k1 st1 rrs ⟨ds, C, e, hb, hw⟩ => ?_
  have f1 := f.step st1
  refine ⟨ds, C, by rw [List.append_nil]; exact rrs.gets k1 e, hb, fun H' g => ?_⟩
  have fr : ∀ b, Hin b ≠ none → H' b = Hin b := fun b e => by
    have q := (f1 b e).1
    rw [← q]
    exact g b (by rw [q]; exact e)
  exact ⟨fr, hE C hw H' fr⟩
theorem has_X {P : Program} {w : World} {mg : Str → Option Value} {base : Heap} {x : Str} {st : Stmt} {N ps : List Str} {k : Nat} {bad : List D → Addr → Prop} (S : Src K mg x st) (sc : FnScope N ps (defScope st))
    (hb : ∀ (kV doc pm : Value) (an : Option Addr) (cdv ct : Value) (us : List Value), us.length = ps.length → bindArgs (PySem.W.fnOf x x (defArgs st) (defBody st) (defScope st) .none kV doc pm an cdv ct) ⟨us, []⟩ = pure (ps.zip us))
    (len : ∀ ds C, bad ds C → ds.length = ps.length)
    (hbody : ∀ (f : Addr) (cdv : Value) (A : Around) (outer : List Env) (s : Shared) (H : Hp) (E : XK), Room k (A.deeper (PyProof.Rows.envOfC x (defScope st) s.heap.objs.size f cdv)) → ThrowsTo (cxOf (CX1 P w) P w K mg base N x (defScope st) f cdv A outer s H E) H E →
      ∃ ts t, VXs K (cxOf (CX1 P w) P w K mg base N x (defScope st) f cdv A outer s H E) H E (defBody st) ts t ∧ ∀ ds C, bad ds C → t (· = C) (slots N.length ds)) : HasX P w K mg base (k + 1) x ps bad := by
  obtain ⟨f, fd, F, hm⟩ := S
  obtain ⟨oc, od, kV, doc, pm, an, cdv, ct, osl, rfl, lk, hcd⟩ := F.ex
  refine ⟨f, _, fn_of lk hcd sc (fun vs H Q E zq1 => by obtain ⟨ds, C, r, h, _⟩ := zq1; rw [r.length]; exact len ds C h) fun A outer s H vs Q E hr ⟨ds, C, r, h, fin⟩ => ?_, hm, F.kp, F.binds hb⟩
  obtain ⟨ts, t, vx, q⟩ := hbody f cdv A outer s H E hr throws_of
  refine ⟨ts, vx.ps, vx.snd (· = C) (fun C' e H' g => by subst e; exact fin H' g) H _ _ H _ _ (ok_start (N := N) r) (fun a e => ⟨rfl, ?_⟩) (q ds C h)⟩
  rintro (⟨j, s, g1, g2, _⟩ | z)
  · rw [slots_nomut g1] at g2; cases g2
  · exact z
end
end VL
namespace VL
open PySem L2 PySem.W
section
variable {K : PySem.W.Frag} {H H0 : Hp} {Z : AP} {σ : St} {S : List Sl} {i : Nat}
theorem OK.letGo (k : OK K H0 Z σ H S) (hi : i < S.length) : OK K H0 Z (σ.set i none) H (S.set i .no) ∧ Step Z σ S H (σ.set i none) (S.set i .no) H := by
  have n : ∀ a, NM Z σ S a → NM Z (σ.set i none) (S.set i .no) a := fun a x z => by
    rcases mo_put z with z | ⟨z, _⟩
    · exact x z
    · cases z
  exact ⟨k.put hi (fun a x _ => ⟨n a x, rfl⟩) (fun _ _ _ _ _ _ _ => rfl) trivial (fun _ _ _ _ _ _ z => nomatch z) (fun _ e => e) k.zl (fun _ z => nomatch z), fun a x _ => ⟨rfl, n a x⟩, fun _ e => e, fun _ _ _ => rfl⟩
theorem NP.letGo {a : Addr} (h : NP σ S a) : NP (σ.set i none) (S.set i .no) a := fun j ad ns g1 g2 => by
  by_cases hj : i = j
  · subst hj
    by_cases hl : i < S.length
    · rw [List.getElem?_set_self hl] at g1; cases g1
    · rw [List.getElem?_eq_none (by simpa using hl)] at g1; cases g1
  · rw [List.getElem?_set_ne hj] at g1 g2
    exact h j ad ns g1 g2
def unV (V : VEnds) (i : Nat) : VEnds := { nx := fun S => i < S.length ∧ V.nx (S.set i .no), rt := fun d S => i < S.length ∧ V.rt d (S.set i .no), bk := fun S => i < S.length ∧ V.bk (S.set i .no), ct := fun S => i < S.length ∧ V.ct (S.set i .no) }
theorem Lf.letGo {V : VEnds} {E : Ends} (l : Lf K H0 Z σ S H V E) : Lf K H0 Z σ S H (unV V i) (unE E i) where
  nx := fun σ' H' S' k st ⟨hi, q⟩ => l.nx _ _ _ (k.letGo hi).1 (st.trans (k.letGo hi).2) q
  bk := fun σ' H' S' k st ⟨hi, q⟩ => l.bk _ _ _ (k.letGo hi).1 (st.trans (k.letGo hi).2) q
  ct := fun σ' H' S' k st ⟨hi, q⟩ => l.ct _ _ _ (k.letGo hi).1 (st.trans (k.letGo hi).2) q
  rt := fun v d σ' H' S' k st r ⟨hi, q⟩ => l.rt v d _ _ _ (k.letGo hi).1 (st.trans (k.letGo hi).2) (r.mono (fun a n _ => ⟨NP.letGo n, rfl⟩) fun _ x => x) q
end
section
variable {K : PySem.W.Frag} {X : Cx} {k j i : Nat} {CB : Addr} {ps : List Str} {bad : List D → Addr → Prop} {e0 : Expr} {es : List Expr} {tr : TA} {vr : VTA} {x cb en : Str} {b0 : Stmt} {suite : List Stmt} {th : TS} {vh : VTS} {p pos pe np hp tp : Pos}
end
end VL
end
section
set_option maxHeartbeats 4000000
namespace L2
open PySem PySem.Spec PyProof.Rows PySem.W
section
variable {X : Cx} {pos p1 p2 : Pos} {j1 j2 : Nat}
end
end L2
namespace VL
open PySem L2 PySem.W
section
variable {K : PySem.W.Frag} {X : Cx} {m : Bool} {e c : Expr} {te : TE} {va : VT} {pos : Pos} {i : Nat} {tc : TT} {wc : VTT} {t : TS} {v : VTS} {body : List Stmt}
end
end VL
namespace L2
open PySem PySem.Spec PyProof.Rows PySem.W
end L2
namespace VL
open PySem L2 PySem.W
section
variable {K : PySem.W.Frag} {X : Cx} {m : Bool} {e : Expr} {tr : TA} {vr : VTA} {pos p1 p2 pos2 : Pos}
end
end VL
namespace VL
open PySem L2 PySem.W
section
variable {i : Nat} {va : VT} {vr : VTA} {S : List Sl} {Q : VR → List Sl → Prop} {q : D → Prop}
theorem j_isiE {K : Frag} {c : Value} {C : Addr} {b : Bool} (e : S[i]? = some (.val (.exc (.ref C)))) (ok : excOk K C = true) (hk : kitOne K (.ref C) c = some b) (h : Q (.d (.bl b)) S) : vIsiE K i c S Q := ⟨C, b, e, ok, hk, h⟩
theorem j_isiT {K : Frag} {cs : List Addr} {C : Addr} {b : Bool} (e : S[i]? = some (.val (.exc (.ref C)))) (ok : excOk K C = true) (hk : kitAny K (.ref C) (cs.map Value.ref) = some b) (h : Q (.d (.bl b)) S) : vIsiT K i cs S Q := ⟨C, b, e, ok, hk, h⟩
end
end VL
namespace VL
open PySem L2 PySem.W
section
variable {K : PySem.W.Frag} {X : Cx} {m : Bool} {e : Expr} {te : TE} {va : VT} {pos pos' : Pos} {i : Nat} {x : Str}
end
end VL
namespace L2
open PySem PySem.Spec PyProof.Rows PySem.W
def rIsB : R2 := fun x y H Q => ∃ b, y = .bl b ∧ Q (.bl (decide (x = .bl b))) H
theorem op_isB {X : Cx} : OpR X (compareOp .Is) rIsB := by
  intro pins s σ H x y v u Q I rx ry ⟨b, e, q⟩
  subst e
  cases ry
  have go : ∀ c : Bool, c = decide (x = .bl b) → EP X pins σ Q (.bool c) s := fun c e => fin_bl I q (by rw [e])
  cases x with
  | bl i =>
    cases rx
    refine wpAny_bind (m := isSame (.bool i) (.bool b)) (wpAny_pure (wpAny_pure (go _ ?_)))
    cases i <;> cases b <;> rfl
  | int n => obtain ⟨t, rfl⟩ := rx; exact wpAny_bind (m := isSame (.int n t) (.bool b)) (wpAny_pure (wpAny_pure (go _ rfl)))
  | str n => obtain ⟨t, rfl⟩ := rx; exact wpAny_bind (m := isSame (.str n t) (.bool b)) (wpAny_pure (wpAny_pure (go _ rfl)))
  | byt n => obtain ⟨t, rfl⟩ := rx; exact wpAny_bind (m := isSame (.bytes n t) (.bool b)) (wpAny_pure (wpAny_pure (go _ rfl)))
  | flt n => obtain ⟨t, rfl⟩ := rx; exact wpAny_bind (m := isSame (.float n t) (.bool b)) (wpAny_pure (wpAny_pure (go _ rfl)))
  | non => cases rx; exact wpAny_bind (m := isSame .none (.bool b)) (wpAny_pure (wpAny_pure (go _ rfl)))
  | ref a => cases rx; exact wpAny_bind (m := isSame (.ref a) (.bool b)) (wpAny_pure (wpAny_pure (go _ rfl)))
  | ty n => cases rx; exact wpAny_bind (m := isSame (.type n) (.bool b)) (wpAny_pure (wpAny_pure (go _ rfl)))
end L2
namespace VL
open PySem L2 PySem.W
def isB (b : Bool) : D → Bool
  | .bl c => b == c
  | _ => false
def wIsB : D → D → (D → Prop) → Prop := fun d1 d2 q => ∃ b, d2 = .bl b ∧ q (.bl (isB b d1))
theorem l_isB {K : PySem.W.Frag} : Lift2 K rIsB wIsB := by
  rintro x y H d1 d2 q C r1 r2 ⟨b, rfl, h⟩ hc
  cases r2
  refine ⟨b, rfl, ?_⟩
  have e : decide (x = .bl b) = isB b d1 := by
    cases r1 <;> first | rfl | (rename_i c; cases b <;> cases c <;> rfl)
  rw [e]
  exact hc _ _ h fun _ _ => .bl _
theorem j_isB {b : Bool} {d : D} {q : D → Prop} (h : q (.bl (isB b d))) : wIsB d (.bl b) q := ⟨b, rfl, h⟩
end VL
namespace VL
open PySem L2 PySem.W
section
variable {K : PySem.W.Frag} {X : Cx} {a b : Expr} {ta tb : TE} {pos : Pos}
end
end VL
end
section
set_option maxHeartbeats 4000000
namespace L2
open PySem PySem.Spec PyProof.Rows PySem.W
section
variable {X : Cx}
end
section
variable {X : Cx}
end
end L2
namespace VL
open PySem L2 PySem.W
section
variable {X : Cx} {K : PySem.W.Frag} {m : Bool} {e : Expr} {te : TE} {va : VT} {pos : Pos}
def vExt (i : Nat) (vn : VTN) : VT := fun S Q => (∃ ds, S[i]? = some (.own ds)) ∧ vn S fun ds2 S1 => ∃ ds, S1[i]? = some (.own ds) ∧ ds.length + ds2.length ≤ 1000000 ∧ Q (.d .non) (S1.set i (.own (ds ++ ds2)))
theorem ve_ext {apos : Pos} {o : Expr} {vn : VTN} (i : Nat) (hK : X.K = K) (ho : PE X o (tVar i)) (h : VN K X e te vn) (hbase : attributeBase o "extend" X.env (eval o X.env) = eval o X.env := by rfl)
    (hfew : ((backTo pos (starEach (e :: []) X.env)).all (fun x => !x.1) && (backToKw pos (keywordEach [] X.env)).all (fun x => x.1.isSome)
      && decide ((e :: []).length + ([] : List Keyword).length + (if ([] : List Keyword).isEmpty then 0 else 1) < 30)) = true := by rfl)
    (hline : (apos.endLine == pos.line) = true := by rfl) (hs : starEach (e :: []) X.env = (false, eval e X.env) :: starEach [] X.env := by rfl) (hplain : (backTo pos (starEach [] X.env)).any (·.1) = false := by rfl) :
    VE K X m (.Call (.Attribute o "extend" apos) [e] [] pos) (tBM K "list" rExtend (tVar i) (tCons te tNil)) (vExt i vn) :=
  ⟨by subst hK; exact pe_bm PySem.F.plainAttrs_list PySem.F.slot_list_extend PySem.F.type_list_extend mt_extend ho (pa_cons h.pe pa_nil hs) hbase hfew hline hs hplain, fun H0 Z σ H S Q C k zq1 hc => by
    obtain ⟨⟨ds0, e0⟩, t⟩ := zq1
    obtain ⟨o, h1, a, vs, rfl, h2, h3, h4⟩ := k.ownAt e0
    refine ⟨.ref a, h1, .inl ⟨rfl, vs, .inl (.inl h2)⟩, ?_⟩
    refine h.snd H0 Z σ H S _ _ k t fun b us ds2 H1 H' S1 k1 st1 hb hg hl rr ⟨ds, e1, hlen, q⟩ => ?_
    have k' := k1.grow hg
    obtain ⟨o', g1, a', vs', rfl, g2, g3, g4⟩ := k'.ownAt e1
    rw [h1] at g1; cases g1
    have l1 := g4.length
    have l2 := rr.length
    refine ⟨a, b, vs', us, rfl, rfl, g2, hl, by rw [sizeLine_eq]; lia, ?_⟩
    have na : NM Z σ S1 a → False := fun n => n (.inl ⟨i, _, e1, rfl, h1⟩)
    have hm : ∀ c, NM Z σ S1 c → H' c ≠ none → NM Z σ S1 c ∧ upd H' a (.lst (vs' ++ us)) c = H' c := fun c n _ => ⟨n, upd_ne fun z => na (by rw [← z]; exact n)⟩
    obtain ⟨k2, st2⟩ := k'.chg (s := .own (ds ++ ds2)) (o := .lst (vs' ++ us)) e1 rfl h1 ⟨_, rfl⟩ rfl ⟨a, _, rfl, upd_same, g3, Reps.append (g4.mono hm fun _ x => x) (rr.mono (fun c n z => hm c n.1 z) fun _ x => x)⟩
    exact hc .non _ (.d .non) _ k2 ((st1.trans (.grow hg)).trans st2) Rep.non q⟩
end
section
variable {K : PySem.W.Frag} {X : Cx} {kx vx iter : Expr} {pos : Pos}
end
end VL
end
section
set_option maxHeartbeats 4000000
namespace L2
open PySem PySem.Spec PyProof.Rows PySem.W
section
variable {elt t1 i1 t2 i2 : Expr} {f1 f2 : List Expr} {scope : Scope} {pos : Pos}
end
section
variable {X : Cx}
end
end L2
namespace VL
open PySem L2 PySem.W
section
variable {K : PySem.W.Frag} {H H4 H0 : Hp} {Z : AP} {σ σ4 σ5 : St} {S S4 : List Sl}
end
section
variable {K : PySem.W.Frag} {X : Cx} {elt t1 i1 t2 i2 : Expr} {f1 f2 : List Expr} {scope : Scope} {pos : Pos}
end
end VL
end
section
set_option maxHeartbeats 4000000
namespace VL
open PySem L2 PySem.W
section
variable {va vb : VT} {vn : VTN} {S : List Sl} {Q : VR → List Sl → Prop} {i : Nat}
def kExt (i : Nat) (Q : VR → List Sl → Prop) : List D → List Sl → Prop := fun ds2 S1 => ∃ ds, S1[i]? = some (.own ds) ∧ ds.length + ds2.length ≤ 1000000 ∧ Q (.d .non) (S1.set i (.own (ds ++ ds2)))
theorem j_ext {ds : List D} (e : S[i]? = some (.own ds)) (h : vn S (kExt i Q)) : vExt i vn S Q := ⟨⟨ds, e⟩, h⟩
theorem j_kExt {ds ds2 : List D} (e : S[i]? = some (.own ds)) (e2 : ds.length + ds2.length ≤ 1000000) (h : Q (.d .non) (S.set i (.own (ds ++ ds2)))) : kExt i Q ds2 S := ⟨ds, e, e2, h⟩
end
section
variable {α β : Type} {n : Nat} {ix : List Nat} {g g2 : VG} {vt vt2 : VTT} {vi vi2 : VTN} {ve vk vv : VT} {S : List Sl}
end
end VL
end
section
set_option maxHeartbeats 4000000
namespace L2
open PySem PySem.Spec PyProof.Rows PySem.W
section
variable {X : Cx}
def rCatR (K : PySem.W.Frag) : R2 := fun x y H Q => ∃ l b xs zs, x = .ref l ∧ y = .ref b ∧ SqL K H l xs ∧ H b = some (.lst zs) ∧ xs.length + zs.length ≤ sizeLine ∧ ∀ p, H p = none → Q (.ref p) (upd H p (.lst (xs ++ zs)))
theorem op_catR : OpR X (binaryOp .Add) (rCatR X.K) := by
  intro pins s σ H x y v u Q I rx ry ⟨l, b, xs, zs, e1, e2, hR, hB, hz, q⟩
  subst e1; subst e2
  cases rx; cases ry
  obtain ⟨its, r, ⟨⟨cls, dd, data, sl⟩, n, e, hc, hd, hs⟩, z⟩ := I.list hR
  obtain ⟨z2, its2, n2, r2, hl2, e2⟩ := I.lstM hB
  have hl := r.length
  cases (show cls = .type "list" from hc)
  cases (show data = .seq its.toArray n from hs)
  refine concat_meets (T := "list") ⟨_, e, rfl⟩ ⟨_, e2, rfl⟩ noFill_list_add seq_list_add F.slot_list_add F.entry_list_add (F.args_list_add_2 _ _) (list_addW l b _ _ n n2 dd _ sl _ (by simp only [List.size_toArray]; lia)) ⟨e, e2, ?_⟩
  rw [List.append_toArray]
  exact ⟨.ref _, _, I.lnew (t' := s.toks) (r.append r2) (by rw [List.length_append]; lia), rfl, q _ I.fresh⟩
end
end L2
namespace VL
open PySem L2 PySem.W
section
variable {K : PySem.W.Frag} {X : Cx} {a b : Expr} {ta tb : TE} {pos : Pos}
def vCatV (va : VT) (u : VTN) : VTN := fun S Q => va S fun r S1 => u S1 fun es S2 => ∃ ds, get S2 r = some (.lst ds) ∧ flats ds = true ∧ ds.length + es.length ≤ 1000000 ∧ Q (ds ++ es) S2
theorem vn_catV {va : VT} {u : VTN} (hK : X.K = K) (h1 : VE K X false a ta va) (h2 : VN K X b tb u) : VN K X (.BinOp a .Add b pos) (tOp (rCatR K) ta tb) (vCatV va u) := ⟨by subst hK; exact pe_op op_catR h1.pe h2.pe, fun H0 Z σ H S Q C k t hc =>
  h1.snd H0 Z σ H S _ _ k t fun x H1 r S1 k1 st1 r1 t1 => h2.snd H0 Z σ H1 S1 _ _ k1 t1 fun a' vs es H2 H' S2 k2 st2 ha hg hl rr zq1 => by
    obtain ⟨ds, e, f, hlen, q⟩ := zq1
    obtain ⟨c, us, rfl, hR, r2⟩ := ((r1.step st2).step (.grow hg)).elems (k2.grow hg) e
    refine ⟨c, a', us, vs, rfl, rfl, hR, hl, by rw [r2.length, rr.length, sizeLine_eq]; lia, fun p hp => ?_⟩
    refine hc p _ _ H' _ S2 (k2.grow hg) (st1.trans (st2.trans (.grow hg))) hp (upd_grow hp) upd_same (Reps.append ?_ ?_) q
    · exact flats_new hp r2 f
    · exact reps_new hp (rr.mono (fun _ n _ => ⟨n.1, rfl⟩) fun _ x _ => x)⟩
def kCV1 (u : VTN) (Q : List D → List Sl → Prop) : VR → List Sl → Prop := fun r S1 => u S1 fun es S2 => ∃ ds, get S2 r = some (.lst ds) ∧ flats ds = true ∧ ds.length + es.length ≤ 1000000 ∧ Q (ds ++ es) S2
def kCV2 (r : VR) (Q : List D → List Sl → Prop) : List D → List Sl → Prop := fun es S2 => ∃ ds, get S2 r = some (.lst ds) ∧ flats ds = true ∧ ds.length + es.length ≤ 1000000 ∧ Q (ds ++ es) S2
theorem j_catV {va : VT} {u : VTN} {S : List Sl} {Q : List D → List Sl → Prop} (h : va S (kCV1 u Q)) : vCatV va u S Q := h
theorem j_kCV1 {u : VTN} {S : List Sl} {r : VR} {Q : List D → List Sl → Prop} (h : u S (kCV2 r Q)) : kCV1 u Q r S := h
theorem j_kCV2 {S : List Sl} {r : VR} {ds es : List D} {Q : List D → List Sl → Prop} (e : get S r = some (.lst ds)) (f : flats ds = true) (hl : ds.length + es.length ≤ 1000000) (h : Q (ds ++ es) S) : kCV2 r Q es S := ⟨ds, e, f, hl, h⟩
end
end VL
end
section
set_option maxHeartbeats 4000000
namespace Tim
open PySem PyProof.Rows
section
variable {prog : Program} {w : World} {A : Around} {E : Value → Shared → Prop} {s : Shared} {κ : SortKind} {O : KeyOrd} {key : Keyed → O.α} {P : Keyed → Prop}
end
end Tim
end
section
set_option maxHeartbeats 4000000
namespace Tim
open PySem PyProof.Rows
section
variable {α : Type} {le : α → α → Prop}
end
end Tim
end
section
set_option maxHeartbeats 4000000
namespace Tim
open PySem PyProof.Rows
section
variable {prog : Program} {w : World} {A : Around} {E : Value → Shared → Prop} {s : Shared} {κ : SortKind} {O : KeyOrd} {key : Keyed → O.α} {P : Keyed → Prop}
end
end Tim
end
section
set_option maxHeartbeats 4000000
namespace Tim
open PySem PyProof.Rows
section
variable {prog : Program} {w : World} {A : Around} {E : Value → Shared → Prop} {s : Shared} {κ : SortKind} {O : KeyOrd} {key : Keyed → O.α} {P : Keyed → Prop}
end
end Tim
end
section
set_option maxHeartbeats 4000000
namespace Tim
open PySem PyProof.Rows
section
variable {prog : Program} {w : World} {A : Around} {E : Value → Shared → Prop} {s : Shared} {κ : SortKind} {O : KeyOrd} {key : Keyed → O.α} {P : Keyed → Prop}
end
end Tim
end
section
set_option maxHeartbeats 4000000
namespace Tim
open PySem PyProof.Rows
section
variable {prog : Program} {w : World} {A : Around} {E : Value → Shared → Prop} {s : Shared} {κ : SortKind} {O : KeyOrd} {key : Keyed → O.α} {P : Keyed → Prop}
end
end Tim
end
section
set_option maxHeartbeats 4000000
namespace Tim
open PySem PyProof.Rows
section
variable {prog : Program} {w : World} {A : Around} {E : Value → Shared → Prop} {s : Shared} {κ : SortKind} {O : KeyOrd} {key : Keyed → O.α} {P : Keyed → Prop}
end
end Tim
end
section
set_option maxHeartbeats 4000000
namespace Tim
open PySem PyProof.Rows L2
section
variable {prog : Program} {w : World} {A : Around} {E : Value → Shared → Prop} {s : Shared} {κ : SortKind} {O : KeyOrd} {key : Keyed → O.α} {P : Keyed → Prop}
end
end Tim
namespace L2
open PySem PySem.Spec PyProof.Rows
end L2
end
section
set_option maxHeartbeats 4000000
namespace L2
open PySem PySem.Spec PyProof.Rows
section
variable {prog : Program} {w : World} {A : Around} {E : Value → Shared → Prop} {s : Shared}
end
end L2
end
section
set_option maxHeartbeats 4000000
namespace L2
open PySem PySem.Spec PyProof.Rows
section
variable {prog : Program} {w : World} {A : Around} {E : Value → Shared → Prop} {s : Shared}
end
section
variable {X : Cx}
end
end L2
namespace VL
open PySem L2
section
variable {K : PySem.W.Frag} {X : Cx} {e o : Expr} {te : TE} {va : VT} {pos apos tp : Pos}
end
end VL
end
section
set_option maxHeartbeats 4000000
namespace L2
open PySem PySem.Spec PyProof.Rows
section
variable {prog : Program} {w : World} {κ : Type} [DecidableEq κ] {knd : HeapKind prog w κ} {A : Around} {E : Value → Shared → Prop} {s : Shared}
end
section
variable {X : Cx}
end
end L2
end
section
set_option maxHeartbeats 4000000
namespace L2
open PySem PySem.Spec PyProof.Rows
section
variable {X : Cx} {k1 k2 k3 e1 e2 e3 ie : Expr} {t1 t2 t3 ti : TE} {n1 n2 n3 : Int} {j1 j2 j3 : Nat} {p1 p2 p3 dpos pos : Pos}
end
end L2
namespace VL
open PySem L2
section
variable {K : PySem.W.Frag} {X : Cx} {m : Bool} {e o ie e1 e2 e3 : Expr} {te ti t1 t2 t3 : TE} {va vi v1 v2 v3 : VT} {pos dpos p1 p2 p3 : Pos} {n1 n2 n3 : Int} {j1 j2 j3 : Nat} {S : List Sl} {Q : VR → List Sl → Prop}
end
end VL
end
section
set_option maxHeartbeats 4000000
namespace VL
open PySem L2
section
variable {K : PySem.W.Frag} {X : Cx} {m : Bool} {e : Expr} {es : List Expr} {tr : TA} {vr : VTA} {x : Str} {p0 p pos : Pos} {j k : Nat} {ps : List Str} {S : List Sl} {QN : List D → List Sl → Prop}
variable {va : VT}
end
end VL
end
section
set_option maxHeartbeats 4000000
namespace L2
open PySem PySem.Spec PyProof.Rows
section
variable {prog : Program} {w : World} {A : Around} {E : Value → Shared → Prop} {s : Shared}
end
section
variable {X : Cx}
end
end L2
namespace VL
open PySem L2
section
variable {K : PySem.W.Frag} {X : Cx} {e o tg : Expr} {te : TE} {va : VT} {S : List Sl} {QN : List D → List Sl → Prop}
end
end VL
end
section
set_option maxHeartbeats 4000000
namespace VL
open PySem L2
section
variable {K : PySem.W.Frag} {X : Cx} {stm : Stmt} {ts : TS} {t : VTS}
end
end VL
end
section
set_option maxHeartbeats 4000000
namespace L2
open PySem PySem.Spec PyProof.Rows
section
variable {X : Cx}
end
end L2
namespace VL
open PySem L2
section
variable {K : PySem.W.Frag} {X : Cx} {o ie : Expr} {ti : TE} {vi : VT} {pos posS pc : Pos} {n : Int} {j : Nat}
end
end VL
end
section
set_option maxHeartbeats 4000000
namespace L2
open PySem PySem.Spec PyProof.Rows PySem.W
section
variable {kx vx t1 i1 t2 i2 : Expr} {f1 f2 : List Expr} {scope : Scope} {pos : Pos}
end
section
variable {X : Cx}
end
end L2
end
section
set_option maxHeartbeats 4000000
namespace VL
open PySem L2 PySem.W
section
variable {K : PySem.W.Frag} {X : Cx} {kx vx t1 i1 t2 i2 : Expr} {f1 f2 : List Expr} {scope : Scope} {pos : Pos}
end
section
variable {α β : Type} {n : Nat} {ix : List Nat} {g g2 : VG} {vt vt2 : VTT} {vi vi2 : VTN} {vk vv : VT} {S : List Sl}
end
end VL
end
section
set_option maxHeartbeats 4000000
namespace L2
open PySem PySem.Spec PyProof.Rows PySem.W
section
variable {X : Cx}
end
end L2
namespace VL
open PySem L2 PySem.W
section
variable {K : PySem.W.Frag} {X : Cx} {kx vx t1 i1 t2 i2 : Expr} {f1 f2 : List Expr} {scope : Scope} {pos : Pos}
end
end VL
end
section
set_option maxHeartbeats 4000000
namespace L2
open PySem PySem.Spec PyProof.Rows PySem.W
section
variable {X : Cx}
end
end L2
namespace VL
open PySem L2
section
variable {K : PySem.W.Frag} {X : Cx} {e : Expr} {tr : TA} {vr : VTA} {S : List Sl} {QN : List D → List Sl → Prop} {p pos : Pos}
end
end VL
end
section
set_option maxHeartbeats 4000000
namespace L2
open PySem PySem.Spec PyProof.Rows
section
variable {prog : Program} {w : World} {A : Around} {E : Value → Shared → Prop} {s : Shared}
end
section
variable {X : Cx}
end
end L2
end
section
set_option maxHeartbeats 4000000
namespace VL
open PySem L2
section
variable {K : PySem.W.Frag} {X : Cx} {c o tg : Expr} {a : List Stmt} {tc : TT} {vt : VTT} {ta : TS} {i j : Nat} {pos apos cpos ipos : Pos} {S : List Sl}
end
end VL
end
section
set_option maxHeartbeats 4000000
namespace L2
open PySem PySem.Spec PyProof.Rows
section
variable {prog : Program} {w : World} {A : Around} {E : Value → Shared → Prop} {s : Shared}
end
section
variable {X : Cx}
end
end L2
namespace VL
open PySem L2
section
variable {K : PySem.W.Frag} {X : Cx}
end
end VL
end
section
set_option maxHeartbeats 4000000
namespace L2
open PySem PySem.Spec PyProof.Rows
section
variable {X : Cx}
end
end L2
namespace VL
open PySem L2
section
variable {K : PySem.W.Frag} {X : Cx} {m : Bool} {pos : Pos} {S : List Sl}
end
end VL
end
section
set_option maxHeartbeats 4000000
namespace VL
open PySem L2
section
variable {K : PySem.W.Frag} {X : Cx} {c e tg : Expr} {a : List Stmt} {tc : TT} {vt : VTT} {ta : TS} {wi : TI} {vi : VTN} {j : Nat} {pos ipos : Pos} {S : List Sl}
def lendS : Sl → Sl
  | .own ds => .val (.lst ds)
  | .odi ks ds => .val (.dic ks ds)
  | .pen _ _ => .no
  | .obj _ => .no
  | s => s
def lend (S : List Sl) : List Sl := S.map lendS
theorem wk_lend : ∀ S : List Sl, Wk S (lend S)
  | [] => .nil
  | s :: r => by
    cases s with
    | own ds => exact .fz (wk_lend r)
    | odi ks ds => exact .fd (wk_lend r)
    | pen ad ns => exact .drop (wk_lend r)
    | obj k => exact .drop (wk_lend r)
    | no => exact .keep (wk_lend r)
    | val d => exact .keep (wk_lend r)
    | fre d => exact .keep (wk_lend r)
def Idle (S : List Sl) : Prop := ∀ (i : Nat) (s : Sl), S[i]? = some s → s.mut = false
theorem idle_lend (S : List Sl) : Idle (lend S) := fun i s h => by
  unfold lend at h
  rw [List.getElem?_map] at h
  cases hs : S[i]? with
  | none => rw [hs] at h; cases h
  | some t =>
    rw [hs] at h
    obtain rfl := Option.some.inj h
    cases t <;> rfl
theorem Idle.mo (h : Idle S) {Z : AP} {σ : St} {b : Addr} : Mo Z σ S b ↔ Z b :=
  ⟨fun m => by
    rcases m with ⟨k, t, h1, h2, _⟩ | m
    · rw [h k t h1] at h2; cases h2
    · exact m, .inr⟩
end
end VL
end
section
set_option maxHeartbeats 4000000
namespace VL
open PySem L2
section
variable {K : PySem.W.Frag} {N N' : AP} {F : FP} {H H' H0 : Hp} {Z P : AP} {σ σ' : St} {S S' : List Sl}
mutual
theorem Rep.mark {v : L2.V} {d : D} : Rep K N F H v d → Rep K N (fun o => F o ∧ ∀ a, o = some a → N a ∧ IsM (H a)) H v d
  | .int i => .int i
  | .bl i => .bl i
  | .non => .non
  | .str i => .str i
  | .ty i => .ty i
  | .tup n h r => .tup n h (Reps.mark r)
  | .tupK h r => .tupK h (Reps.mark r)
  | .lst n f h r => .lst n ⟨f, fun a e => by cases e; exact ⟨n, by rw [h]; trivial⟩⟩ h (Reps.mark r)
  | .lstF n f h r => .lstF n ⟨f, fun a e => nomatch e⟩ h (Reps.mark r)
  | .lstK f h r => .lstK ⟨f, fun a e => nomatch e⟩ h (Reps.mark r)
  | .dic n f h e rk r => .dic n ⟨f, fun a e => by cases e; exact ⟨n, by rw [h]; trivial⟩⟩ h e (Reps.mark rk) (Reps.mark r)
  | .exc n h e => .exc n h e
theorem Reps.mark {vs : List L2.V} {ds : List D} : Reps K N F H vs ds → Reps K N (fun o => F o ∧ ∀ a, o = some a → N a ∧ IsM (H a)) H vs ds
  | .nil => .nil
  | .cons h t => .cons (Rep.mark h) (Reps.mark t)
end
def lendF : Sl → Sl
  | .fre d => .val d
  | s => lendS s
theorem idle_lendF (S : List Sl) : Idle (S.map lendF) := fun i s h => by
  rw [List.getElem?_map] at h
  cases hs : S[i]? with
  | none => rw [hs] at h; cases h
  | some t =>
    rw [hs] at h
    obtain rfl := Option.some.inj h
    cases t <;> rfl
theorem OK.lendF (k : OK K H0 Z σ H S) : OK K H Z σ H (S.map VL.lendF) := by
  have il := idle_lendF S
  have kl := (k.wk (wk_lend S)).1
  have inz := idle_lend S
  refine ⟨by rw [k.len, List.length_map], fun i o s e1 e2 => ?_, fun i j a s t h1 _ m => ?_, fun _ e => e, k.zl, fun i s a h1 m => ?_⟩
  · rw [List.getElem?_map] at e2
    cases hs : S[i]? with
    | none => rw [hs] at e2; cases e2
    | some t =>
      rw [hs] at e2
      obtain rfl := Option.some.inj e2
      have q := kl.at_ i o (lendS t) e1 (by unfold lend; rw [List.getElem?_map, hs]; rfl)
      have hm : ∀ a, NM Z σ (lend S) a → H a ≠ none → NM Z σ (S.map VL.lendF) a ∧ H a = H a := fun a n _ => ⟨fun z => n (.inr (il.mo.mp z)), rfl⟩
      cases t with
      | no => trivial
      | val d => obtain ⟨v, e, r⟩ := q; exact ⟨v, e, r.mono hm fun _ x => x⟩
      | fre d => obtain ⟨v, e, r⟩ := q; exact ⟨v, e, r.mono hm fun _ _ => trivial⟩
      | own ds => obtain ⟨v, e, r⟩ := q; exact ⟨v, e, r.mono hm fun _ x => x⟩
      | pen ad ns => trivial
      | odi ks ds => obtain ⟨v, e, r⟩ := q; exact ⟨v, e, r.mono hm fun _ x => x⟩
      | obj k => trivial
  · rw [il i s h1] at m; cases m
  · rw [il i s h1] at m; cases m
section
variable {σ1 : St} {S1 : List Sl} {H1 : Hp} {i : Nat} {nw : Prop} {v : L2.V} {d : D}
end
end
section
variable {K : PySem.W.Frag} {X : Cx} {i j : Nat} {nw : Prop} {e c o tg : Expr} {te : TE} {va : VT} {pos pos' ipos : Pos} {x : Str} {rest : List Stmt} {u : TS} {t : VTG} {w : VTS}
end
end VL
end
section
set_option maxHeartbeats 4000000
namespace L2
open PySem PySem.Spec PyProof.Rows PySem.W
section
variable {X : Cx}
end
end L2
namespace VL
open PySem L2 PySem.W
section
variable {K : PySem.W.Frag} {X : Cx} {a b : Expr} {ta tb : TE} {pos : Pos}
end
end VL
end
section
set_option maxHeartbeats 4000000
namespace L2
open PySem PySem.Spec PyProof.Rows
section
variable {X : Cx}
end
end L2
namespace VL
open PySem L2
section
variable {K : PySem.W.Frag} {X : Cx} {a : Expr} {tr : TA} {vr : VTA} {S : List Sl} {QN : List D → List Sl → Prop} {p pos tp : Pos}
end
end VL
end
section
set_option maxHeartbeats 4000000
namespace L2
open PySem PySem.Spec PyProof.Rows
end L2
namespace L2
open PySem PySem.Spec PyProof.Rows
end L2
namespace VL
open PySem L2
section
variable {K : PySem.W.Frag} {X : Cx} {m : Bool} {o ie e : Expr} {ti te ta : TE} {vi va : VT} {pos posS apos : Pos} {S : List Sl}
end
section
variable {β : Type} {S : List Sl} {g2 : VG} {vt2 : VTT} {ve : VT}
end
end VL
end
section
set_option maxHeartbeats 4000000
namespace L2
open PySem PySem.Spec PyProof.Rows
end L2
namespace VL
open PySem L2
section
variable {K : PySem.W.Frag} {X : Cx} {m : Bool} {o ie : Expr} {to ti : TE} {vo vi : VT} {pos : Pos} {S : List Sl} {Q : VR → List Sl → Prop}
end
end VL
namespace VL
open PySem L2
section
variable {K : PySem.W.Frag} {X : Cx} {m : Bool} {a b : Expr} {ta tb : TE} {va vb : VT} {pos : Pos} {S : List Sl} {Q : VR → List Sl → Prop}
def vCatE (va vb : VT) : VT := fun S Q => va S fun ra S1 => vb S1 fun rb S2 => ∃ ds es, ra = .d (.tup ds) ∧ rb = .d (.tup es) ∧ ds ≠ [] ∧ ds.length + es.length ≤ 1000 ∧ Q (.d (.tup (ds ++ es))) S2
theorem ve_catE (hK : X.K = K) (ha : VE K X m a ta va) (hb : VE K X m b tb vb) : VE K X m (.BinOp a .Add b pos) (tOp (rCatT K) ta tb) (vCatE va vb) := ⟨by subst hK; exact pe_op op_catT ha.pe hb.pe, fun H0 Z σ H S Q C k t hc =>
  ha.snd H0 Z σ H S _ _ k t fun x H1 ra S1 k1 st1 r1 t1 => hb.snd H0 Z σ H1 S1 _ _ k1 t1 fun y H2 rb S2 k2 st2 r2 zq1 => by
    obtain ⟨ds, es, e1, e2, n1, hl, q⟩ := zq1
    subst e1; subst e2
    have rx : Rep K (NM Z σ S2) (FM H0 m) H2 x (.tup ds) := (show RepR K _ Z σ S1 H1 x (.d (.tup ds)) from r1).step st2
    obtain ⟨p, vs, rfl, hq, rr⟩ := rx.sqT
    obtain ⟨p', vs', rfl, hq', rr'⟩ := Rep.sqT (show Rep K _ _ H2 y (.tup es) from r2)
    have l1 := rr.length
    have l2 := rr'.length
    refine ⟨p, p', vs, vs', rfl, rfl, hq, hq', fun z => n1 (List.eq_nil_of_length_eq_zero (by rw [← l1, z]; rfl)), by rw [l1, l2, sizeLine_eq]; lia, fun z => ?_, fun _ l hl2 => ?_⟩
    · obtain rfl : es = [] := List.eq_nil_of_length_eq_zero (by rw [← l2, z]; rfl)
      rw [List.append_nil] at q
      exact hc _ _ (.d (.tup ds)) S2 k2 (st1.trans st2) rx q
    · have g := upd_grow (o := .tup (vs ++ vs')) hl2
      exact hc _ _ (.d (.tup (ds ++ es))) S2 (k2.grow g) ((st1.trans st2).trans (.grow g)) (show Rep K _ _ _ _ _ from Rep.tup (k2.nm hl2) (.inl upd_same) ((Reps.append rr rr').mono (fun a n e => ⟨n, g a e⟩) fun _ x => x)) q⟩
def kCatE1 (vb : VT) (Q : VR → List Sl → Prop) : VR → List Sl → Prop := fun ra S1 => vb S1 fun rb S2 => ∃ ds es, ra = .d (.tup ds) ∧ rb = .d (.tup es) ∧ ds ≠ [] ∧ ds.length + es.length ≤ 1000 ∧ Q (.d (.tup (ds ++ es))) S2
def kCatE2 (ra : VR) (Q : VR → List Sl → Prop) : VR → List Sl → Prop := fun rb S2 => ∃ ds es, ra = .d (.tup ds) ∧ rb = .d (.tup es) ∧ ds ≠ [] ∧ ds.length + es.length ≤ 1000 ∧ Q (.d (.tup (ds ++ es))) S2
theorem j_catE (h : va S (kCatE1 vb Q)) : vCatE va vb S Q := h
theorem j_kCatE1 {ra : VR} (h : vb S (kCatE2 ra Q)) : kCatE1 vb Q ra S := h
theorem j_kCatE2 {ds es : List D} (h1 : ds ≠ []) (hl : ds.length + es.length ≤ 1000) (h : Q (.d (.tup (ds ++ es))) S) : kCatE2 (.d (.tup ds)) Q (.d (.tup es)) S := ⟨ds, es, rfl, rfl, h1, hl, h⟩
end
end VL
end
section
set_option maxHeartbeats 4000000
namespace VL
open PySem L2
section
variable {P : Program} {w : World} {K : PySem.W.Frag} {mg : Str → Option Value} {base : Heap}
end
section
variable {K : PySem.W.Frag} {X : Cx} {m : Bool} {e : Expr} {es : List Expr} {tr : TA} {vr : VTA} {x : Str} {p0 pos : Pos} {j k : Nat} {ps : List Str} {S : List Sl} {Q : VR → List Sl → Prop}
end
end VL
end
section
set_option maxHeartbeats 4000000
namespace L2
open PySem PySem.Spec PyProof.Rows
end L2
namespace VL
open PySem L2
section
variable {K : PySem.W.Frag} {X : Cx} {i j : Nat} {nw : Prop} {e e2 tg : Expr} {te te2 : TE} {va va2 : VT} {pos : Pos} {rest : List Stmt} {u : TS} {w : VTS}
end
end VL
end
section
set_option maxHeartbeats 4000000
namespace ST
open PySem PySem.SetTable
end ST
end
section
set_option maxHeartbeats 4000000
namespace ST
open PySem PySem.SetTable
end ST
end
section
set_option maxHeartbeats 4000000
namespace ST
open PySem PySem.Spec PySem.SetTable
section
variable {prog : Program} {w : World} {K : Type} [DecidableEq K] {knd : HeapKind prog w K} {A : Around} {E : Value → Shared → Prop} {s : Shared}
variable {led : Bool} {h : Heap} {a : Addr} {o : Obj} {es : Array (Int × Value)} {ep : Nat} {t : SetTable} {xs : List (K × Addr)}
end
end ST
end
section
set_option maxHeartbeats 4000000
namespace ST
open PySem PySem.Spec PySem.SetTable
section
variable {prog : Program} {w : World} {K : Type} [DecidableEq K] {knd : HeapKind prog w K} {A : Around} {E : Value → Shared → Prop} {s : Shared} {led : Bool} {h : Heap} {a : Addr} {o : Obj} {es : Array (Int × Value)} {ep : Nat} {t : SetTable} {xs : List (K × Addr)}
end
end ST
end
section
set_option maxHeartbeats 4000000
namespace ST
open PySem PySem.Spec PySem.SetTable
section
variable {prog : Program} {w : World} {K : Type} [DecidableEq K] {knd : HeapKind prog w K} {A : Around} {E : Value → Shared → Prop} {s : Shared} {led : Bool} {h : Heap} {a : Addr} {o : Obj} {es : Array (Int × Value)} {ep : Nat} {t : SetTable} {xs : List (K × Addr)}
end
end ST
end
section
set_option maxHeartbeats 4000000
namespace ST
open PySem PySem.Spec PySem.SetTable
section
variable {prog : Program} {w : World} {K : Type} [DecidableEq K] {knd : HeapKind prog w K} {A : Around} {E : Value → Shared → Prop} {s : Shared} {led : Bool} {h : Heap} {a : Addr} {o : Obj} {es : Array (Int × Value)} {ep : Nat} {t : SetTable} {xs : List (K × Addr)}
end
end ST
end
section
set_option maxHeartbeats 4000000
namespace ST
open PySem PySem.Spec PySem.SetTable PyProof.Rows
section
variable {prog : Program} {w : World}
end
section
variable {prog : Program} {w : World} {K : Type} [DecidableEq K] {knd : HeapKind prog w K} {A : Around} {R : Result → Shared → Prop} {I a : Addr} {fp wr : List Addr} {G : Array GenState → Array GenState → Prop} {n : Nat} {P : Nat → Value → Prop} {St : Nat → Shared → Prop} {led : Bool}
end
end ST
end
section
set_option maxHeartbeats 4000000
namespace ST
open PySem PySem.Spec PySem.SetTable PyProof.Rows L2
section
variable {prog : Program} {w : World} {A : Around} {E : Value → Shared → Prop} {s : Shared}
end
section
variable {prog : Program} {w : World} {K : Type} [DecidableEq K] {knd : HeapKind prog w K} {A : Around} {E : Value → Shared → Prop} {s : Shared}
end
end ST
end
section
set_option maxHeartbeats 4000000
namespace ST
open PySem PySem.Spec PySem.SetTable PyProof.Rows L2
section
variable {prog : Program} {w : World} {K : Type} [DecidableEq K] {knd : HeapKind prog w K} {A : Around} {E : Value → Shared → Prop} {s : Shared} {a it : Addr} {o : Obj} {es : Array (Int × Value)} {ep : Nat} {t : SetTable} {xs : List (K × Addr)}
end
end ST
end
section
set_option maxHeartbeats 4000000
namespace ST
open PySem PySem.Spec PySem.SetTable PyProof.Rows L2
section
variable {prog : Program} {w : World} {K : Type} [DecidableEq K] {knd : HeapKind prog w K} {A : Around} {E : Value → Shared → Prop} {s : Shared} {a it : Addr} {o : Obj} {es : Array (Int × Value)} {ep : Nat} {t : SetTable} {xs : List (K × Addr)} {h0 : Heap}
end
end ST
end
section
set_option maxHeartbeats 4000000
namespace L2
open PySem PySem.Spec PyProof.Rows ST
end L2
end
section
set_option maxHeartbeats 4000000
namespace VL
open PySem L2 ST
section
variable {K : PySem.W.Frag} {X : Cx} {m : Bool} {e : Expr} {tr : TA} {vr : VTA} {pos p1 p2 pos2 : Pos} {S : List Sl} {Q : VR → List Sl → Prop} {QN : List D → List Sl → Prop}
end
end VL
end
section
set_option maxHeartbeats 4000000
namespace L2
open PySem PySem.Spec PyProof.Rows
end L2
namespace VL
open PySem L2
section
variable {K : PySem.W.Frag} {X : Cx} {m : Bool} {e : Expr} {te : TE} {va : VT} {pos p2 : Pos} {S : List Sl} {Q : VR → List Sl → Prop} {vl vh : VO}
end
end VL
end
section
set_option maxHeartbeats 4000000
namespace ST
open PySem PySem.Spec PySem.SetTable PyProof.Rows L2
section
variable {prog : Program} {w : World} {A : Around} {E : Value → Shared → Prop} {s : Shared} {led : Bool} {a : Addr} {o : Obj} {es : Array (Int × Value)} {ep : Nat} {t : SetTable}
end
end ST
end
section
set_option maxHeartbeats 4000000
namespace ST
open PySem PySem.Spec PySem.SetTable PyProof.Rows L2
section
variable {prog : Program} {w : World} {A : Around} {R : Result → Shared → Prop} {I a : Addr} {fp wr : List Addr} {G : Array GenState → Array GenState → Prop} {n : Nat} {P : Nat → Value → Prop} {St : Nat → Shared → Prop} {led : Bool}
end
section
variable {prog : Program} {w : World} {A : Around} {E : Value → Shared → Prop} {s : Shared}
end
end ST
namespace L2
open PySem PySem.Spec PyProof.Rows ST
end L2
namespace VL
open PySem L2 ST
section
variable {K : PySem.W.Frag} {X : Cx} {m : Bool} {e : Expr} {tr : TA} {vr : VTA} {pos p1 p2 pos2 : Pos} {S : List Sl} {QN : List D → List Sl → Prop}
end
end VL
end
section
set_option maxHeartbeats 4000000
namespace ST
open PySem PySem.Spec PySem.SetTable PyProof.Rows L2
section
variable {prog : Program} {w : World} {K : Type} [DecidableEq K] {knd : HeapKind prog w K} {A : Around} {E : Value → Shared → Prop} {s : Shared}
end
end ST
namespace L2
open PySem PySem.Spec PyProof.Rows ST
end L2
namespace VL
open PySem L2 ST
section
variable {K : PySem.W.Frag} {X : Cx} {m : Bool} {e : Expr} {tr : TA} {vr : VTA} {pos p1 p2 pos2 : Pos} {S : List Sl} {Q : VR → List Sl → Prop} {QN : List D → List Sl → Prop}
end
end VL
end
section
set_option maxHeartbeats 4000000
namespace L2
open PySem PySem.Spec PyProof.Rows PySem.W
section
variable {X : Cx}
end
section
variable {X : Cx} {k1 k2 e1 e2 : Expr} {a1 a2 t1 t2 : TE} {pos : Pos}
end
end L2
namespace L2
open PySem PySem.Spec PyProof.Rows PySem.W
section
variable {X : Cx} {i : Nat} {CB : Addr} {cb en : Str} {b0 : Stmt} {suite body : List Stmt} {h0 : ExceptHandler} {th ts us : TS} {st : Stmt} {np hp tp : Pos}
theorem ps_tryN (hb : PSs X body ts) (hxe : ∀ e s, ¬X.xe e s) : PS X (.Try body [h0] [] [] tp) ts := by
  intro pins s σ H D I h
  refine wpAny_Try_except (wpAny_mono (hb pins s σ H D I h) (fun f s1 q => ?_) fun e s z => (hxe e s z).elim)
  cases f with
  | next => obtain ⟨σ', H', I', q'⟩ := q; exact pss_nil pins s1 σ' H' D I' q'
  | brk => exact q
  | cont => exact q
  | ret u => exact q
theorem ps_alt (h1 : PS X st ts) (h2 : PS X st us) : PS X st (fun D σ H => ts D σ H ∨ us D σ H) := fun pins s σ H D I h => h.elim (h1 pins s σ H D I) (h2 pins s σ H D I)
abbrev Cx.inTry (X : Cx) (pn : List (Addr × Obj)) (xe : Value → Shared → Prop) : Cx := { X with pn := pn, xe := xe }
theorem Inv.inTry {pins : List (Addr × Obj)} {σ : St} {H : Hp} {s : Shared} {xe : Value → Shared → Prop} (I : Inv X pins σ H s) : Inv (X.inTry (X.pn ++ pins) xe) [] σ H s :=
  ⟨⟨I.ok.mod, I.ok.kind, I.ok.glob, I.ok.blt, I.ok.above, I.ok.inj, I.ok.has, I.ok.cab, I.ok.hd, I.ok.frames, I.ok.stk, I.ok.exf, I.ok.bs, I.ok.bsz, I.ok.noex, I.ok.exfs, I.ok.funs, I.ok.frf⟩, I.os, I.bare, I.base, I.loc, I.cell, I.free, I.freeC, fun p hp => I.pin p (by simpa using hp), I.hok, I.len⟩
theorem Inv.outTry {pins pins' : List (Addr × Obj)} {σ : St} {H : Hp} {s : Shared} {xe : Value → Shared → Prop} (ok : X.Ok) (I : Inv (X.inTry (X.pn ++ pins) xe) pins' σ H s) : Inv X pins σ H s :=
  ⟨ok, I.os, I.bare, I.base, I.loc, I.cell, I.free, I.freeC, fun p hp => I.pin p (List.mem_append_left _ hp), I.hok, I.len⟩
def Hands (X : Cx) (Hin : Hp) (E : XK) : Prop := ∀ pins σ H s e s', Inv X pins σ H s → CX1 X.prog X.w X.stack H s (fun c _ H' => (∀ b, Hin b ≠ none → H' b = Hin b) ∧ E c none H') e s' → X.xe e s'
def noE : Ends := { nx := fun _ _ => False, rt := fun _ _ => False }
def tTryX (K : Frag) (CB : Addr) (tb : Hp → XK → TS) (i : Nat) (th : TS) : TS := fun D σ H => tb H (fun c _ H' => ∃ C, c = .ref C ∧ exmOne K (.ref C) (.ref CB) = some true ∧
  ∀ (σ1 : St) (y : Addr) (o : Obj), σ1.length = σ.length → H' y = none → o.cls = .ref C → th (unE D i) (σ1.set i (some (.ref y))) (upd H' y (.frz o (.own y)))) noE σ H
theorem ps_tryX {tb : Hp → XK → TS} (hb : ∀ pn xe Hin E, Hands (X.inTry pn xe) Hin E → PSs (X.inTry pn xe) body (tb Hin E)) (hcb : X.mg cb = some (.ref CB))
    (hs : ∀ y, PSs (X.caught y) (b0 :: suite) th) (hxe : ∀ e s, ¬X.xe e s) (hex0 : X.ex = []) (hst : X.stack = X.env :: X.outer) (hfr : X.env.frame = some X.env.locals) (hN : X.N.Nodup) (hi : X.N[i]? = some en) (hloc : X.env.scope.names.lookup en = some .local)
    (hgc : Gl X cb := by rfl) (hdc : (cb == ("__debug__" : Str)) = false := by decide) :
    PS X (.Try body [.ExceptHandler (some (.Name cb np)) (some en) (b0 :: suite) hp] [] [] tp) (tTryX X.K CB tb i th) := by
  intro pins s σ H D I h
  unfold tTryX at h
  refine wpAny_Try_except ?_
  generalize hq : (fun e s₁ => wpAny (model X.prog X.w) X.A (noteFrame e X.env) (fun _ s₂ => wpAny (model X.prog X.w) X.A (setFlight e none) (fun _ s₃ => wpAny (model X.prog X.w) X.A (handleBy e X.env [.ExceptHandler (some (.Name cb np)) (some en) (b0 :: suite) hp]) (SP X pins D) X.xe s₃) X.xe s₂) X.xe s₁) = xe
  refine wpAny_mono (hb (X.pn ++ pins) xe H _ ?_ [] s σ H _ I.inTry h) (fun f s1 q => ?_) fun _ _ z => z
  rotate_left
  · cases f with
    | next => obtain ⟨_, _, _, z⟩ := q; exact z.elim
    | brk => obtain ⟨_, _, _, z⟩ := q; exact z.elim
    | cont => obtain ⟨_, _, _, z⟩ := q; exact z.elim
    | ret u => obtain ⟨_, _, _, _, _, z⟩ := q; exact z.elim
  · intro pins1 σ1 H1 s1 e s' J hc
    have I1 := J.outTry I.ok
    obtain ⟨y, cls, a0, B, H', rfl, Fl, fro, C, rfl, hex, fin⟩ := hc
    have hl1 : σ1.length = σ.length := I1.len.trans I.len.symm
    have Fl : Flies X.prog X.w X.stack H1 s1 y (.ref C) a0 B H' s' := Fl
    show xe _ _
    rw [← hq]
    have fr : X.A.frames = some (X.env :: X.outer) := hst ▸ I.ok.frames
    have fly0 := Fl.fly
    rw [hst] at fly0
    refine wpAny_looks_onW fr hfr fly0 fun h4 held up4 => ?_
    refine wpAny_landsW held fun h5 fly5 up5 => ?_
    have F5 : Flies X.prog X.w X.stack H1 s1 y (.ref C) a0 B H' { s' with heap := h5, toks := s'.toks } := Fl.on I1 (by rw [hst]; exact fly5) (up4.trans up5)
    have I5 := I1.lands F5
    obtain ⟨o5, ho5, hc5⟩ := fly5.there
    refine wpAny_handleBy_cons (codeAny_handlers_test (ld_glob (I5.caught y) hgc hcb ?_ hdc)) (by intro q; cases q)
    refine exm_one (h := h5) I5.kIn (hc5 ▸ (Looks.ld ho5).andThen .now) hex _ _ _ _ (fun _ _ e => e) ?_
    refine codeAny_handlers_suite_as ?_
    refine lands_againW fly5 fun h6 fly6 up6 => ?_
    have F6 : Flies X.prog X.w X.stack H1 s1 y (.ref C) a0 B H' { s' with heap := h6, toks := s'.toks } := Fl.on I1 (by rw [hst]; exact fly6) ((up4.trans up5).trans up6)
    have I6 := I1.lands F6
    obtain ⟨o6, ho6, hc6⟩ := fly6.there
    have here : ∀ b o, s1.heap.get? b = some o → b ≠ y := fun b o e z => by rw [z, Fl.new] at e; cases e
    have I7 : Inv (X.caught y) pins σ1 (upd H' y (.frz o6 (.own y))) { s' with heap := h6, toks := s'.toks } := by
      refine (I6.caught y).trackN F6.noX ?_ ?_ ?_ ?_ ⟨ho6, o6, ho6⟩
      · cases z : X.s₀.heap.get? y with
        | none => rfl
        | some o =>
          obtain ⟨o', e'⟩ := I1.base.there y o z (by rw [hex0]; intro q; cases q)
          exact absurd rfl (here y o' e')
      · obtain ⟨m, ⟨o, es, ep, e, _⟩, _⟩ := I1.loc
        exact (here _ o e).symm
      · intro n c e
        obtain ⟨v, o, e', _⟩ := I1.cell n c e
        exact here c o e'
      · intro p hp
        exact here p.1 p.2 (I1.pin p hp).1
    refine store_ok (X := X.caught y) I7 hN hi (.inl hloc) (show RelV (.ref y) (.ref y) from rfl) (fun s8 I8 => ?_) (.inr hloc)
    refine wpAny_mono (hs y pins s8 _ _ (unE D i) I8 (fin σ1 y o6 hl1 F6.noX hc6)) (fun fl s9 q9 => ?_) fun e s z => (hxe e s z).elim
    have let_go : ∀ {σ' : St} {H9 : Hp} {R : Unit → Shared → Prop}, Inv (X.caught y) pins σ' H9 s9 → (∀ s', Inv X pins (σ'.set i none) H9 s' → R () s') → wpAny (model X.prog X.w) X.A (do bindName X.env en .none; unbindBehindTheSuite X.env en hp) R X.xe s9 := fun {σ' H9 R} J g => by
      have J0 := J.uncaught I.ok
      refine wpAny_bind (wpAny_bindName (store_ok J0 hN hi (.inl hloc) (show RelV .non .none from rfl) (fun s10 I10 => ?_) (.inr hloc)))
      refine wpAny_onRaise (drop_ok I10 hN hi hloc (List.getElem?_set_self (by rw [J0.len]; exact (List.getElem?_eq_some_iff.mp hi).1)) fun s11 I11 => ?_)
      rw [List.set_set] at I11
      exact g s11 I11
    cases fl with
    | next => obtain ⟨σ', H9, J, q⟩ := q9; exact let_go J fun s' I' => ⟨_, _, I', q⟩
    | brk => obtain ⟨σ', H9, J, q⟩ := q9; exact let_go J fun s' I' => ⟨_, _, I', q⟩
    | cont => obtain ⟨σ', H9, J, q⟩ := q9; exact let_go J fun s' I' => ⟨_, _, I', q⟩
    | ret u => obtain ⟨v, σ', H9, J, r, q⟩ := q9; exact let_go J fun s' I' => ⟨v, _, _, I', r, q⟩
end
end L2
end
section
set_option maxHeartbeats 4000000
namespace L2
open PySem PySem.Spec PyProof.Rows PySem.W
end L2
namespace VL
open PySem L2 PySem.W
section
variable {K : PySem.W.Frag} {X : Cx} {m : Bool} {pos : Pos}
end
section
variable {K : PySem.W.Frag} {X : Cx} {ts us : TS} {t u : VTS} {st : Stmt} {body : List Stmt} {h0 : ExceptHandler} {tp : Pos}
theorem vs_tryN (h : VSs K X body ts t) (hxe : ∀ e s, ¬X.xe e s) : VS K X (.Try body [h0] [] [] tp) ts t := ⟨ps_tryN h.ps hxe, h.snd⟩
def vAltS (t u : VTS) : VTS := fun V S => t V S ∨ u V S
theorem vs_alt (h1 : VS K X st ts t) (h2 : VS K X st us u) : VS K X st (fun D σ H => ts D σ H ∨ us D σ H) (vAltS t u) :=
  ⟨ps_alt h1.ps h2.ps, fun H0 Z σ H S V E k zq l => zq.elim (fun z => .inl (h1.snd H0 Z σ H S V E k z l)) fun z => .inr (h2.snd H0 Z σ H S V E k z l)⟩
end
section
variable {K : PySem.W.Frag} {X : Cx} {Hin : Hp} {E : XK} {A B : List Stmt} {ts us : TS} {t u : (Addr → Prop) → List Sl → Prop} {pos : Pos}
theorem vx_ifE {c : Expr} {tc : TT} {wc : VTT} (hc : VTe K X c tc wc) (ha : VXs K X Hin E A ts t) (hb : VXs K X Hin E B us u) : VXs K X Hin E [.If c A B pos] (tSeq (tIfS tc ts us) tNever) (fun Wc S => wc S fun b S1 => if b = true then t Wc S1 else u Wc S1) :=
  ⟨pss_cons (ps_if hc.pe ha.ps hb.ps) pss_never, fun Wc hE H0 Z σ H S D k f h => hc.snd H0 Z σ H S _ _ k h fun b H1 S1 k1 st1 q => by
    cases b with
    | true => rw [if_pos rfl] at q ⊢; exact ha.snd Wc hE H0 Z σ H1 S1 _ k1 (f.step st1) q
    | false => rw [if_neg Bool.false_ne_true] at q ⊢; exact hb.snd Wc hE H0 Z σ H1 S1 _ k1 (f.step st1) q⟩
end
section
variable {K : PySem.W.Frag} {X : Cx} {i : Nat} {CB : Addr} {cb en : Str} {b0 : Stmt} {suite body : List Stmt} {th : TS} {vh : VTS} {t : (Addr → Prop) → List Sl → Prop} {np hp tp : Pos}
def allNo (S : List Sl) : List Sl := S.map fun _ => .no
theorem allNo_at {S : List Sl} {i : Nat} {s : Sl} (h : (allNo S)[i]? = some s) : s = .no := by
  unfold allNo at h
  rw [List.getElem?_map] at h
  cases e : S[i]? with
  | none => rw [e] at h; cases h
  | some x => rw [e] at h; exact (Option.some.inj h).symm
theorem OK.allNo {H0 H H' : Hp} {Z : AP} {σ σ1 : St} {S : List Sl} (k : OK K H0 Z σ H S) (hl : σ1.length = σ.length) (g : ∀ a, H a ≠ none → H' a = H a) : OK K H0 Z σ1 H' (allNo S) ∧ Step Z σ S H σ1 (allNo S) H' := by
  have nn : ∀ a, H' a = none → H a = none := fun a e => Classical.byContradiction fun z => by rw [g a z] at e; exact z e
  refine ⟨⟨by rw [hl, k.len]; unfold VL.allNo; rw [List.length_map], fun i o s _ e => by rw [allNo_at e]; trivial, fun i j a s t h1 _ m => by (rw [allNo_at h1] at m; cases m), fun a e => k.dom a (nn a e), fun a z => by rw [g a (k.zl a z).ne]; exact k.zl a z, fun i s a h1 m => by (rw [allNo_at h1] at m; cases m)⟩, fun a n e => ⟨g a e, ?_⟩, nn, fun a _ e => g a e⟩
  rintro (⟨i, s, h1, h2, _⟩ | z)
  · rw [allNo_at h1] at h2; cases h2
  · exact n (.inr z)
def vTryX (K : Frag) (CB : Addr) (t : (Addr → Prop) → List Sl → Prop) (i : Nat) (vh : VTS) : VTS := fun V S => i < S.length ∧ t (fun C => exmOne K (.ref C) (.ref CB) = some true ∧ vh (unV V i) ((allNo S).set i (.val (.exc (.ref C))))) (S.map lendF)
theorem vs_tryX {tb : Hp → XK → TS} (hb : ∀ pn xe Hin E, Hands (X.inTry pn xe) Hin E → VXs K (X.inTry pn xe) Hin E body (tb Hin E) t) (hK : X.K = K) (hcb : X.mg cb = some (.ref CB)) (hs : ∀ y, VSs K (X.caught y) (b0 :: suite) th vh) (hxe : ∀ e s, ¬X.xe e s) (hex0 : X.ex = [])
    (hst : X.stack = X.env :: X.outer) (hfr : X.env.frame = some X.env.locals) (hN : X.N.Nodup) (hi : X.N[i]? = some en) (hloc : X.env.scope.names.lookup en = some .local) (hgc : Gl X cb := by rfl) (hdc : (cb == ("__debug__" : Str)) = false := by decide) :
    VS K X (.Try body [.ExceptHandler (some (.Name cb np)) (some en) (b0 :: suite) hp] [] [] tp) (tTryX K CB tb i th) (vTryX K CB t i vh) := by
  subst hK
  refine ⟨ps_tryX (fun pn xe Hin E T => (hb pn xe Hin E T).ps) hcb (fun y => (hs y).ps) hxe hex0 hst hfr hN hi hloc hgc hdc, fun H0 Z σ H S V D k zq l => ?_⟩
  obtain ⟨hil, zq⟩ := zq
  have kl := k.lendF
  have il := idle_lendF S
  have k2 : OK X.K H (fun _ => False) σ H (S.map lendF) := by
    have hm : ∀ a, NM Z σ (S.map lendF) a → H a ≠ none → NM (fun _ => False) σ (S.map lendF) a ∧ H a = H a := fun a n _ => ⟨fun z => (il.mo.mp z).elim, rfl⟩
    refine ⟨kl.len, fun i o s e1 e2 => ?_, kl.inj, kl.dom, fun _ z => z.elim, fun _ _ _ _ _ _ z => z⟩
    have q := kl.at_ i o s e1 e2
    have hi := il i s e2
    cases s with
    | no => trivial
    | val d => obtain ⟨v, e, r⟩ := q; exact ⟨v, e, r.mono hm fun _ x => x⟩
    | fre d => obtain ⟨v, e, r⟩ := q; exact ⟨v, e, r.mono hm fun _ x => x⟩
    | own ds => cases hi
    | pen ad ns => cases hi
    | odi ks ds => cases hi
    | obj k => cases hi
  refine (hb [] (fun _ _ => True) H _ (fun _ _ _ _ _ _ _ _ => trivial)).snd _ ?_ H (fun _ => False) σ H _ _ k2 (fun a _ => ⟨rfl, fun z => (il.mo.mp z).elim⟩) zq
  rintro C ⟨hex, q⟩ H' g
  refine ⟨C, rfl, hex, fun σ1 y o hl hy hc => ?_⟩
  obtain ⟨k3, st3⟩ := k.allNo (σ1 := σ1) hl g
  have g2 := upd_grow (o := .frz o (.own y)) hy
  obtain ⟨k4, st4⟩ := (k3.grow g2).setVal (i := i) (v := .ref y) (by unfold VL.allNo; rw [List.length_map]; exact hil) (Rep.exc (c := .ref C) (k3.nm hy) upd_same hc)
  exact (hs 0).snd H0 Z _ _ _ _ _ k4 q ((l.step ((st3.trans (.grow g2)).trans st4)).letGo)
end
section
variable {K : PySem.W.Frag} {X : Cx} {i : Nat} {nw : Prop} {e oi : Expr} {te : TE} {va : VT} {pos : Pos} {rest : List Stmt} {u : TS} {w : VTS}
end
section
variable {S : List Sl} {Q : VR → List Sl → Prop}
theorem j_tryX {K : PySem.W.Frag} {CB : Addr} {t : (Addr → Prop) → List Sl → Prop} {i : Nat} {vh : VTS} {V : VEnds} (C : Addr) (hi : i < S.length) (hex : PySem.W.exmOne K (.ref C) (.ref CB) = some true) (ht : ∀ Wc : Addr → Prop, Wc C → t Wc (S.map lendF)) (hh : vh (unV V i) ((allNo S).set i (.val (.exc (.ref C))))) : vTryX K CB t i vh V S := ⟨hi, ht _ ⟨hex, hh⟩⟩
end
end VL
end
section
set_option maxHeartbeats 4000000
namespace L2
open PySem PySem.Spec PyProof.Rows
section
variable {X : Cx}
end
end L2
namespace VL
open PySem L2
section
variable {K : PySem.W.Frag} {X : Cx} {a b : Expr} {tr : TA} {vr : VTA} {S : List Sl} {QN : List D → List Sl → Prop} {p pos tp : Pos}
end
end VL
end
section
set_option maxHeartbeats 4000000
namespace L2
open PySem PySem.Spec PyProof.Rows
section
variable {prog : Program} {w : World} {A : Around} {E : Value → Shared → Prop} {s : Shared}
end
end L2
end
section
set_option maxHeartbeats 4000000
namespace L2
open PySem PySem.Spec PyProof.Rows VL
section
variable {X : Cx} {K : PySem.W.Frag}
end
end L2
end
section
set_option maxHeartbeats 4000000
namespace L2
open PySem
end L2
namespace VL
open PySem L2
section
variable {K : PySem.W.Frag} {X : Cx} {m : Bool} {pos p : Pos} {e : Expr} {tr : TA} {vr : VTA} {S : List Sl} {Q : List (List Int × D) → List Sl → Prop}
end
end VL
end
section
set_option maxHeartbeats 4000000
namespace VL
open PySem L2
section
variable {K : PySem.W.Frag} {X : Cx} {m : Bool} {pos p : Pos} {a b : Expr} {ta tb : TE} {va vb : VT} {S : List Sl} {Q : VR → List Sl → Prop}
end
end VL
end
section
set_option maxHeartbeats 4000000
namespace L2
open PySem PySem.Spec PyProof.Rows
end L2
namespace VL
open PySem L2
section
variable {K : PySem.W.Frag} {X : Cx} {m : Bool} {e o : Expr} {te ta : TE} {va vb : VT} {pos apos : Pos} {S : List Sl} {Q : VR → List Sl → Prop} {QN : List D → List Sl → Prop}
end
end VL
end
section
set_option maxHeartbeats 4000000
namespace L2
open PySem PySem.Spec PyProof.Rows
section
variable {X : Cx} {e : Expr} {es : List Expr} {te : TE} {tj : TJ} {pos : Pos}
end
end L2
namespace VL
open PySem L2
section
variable {K : PySem.W.Frag} {X : Cx} {m : Bool} {e v w : Expr} {es : List Expr} {te : TE} {tj : TJ} {va : VT} {vj : VTJ} {pos : Pos} {S : List Sl} {Q : VR → List Sl → Prop}
end
end VL
end
section
set_option maxHeartbeats 4000000
namespace L2
open PySem PySem.Spec PyProof.Rows
section
variable {X : Cx}
end
end L2
namespace VL
open PySem L2
section
variable {K : PySem.W.Frag} {X : Cx} {m : Bool} {e : Expr} {te : TE} {va : VT} {pos : Pos}
end
end VL
end
section
set_option maxHeartbeats 4000000
namespace L2
open PySem PySem.Spec PyProof.Rows
section
variable {X : Cx} {tg : Expr}
end
end L2
namespace VL
open PySem L2
section
variable {K : PySem.W.Frag} {X : Cx} {m : Bool} {e tg : Expr} {te : TE} {va : VT} {pos : Pos}
end
end VL
end
section
set_option maxHeartbeats 4000000
namespace VL
open PySem L2
section
variable {P : Program} {w : World} {K : PySem.W.Frag} {mg : Str → Option Value} {base : Heap}
end
section
variable {K : PySem.W.Frag} {X : Cx} {m : Bool} {e : Expr} {es : List Expr} {tr : TA} {vr : VTA} {pos p0 : Pos} {x : Str} {j k : Nat} {ps : List Str} {p : PJ2}
end
end VL
end
section
set_option maxHeartbeats 4000000
namespace VL
open PySem L2
section
variable {K : PySem.W.Frag} {X : Cx} {m : Bool} {e e0 : Expr} {te : TE} {pos p0 p1 : Pos} {x : Str} {j k jj : Nat} {ps : List Str} {t : VTN} {p : PJ2} {n : Int}
end
end VL
end
section
set_option maxHeartbeats 4000000
namespace VL
open PySem L2
section
variable {S : List Sl} {Q : VR → List Sl → Prop} {QN : List D → List Sl → Prop} {QJ : Str → List Sl → Prop} {q : D → Prop} {va vb : VT} {t : VTN} {vj : VTJ} {vl vh : VO} {vr : VTA} {p : PJ2} {x y z acc : Str}
end
end VL
end
section
set_option maxHeartbeats 4000000
namespace My
open PySem
end My
end
section
set_option maxHeartbeats 4000000
namespace My
open PySem VL
end My
end
section
set_option maxHeartbeats 4000000
namespace L2
open PySem PySem.Spec PyProof.Rows
end L2
namespace VL
open PySem L2
section
variable {K : PySem.W.Frag} {X : Cx} {m : Bool} {e o : Expr} {te ta : TE} {va vb : VT} {pos apos : Pos} {S : List Sl} {Q : VR → List Sl → Prop}
variable {z y : Str}
end
end VL
end
section
set_option maxHeartbeats 4000000
namespace L2
open PySem PySem.Spec PyProof.Rows
section
variable {X : Cx}
variable {e : Expr} {te : TE} {p2 pos : Pos}
end
end L2
namespace VL
open PySem L2
section
variable {K : PySem.W.Frag} {X : Cx} {m : Bool} {e : Expr} {te : TE} {va : VT} {p2 pos : Pos} {S : List Sl} {Q : VR → List Sl → Prop}
end
end VL
end
section
set_option maxHeartbeats 4000000
namespace VL
open PySem L2
section
variable {K : PySem.W.Frag} {X : Cx}
end
end VL
end
section
set_option maxHeartbeats 4000000
namespace VL
open PySem L2
section
variable {S : List Sl} {Q : VR → List Sl → Prop} {q : D → Prop} {va vb : VT} {x y z : Str}
end
end VL
end
section
set_option maxHeartbeats 4000000
namespace ST
open PySem PySem.Spec PySem.SetTable PyProof.Rows L2
section
variable {prog : Program} {w : World} {A : Around} {E : Value → Shared → Prop} {s : Shared} {led : Bool} {a : Addr} {o : Obj} {es : Array (Int × Value)} {ep : Nat} {t : SetTable}
end
end ST
end
section
set_option maxHeartbeats 4000000
namespace ST
open PySem PySem.Spec PySem.SetTable PyProof.Rows L2
section
variable {prog : Program} {w : World} {A : Around} {R : Result → Shared → Prop} {I a : Addr} {fp wr : List Addr} {G : Array GenState → Array GenState → Prop} {n : Nat} {P : Nat → Value → Prop} {St : Nat → Shared → Prop} {led : Bool}
end
section
variable {prog : Program} {w : World} {A : Around} {E : Value → Shared → Prop} {s : Shared}
end
end ST
namespace L2
open PySem PySem.Spec PyProof.Rows ST
end L2
namespace VL
open PySem L2 ST
section
variable {K : PySem.W.Frag} {X : Cx} {m : Bool} {e : Expr} {tr : TA} {vr : VTA} {pos p1 p2 pos2 : Pos} {S : List Sl} {QN : List D → List Sl → Prop}
end
end VL
end
section
set_option maxHeartbeats 4000000
namespace VL
open PySem L2 PySem.W
structure VXe (K : PySem.W.Frag) (X : Cx) (Hin : Hp) (E : XK) (e : Expr) (te : TE) (t : (Addr → Prop) → List Sl → Prop) : Prop where
  pe : PE X e te
  snd : ∀ Wc : Addr → Prop, (∀ C, Wc C → ∀ H', (∀ a, Hin a ≠ none → H' a = Hin a) → E (.ref C) none H') → ∀ H0 Z σ H S Q, OK K H0 Z σ H S → Fz Hin Z σ S H → t Wc S → te σ H Q
section
variable {K : PySem.W.Frag} {X : Cx} {Hin : Hp} {E : XK} {e : Expr} {es : List Expr} {rest : List Stmt} {te te' : TE} {tr tr' : TA} {t u : (Addr → Prop) → List Sl → Prop} {v : VT} {vr : VTA} {pos : Pos}
theorem vxe_call {k j : Nat} {x : Str} {ps : List Str} {bad : List D → Addr → Prop} {p0 : Pos} (T : Hands X Hin E) (F : HasX X.prog X.w X.K X.mg X.base k x ps bad) (hK : X.K = K) (hr : Room j X.A) (ha : VA K X false (e :: es) tr vr)
    (hk : k ≤ j := by decide) (hg : Gl X x := by rfl) (hdb : (x == ("__debug__" : Str)) = false := by decide) (he : starEach (e :: es) X.env = (false, eval e X.env) :: starEach es X.env := by rfl)
    (hpl : (backTo pos (starEach es X.env)).any (·.1) = false := by rfl) :
    VXe K X Hin E (.Call (.Name x p0) (e :: es) [] pos) (tCall (spX K bad) [] (fun c _ H' => (∀ b, Hin b ≠ none → H' b = Hin b) ∧ E c none H') tr) (fun Wc S => vr S fun rs S1 => ∃ ds C, gets S1 rs = some ds ∧ bad ds C ∧ Wc C) := by
  subst hK
  obtain ⟨f, fd, F, hm, kp, hb⟩ := F
  refine ⟨pe_call F (hr.mono hk) hg hm kp hb .nil (fun pins σ H s e s' I h => T pins σ H s e s' I h) ha.pe hdb he hpl, fun Wc hE H0 Z σ H S Q k f h => ?_⟩
  refine ha.snd H0 Z σ H S _ _ k h fun vs H1 rs S1 k1 st1 rrs ⟨ds, C, e, hb, hw⟩ => ?_
  have f1 := f.step st1
  refine ⟨ds, C, by rw [List.append_nil]; exact rrs.gets k1 e, hb, fun H' g => ?_⟩
  have fr : ∀ b, Hin b ≠ none → H' b = Hin b := fun b e => by
    have q := (f1 b e).1
    rw [← q]
    exact g b (by rw [q]; exact e)
  exact ⟨fr, hE C hw H' fr⟩
theorem vx_ret (h : VXe K X Hin E e te t) : VXs K X Hin E (.Return (some e) pos :: rest) (tSeq (tRet te) tNever) t :=
  ⟨pss_cons (ps_ret h.pe) pss_never, fun Wc hE H0 Z σ H S D k f z => h.snd Wc hE H0 Z σ H S _ k f z⟩
end
end VL
end
section
set_option maxHeartbeats 4000000
namespace L2
open PySem PySem.Spec PyProof.Rows PySem.W
section
variable {X : Cx} {k i : Nat} {f CB : Addr} {fd : FuncData} {ps : List Str} {sp : Sp} {e0 : Expr} {es : List Expr} {ta : TA} {x cb en nn : Str} {b0 : Stmt} {suite : List Stmt} {th : TS} {p pos pe np hp tp pos' : Pos}
end
end L2
namespace VL
open PySem L2 PySem.W
section
variable {K : PySem.W.Frag} {X : Cx} {k j i : Nat} {CB : Addr} {ps : List Str} {bad : List D → Addr → Prop} {e0 : Expr} {es : List Expr} {tr : TA} {vr : VTA} {x cb en nn : Str} {b0 : Stmt} {suite : List Stmt} {th : TS} {vh : VTS} {p pos pe np hp tp pos' : Pos}
end
section
variable {K : PySem.W.Frag} {X : Cx} {Hin : Hp} {E : XK} {e tg : Expr} {rest : List Stmt} {te : TE} {t : (Addr → Prop) → List Sl → Prop} {pos : Pos} {g : TG} {vg : VG}
end
end VL
end
section
set_option maxHeartbeats 4000000
namespace L2
open PySem PySem.Spec PyProof.Rows SeqAt
section
variable {X : Cx}
end
end L2
namespace VL
open PySem L2
section
variable {K : PySem.W.Frag} {X : Cx} {m : Bool} {e o a b : Expr} {te ta tb : TE} {va vb : VT} {pos apos : Pos} {S : List Sl} {Q : VR → List Sl → Prop} {QN : List D → List Sl → Prop} {t : VTN}
end
end VL
end
section
set_option maxHeartbeats 4000000
namespace VL
open PySem L2 PySem.W
section
variable {K : PySem.W.Frag} {X : Cx} {a b : Expr} {ta tb : TE} {pos : Pos} {S : List Sl} {Q : List D → List Sl → Prop}
variable {va vb : VT} {z : Str} {QR : VR → List Sl → Prop}
end
end VL
end
section
set_option maxHeartbeats 4000000
namespace L2
open PySem PySem.Spec PyProof.Rows
section
variable {X : Cx} {a b e o : Expr} {es : List Expr} {te ta tb : TE} {t : TA} {pos cpos apos : Pos} {n m k : Nat}
end
end L2
namespace L2
open PySem PySem.Spec PyProof.Rows
section
variable {X : Cx}
end
end L2
namespace VL
open PySem L2 PySem.W
section
variable {K : PySem.W.Frag} {X : Cx} {mm : Bool} {a b e o : Expr} {es : List Expr} {te ta tb : TE} {tr : TA} {va vb : VT} {vr : VTA} {pos cpos apos : Pos} {n m k : Nat} {S : List Sl} {Q : VR → List Sl → Prop}
end
end VL
end
section
set_option maxHeartbeats 4000000
namespace KT
open PySem PySem.Spec L2 SeqAt PySem.W
section
variable {prog : Program} {w : World}
end
end KT
end
section
set_option maxHeartbeats 4000000
namespace L2
open PySem PySem.Spec PyProof.Rows KT
section
variable {X : Cx} {pins : List (Addr × Obj)} {σ : St} {H : Hp} {s : Shared}
end
section
variable {X : Cx}
variable {o i value : Expr} {pos pos' : Pos} {td ty tv : TE}
end
end L2
namespace VL
open PySem L2 KT
section
variable {K : PySem.W.Frag} {N : AP} {F : FP} {H : Hp}
end
section
variable {K : PySem.W.Frag} {X : Cx} {m : Bool} {e o ie : Expr} {te ti : TE} {va vi : VT} {pos posS : Pos}
variable {S : List Sl} {V : VEnds} {QT : Bool → List Sl → Prop} {Q : VR → List Sl → Prop}
end
end VL
end
section
set_option maxHeartbeats 4000000
namespace VL
open PySem L2
section
variable {K : PySem.W.Frag} {H H' H0 : Hp} {Z P : AP} {σ σ' : St} {S S' : List Sl}
end
end VL
end
section
set_option maxHeartbeats 4000000
namespace VL
open PySem L2
section
variable {K : PySem.W.Frag} {X : Cx} {inner iter target tg it o e1 e2 : Expr} {pos : Pos} {n : Nat} {ix : List Nat}
end
end VL
end
section
set_option maxHeartbeats 4000000
namespace VL
open PySem L2
section
variable {K : PySem.W.Frag} {X : Cx} {inner iter target tg it o e1 e2 : Expr} {pos spos px p1 p2 p3 p4 pc : Pos} {n i j : Nat} {ix : List Nat} {x : Str} {rest : List Stmt} {u : TS} {w : VTS} {jj : Nat} {z : Str}
end
end VL
end
section
set_option maxHeartbeats 4000000
namespace L2
open PySem PySem.Spec PyProof.Rows
section
variable {X : Cx}
end
end L2
namespace VL
open PySem L2 PySem.W
section
variable {K : PySem.W.Frag}
end
end VL
end
section
set_option maxHeartbeats 4000000
namespace VL
open PySem L2 PySem.W
section
variable {K : PySem.W.Frag} {X : Cx} {tg e tg2 e2 c c2 : Expr} {a a2 : List Stmt} {wi wi2 : TI} {vi vi2 : VTN} {tc tc2 : TT} {vt vt2 : VTT} {ta ta2 : TS} {pos ipos pos2 ipos2 : Pos} {j k : Nat} {S : List Sl}
end
end VL
end
section
set_option maxHeartbeats 4000000
namespace L2
open PySem PySem.Spec PyProof.Rows
section
variable {X : Cx}
end
end L2
namespace VL
open PySem L2 PySem.W
section
variable {K : PySem.W.Frag}
end
end VL
end
section
set_option maxHeartbeats 4000000
namespace L2
open PySem PySem.Spec PyProof.Rows
def Bmod (mg : Str → Option Value) (h : Heap) : Prop := ∃ bm o, mg "__builtins__" = some (.ref bm) ∧ bm ≠ builtinsNs ∧ h.get? bm = some o ∧ o.cls = .type "module" ∧ o.dict = some builtinsNs ∧ o.data = .plain
theorem among_app {pos : Pos} {a b : Int} {c cv : Value} (l : List Value) (h : TriplesOk l) (e : codeAmong pos (l ++ [rawInt a, rawInt b, c]) = some cv) : codeAmong pos l = some cv ∨ cv = c := by
  fun_induction TriplesOk l with
  | case1 =>
    simp only [List.nil_append, codeAmong, rawInt] at e
    split at e
    · exact .inr (Option.some.inj e).symm
    · cases e
  | case2 a t b u x rest ih =>
    simp only [List.cons_append, codeAmong] at e ⊢
    split at e
    · rename_i hc
      rw [if_pos hc]
      exact .inl e
    · rename_i hc
      rw [if_neg hc]
      exact ih h e
  | case3 l h1 h2 => exact h.elim
section
variable {X : Cx} {pins : List (Addr × Obj)} {σ : St} {H : Hp} {s : Shared}
theorem mk_lam {M : Model} {A : Around} {E : Value → Shared → Prop} {name qual : Str} {params : Arguments} {body : Expr} {scope : Scope} {c P : Addr} {ps : Array Value} {t0 : Tok} {pos : Pos} {firstLine : Nat} {clos : List (Str × Addr)} {Q : Value → Shared → Prop}
    (I : Inv X pins σ H s) (hcode : X.env.code = .ref c) (C : PySem.W.CodeHd X.base c P) (hB : Bmod X.mg X.base) (hT : H P = some (.tbl ps)) (hq : ps[0]? = some (.str qual t0)) (hcl : closureFor scope X.env = pure clos)
    (h : ∀ (H' : Hp) (s' : Shared) (f c' : Addr) (ctv pm : Value), Inv X pins σ H' s' → (∀ a, H a ≠ none → H' a = H a) → H' f = none → s.heap.objs.size ≤ f → s'.heap.get? f = some (PySem.W.kla_obj name qual params body scope clos pm c' ctv) →
      s'.heap.CodeRec (.ref c') qual → H' c' = some (.own P) → Q (.ref f) s') :
    wpAny M A (makeFunction name qual params (.expr body) scope X.env [] [] [] pos firstLine) Q E s := by
  obtain ⟨qs, hP, ht, hf⟩ := (show ObjOk X.prog X.w H s.heap P (.tbl ps) from I.hok P _ hT)
  have hgs : s.heap.Ns mainGlobals X.mg := I.mod.glob.keeps I.bk
  obtain ⟨bm, o, b1, b2, b3, b4, b5, b6⟩ := hB
  have hgP : mainGlobals ≠ P := fun z => by
    obtain ⟨o', es, ep, e, hd, _⟩ := hgs
    rw [z, hP] at e
    cases e
    cases hd
  have hbG : bm ≠ mainGlobals := fun z => by
    obtain ⟨o', es, ep, e, hd, _⟩ := I.mod.glob
    rw [z, e] at b3
    cases b3
    rw [hd] at b6
    cases b6
  have hbP : bm ≠ P := fun z => by
    have e := I.bk _ _ b3
    rw [z, hP] at e
    cases e
    cases b4
  have bat : s.heap.BuiltinsAt X.mg P := ⟨bm, o, b1, b2, hbG, hbP, I.bk _ _ b3, b4, b5, b6⟩
  cases e : codeAmong pos qs.toList with
  | some cv =>
    obtain ⟨c1, q, t, rfl, ho, hq1, cr⟩ := hf pos cv e
    rw [hq] at hq1
    cases hq1
    refine PySem.W.kla_makeFunctionHit (mg := X.mg) hcl I.ok.glob hgs hcode (C.keeps I.bk) hP ht e bat fun ctv h' tk hk hsz => ?_
    have k2 : ∀ b u, s.heap.get? b = some u → (h'.push (PySem.W.kla_obj name qual params body scope clos ((X.mg "__name__").getD .none) c1 ctv)).get? b = some u := fun b u e => Heap.get?_push_of_some _ (hk b u e)
    exact h H _ h'.objs.size c1 ctv _ (I.kept (t' := tk) k2) (fun _ _ => rfl) (I.hok.fresh hsz) hsz (Heap.get?_push_size _ rfl) (cr.keeps k2) ho
  | none =>
    refine PySem.W.kla_makeFunction (mg := X.mg) hcl I.ok.glob hgs hcode (C.keeps I.bk) hP ht e hgP bat fun c' ctv h' tk hx hge hlt hrec htb => ?_
    have hn : H c' = none := I.hok.fresh hge
    generalize hob : PySem.W.kla_obj name qual params body scope clos ((X.mg "__name__").getD .none) c' ctv = ob
    have k2 : ∀ b u, b ≠ P → s.heap.get? b = some u → (h'.push ob).get? b = some u := fun b u n e => Heap.get?_push_of_some _ (hx b u n e)
    have nP : ∀ b, H b = none → b ≠ P := fun b n z => by rw [z, hT] at n; cases n
    have un : Un X.fs [] H (upd H c' (.own P)) s.heap (h'.push ob) := by
      refine ⟨fun b u q n _ _ => k2 b u (nP b n) q, fun b u q n _ _ => ⟨u.slots, k2 b u (nP b n) q⟩, fun b u q n _ => ?_, fun b u q _ => ?_, fun b xs q => ?_, fun b u xs q => ?_, fun b qs q => ⟨#[], ?_⟩⟩
      · rw [upd_ne (Nat.ne_of_lt (Nat.lt_of_lt_of_le (Heap.lt_size q) hge))]
        exact n
      · by_cases hb : b = P
        · exact ⟨_, by rw [hb]; exact Heap.get?_push_of_some _ htb⟩
        · exact ⟨u, k2 b u hb q⟩
      · rw [upd_ne (ne_of_none q hn)]; exact q
      · rw [upd_ne (ne_of_none q hn)]; exact q
      · rw [upd_ne (ne_of_none q hn), q]; simp
    have hok : HOk X.prog X.w (upd H c' (.own P)) (h'.push ob) := fun b u q => by
      by_cases hb : b = c'
      · subst hb
        rw [upd_same] at q
        cases q
        obtain ⟨c2, oc, vs, tq, e2, hoc, _⟩ := hrec
        cases e2
        exact ⟨oc, Heap.get?_push_of_some _ hoc⟩
      · rw [upd_ne hb] at q
        by_cases hbP : b = P
        · subst hbP
          rw [hT] at q
          cases q
          refine ⟨qs ++ #[rawInt pos.line, rawInt pos.col, .ref c'], Heap.get?_push_of_some _ htb, by rw [Array.toList_append]; exact TriplesOk_snoc _ _ _ _ ht, fun pos' cv hc => ?_⟩
          rw [Array.toList_append] at hc
          rcases among_app _ ht hc with hc | hc
          · obtain ⟨c1, q1, t1, rfl, ho, hq1, c2, oc, vs, tq, ec, e1, r⟩ := hf pos' cv hc
            cases ec
            exact ⟨c1, q1, t1, rfl, by rw [upd_ne (ne_of_none ho hn)]; exact ho, hq1, c1, oc, vs, tq, rfl, k2 c1 oc (fun z => by rw [z, hT] at ho; cases ho) e1, r⟩
          · exact ⟨c', qual, t0, hc, upd_same, hq, by rw [hc]; exact hrec.push _⟩
        · refine (I.hok b u q).stay (fun c2 v hc q2 => k2 c2 v ?_ q2) (fun c2 q2 => by rw [upd_ne (ne_of_none q2 hn)]; exact q2) fun c2 xs q2 => by rw [upd_ne (ne_of_none q2 hn)]; exact q2
          rcases hc with z | z
          · rw [z]; exact hbP
          · exact fun y => by rw [y, hT] at z; cases z
    have hfn : upd H c' (.own P) h'.objs.size = none := by
      rw [upd_ne (Nat.ne_of_gt hlt)]
      exact I.hok.fresh (Nat.le_trans hge (Nat.le_of_lt hlt))
    exact h (upd H c' (.own P)) _ h'.objs.size c' ctv _ (I.un (t' := tk) un hok) (fun a z => upd_ne fun y => z (by rw [y]; exact hn)) hfn (Nat.le_trans hge (Nat.le_of_lt hlt)) (by rw [← hob]; exact Heap.get?_push_size _ rfl) (hrec.push _) upd_same
end
def isOwn (P : Addr) : Option HO → Bool
  | some (.own x) => x == P
  | _ => false
theorem isOwn_iff {P : Addr} {o : Option HO} : isOwn P o = true ↔ o = some (.own P) := by
  constructor
  · intro h
    unfold isOwn at h
    split at h
    · rw [beq_iff_eq.mp h]
    · cases h
  · rintro rfl
    exact beq_iff_eq.mpr rfl
def unt (H : Hp) (P : Addr) : Hp := fun b => if b = P ∨ isOwn P (H b) = true then none else H b
def ret (H : Hp) (P : Addr) (H' : Hp) : Hp := fun b => if b = P ∨ isOwn P (H b) = true then H b else H' b
section
variable {Pg : Program} {w : World} {H H' : Hp} {h h' : Heap} {P : Addr} {ps : Array Value}
theorem unt_none {b : Addr} (n : H b = none) : unt H P b = none := by
  unfold unt
  split
  · rfl
  · exact n
theorem unt_some {b : Addr} {o : HO} (e : unt H P b = some o) : b ≠ P ∧ H b ≠ some (.own P) ∧ H b = some o := by
  unfold unt at e
  split at e
  · cases e
  · rename_i hn
    exact ⟨fun z => hn (.inl z), fun z => hn (.inr (isOwn_iff.mpr z)), e⟩
theorem unt_of {b : Addr} (h1 : b ≠ P) (h2 : H b ≠ some (.own P)) : unt H P b = H b := by
  unfold unt
  rw [if_neg]
  rintro (z | z)
  · exact h1 z
  · exact h2 (isOwn_iff.mp z)
theorem unt_gone {b : Addr} (h : b = P ∨ H b = some (.own P)) : unt H P b = none := by
  unfold unt
  rw [if_pos]
  rcases h with z | z
  · exact .inl z
  · exact .inr (isOwn_iff.mpr z)
theorem ret_in {b : Addr} (h : b = P ∨ H b = some (.own P)) : ret H P H' b = H b := by
  unfold ret
  rw [if_pos]
  rcases h with z | z
  · exact .inl z
  · exact .inr (isOwn_iff.mpr z)
theorem ret_out {b : Addr} (h1 : b ≠ P) (h2 : H b ≠ some (.own P)) : ret H P H' b = H' b := by
  unfold ret
  rw [if_neg]
  rintro (z | z)
  · exact h1 z
  · exact h2 (isOwn_iff.mp z)
theorem unt_ok (ok : HOk Pg w H h) (hT : H P = some (.tbl ps)) : HOk Pg w (unt H P) h := fun b u e => by
  obtain ⟨h1, h2, h3⟩ := unt_some e
  refine (ok b u h3).stay (fun _ _ _ q => q) (fun c q => ?_) fun c xs q => ?_
  · rw [unt_of (fun z => by rw [z, hT] at q; cases q) (fun z => by rw [z] at q; cases q; exact h1 rfl)]
    exact q
  · rw [unt_of (fun z => by rw [z, hT] at q; cases q) (fun z => by rw [z] at q; cases q)]
    exact q
theorem ret_ok (ok : HOk Pg w H h) (hT : H P = some (.tbl ps)) (ok' : HOk Pg w H' h') (un : ∀ b o, (b = P ∨ H b = some (.own P)) → h.get? b = some o → h'.get? b = some o ∧ H' b = none) : HOk Pg w (ret H P H') h' := fun b u e => by
  have hout : ∀ c o, H' c = some o → ret H P H' c = some o := fun c o q => by
    by_cases hc : c = P ∨ H c = some (.own P)
    · have there : ∃ x, h.get? c = some x := by
        rcases hc with z | z
        · obtain ⟨qs, e, _⟩ := (show ObjOk Pg w H h P (.tbl ps) from ok P _ hT)
          exact ⟨_, by rw [z]; exact e⟩
        · exact (show ObjOk Pg w H h c (.own P) from ok c _ z)
      obtain ⟨x, hx⟩ := there
      rw [(un c x hc hx).2] at q
      cases q
    · rw [ret_out (fun z => hc (.inl z)) fun z => hc (.inr z)]
      exact q
  by_cases hb : b = P
  · subst hb
    rw [ret_in (.inl rfl), hT] at e
    cases e
    obtain ⟨qs, hP, ht, hf⟩ := (show ObjOk Pg w H h b (.tbl ps) from ok b _ hT)
    refine ⟨qs, (un b _ (.inl rfl) hP).1, ht, fun pos cv hc => ?_⟩
    obtain ⟨c, q, t, rfl, ho, hq, c2, oc, vs, tq, ec, e1, r⟩ := hf pos cv hc
    cases ec
    exact ⟨c, q, t, rfl, by rw [ret_in (.inr ho)]; exact ho, hq, c, oc, vs, tq, rfl, (un c oc (.inr ho) e1).1, r⟩
  · by_cases ho : H b = some (.own P)
    · rw [ret_in (.inr ho), ho] at e
      cases e
      obtain ⟨x, hx⟩ := (show ObjOk Pg w H h b (.own P) from ok b _ ho)
      exact ⟨x, (un b x (.inr ho) hx).1⟩
    · rw [ret_out hb ho] at e
      exact (ok' b u e).stay (fun _ _ _ q => q) (fun c q => hout c _ q) fun c xs q => hout c _ q
end
theorem funs_un {base h h' : Heap} {fs ch : List Addr} {H H' : Hp} (u : Un fs ch H H' h h') : ∀ l : List Env, (∀ b ∈ frs l, b ∈ fs ∧ H b = none ∧ b ∉ ch) → h.FunFrames base l → h'.FunFrames base l
  | [], _, _ => trivial
  | env :: r, hs, hl => by
    obtain ⟨hk, ⟨L, o, hf, hn, ho, hd⟩, hr⟩ := hl
    have sub : ∀ b ∈ frs r, b ∈ frs (env :: r) := fun b hb => by
      unfold frs at hb ⊢
      rw [List.filterMap_cons, hf]
      exact List.mem_cons_of_mem _ hb
    obtain ⟨h1, h2, h3⟩ := hs L (by unfold frs; rw [List.filterMap_cons, hf]; exact List.mem_cons_self)
    obtain ⟨sl, e⟩ := u.slot L o ho h2 h1 h3
    exact ⟨hk, ⟨L, _, hf, hn, e, hd⟩, funs_un u r (fun b hb => hs b (sub b hb)) hr⟩
theorem Env0.next {P : Program} {w : World} {K : PySem.W.Frag} {mg : Str → Option Value} {base : Heap} {A : Around} {outer : List Env} {s s' : Shared} {H H' : Hp} {ch : List Addr} (e : Env0 P w K mg base A outer s H) (u : Un (frs outer) ch H H' s.heap s'.heap)
    (hch : ∀ b ∈ ch, base.get? b = none ∧ b ∉ frs outer) (hok : HOk P w H' s'.heap) (hg : AllBare s'.gens) (hz : base.objs.size ≤ s'.heap.objs.size) : Env0 P w K mg base A outer s' H' := by
  have nch : ∀ b o, base.get? b = some o → b ∉ ch := fun b o q z => by
    rw [(hch b z).1] at q
    cases q
  have nfr : ∀ b o, base.get? b = some o → b ∉ frs outer := fun b o q z => by
    rw [(e.funs.mem z).1] at q
    cases q
  refine ⟨e.frames, e.mod, fun b o q => ?_, hz, funs_un u outer (fun b hb => ⟨hb, e.frf b hb, fun z => (hch b z).2 hb⟩) e.funs, fun b hb => ?_, hok, hg⟩
  · obtain ⟨h1, h2⟩ := e.bs b o q
    exact ⟨u.keep b o h1 h2 (nfr b o q) (nch b o q), u.free b o h1 h2 (nch b o q)⟩
  · obtain ⟨_, o, ho, _⟩ := e.funs.mem hb
    exact u.free b o ho (e.frf b hb) fun z => (hch b z).2 hb
structure LamScope (scope : Scope) (x y : Str) : Prop where
  kind : scope.kind = .function
  co : scope.isCoroutine = false
  gen : scope.isGenerator = false
  nocell : ∀ z ∈ scope.names, z.2 ≠ .cell
  loc : scope.names.lookup x = some .local
  fre : scope.names.lookup y = some .free
  one : ∀ z, (z, NameKind.free) ∈ scope.names → z = y
def cxLam (P : Program) (w : World) (K : PySem.W.Frag) (mg : Str → Option Value) (base : Heap) (x y qual : Str) (scope : Scope) (f c' cw : Addr) (A : Around) (outer : List Env) (s : Shared) (H : Hp) : Cx where
  prog := P
  w := w
  K := K
  mg := mg
  base := base
  A := A.deeper (PySem.W.envX qual scope s.heap.objs.size f (.ref c') [(y, cw)])
  N := [x, y]
  s₀ := s
  H₀ := H
  env := PySem.W.envX qual scope s.heap.objs.size f (.ref c') [(y, cw)]
  outer := outer
  stack := PySem.W.envX qual scope s.heap.objs.size f (.ref c') [(y, cw)] :: outer
  ex := []
  fn := fun _ => false
  calm := true
  pn := []
  xe := fun _ _ => False
theorem lam_run {P : Program} {w : World} {K : PySem.W.Frag} {mg : Str → Option Value} {base : Heap} {x y qual : Str} {scope : Scope} {params : Arguments} {body : Expr} {f c' cw : Addr} {A : Around} {outer : List Env} {s : Shared} {H : Hp} {pm ctv u uw : Value} {v vw : V} {k : Nat} {te : TE} {Q : VK} {E : XK}
    (hr : Room (k + 1) A) (e0 : Env0 P w K mg base A outer s H) (ho : s.heap.get? f = some (PySem.W.kla_obj "<lambda>" qual params body scope [(y, cw)] pm c' ctv)) (hcd : s.heap.CodeRec (.ref c') qual) (hce : s.heap.IsCell cw (some uw)) (hcn : H cw = none) (rw_ : RelV vw uw) (rv : RelV v u) (S : LamScope scope x y)
    (hbind : bindArgs (PySem.W.kla_fn "<lambda>" qual params body scope [(y, cw)] pm (.ref c') ctv) ⟨[u], []⟩ = pure [(x, u)])
    (ht : PE (cxLam P w K mg base x y qual scope f c' cw A outer s H) body te) (hq : te [some v, some vw] H Q) :
    codeAny (model P w) A (.call (.ref f) ⟨[u], []⟩) (CR CX0 outer P w H s Q E) s := by
  have lim : s.heap.NoLimit := e0.mod.nolimit.keeps fun b o e => (e0.bs b o e).1
  refine PySem.W.kla_callFunE hr.depth ho rfl S.co S.gen rfl hcd ?_
  rw [hbind]
  refine wpAny_pure (wpAny_newFunctionEnv S.nocell (fun z hz => ?_) (fun h₁ hns hsb => ⟨lim.fresh _ hsb, ?_⟩) S.kind)
  · rw [List.mem_singleton.mp hz]
    exact S.loc
  have hk : ∀ b o, s.heap.get? b = some o → h₁.get? b = some o := fun b o e => hsb.extBut b o (Nat.ne_of_lt (Heap.lt_size e)) (Heap.get?_push_of_some _ e)
  have noA : ∀ b : Addr, b ∉ (cxLam P w K mg base x y qual scope f c' cw A outer s H).ex := fun b z => absurd (show b ∈ ([] : List Addr) from z) (by simp)
  have one : ∀ z c, (cxLam P w K mg base x y qual scope f c' cw A outer s H).env.cells.lookup z = some c → z = y ∧ c = cw := fun z c e => by
    have e : ([(y, cw)] : List (Str × Addr)).lookup z = some c := e
    rw [List.lookup_cons] at e
    cases q : z == y with
    | true => rw [q] at e; exact ⟨eq_of_beq q, (Option.some.inj e).symm⟩
    | false => rw [q] at e; cases e
  have look : (cxLam P w K mg base x y qual scope f c' cw A outer s H).env.cells.lookup y = some cw := by
    show ([(y, cw)] : List (Str × Addr)).lookup y = some cw
    rw [List.lookup_cons, beq_self_eq_true]
  have I : Inv (cxLam P w K mg base x y qual scope f c' cw A outer s H) [] [some v, some vw] H { s with heap := h₁, toks := s.toks + ([(x, u)] : List (Str × Value)).length } := by
    refine ⟨⟨e0.mod, S.kind, rfl, rfl, Nat.le_refl _, fun z z' c h1 h2 => ?_, fun z hz => ?_, fun z c h _ => ?_, fun _ => hr.hd, Around.frames_deeper e0.frames, .inr ⟨rfl, rfl⟩, fun b z => absurd z (noA b), e0.bs, e0.bsz, fun b _ _ => noA b, fun b z => absurd z (noA b), e0.funs, e0.frf⟩,
      rfl, e0.bare, Un.kept hk, ⟨_, hns, fun i z v' h1 h2 h3 => ?_⟩, fun z c h => ?_, e0.hok.fresh (Nat.le_refl _), fun z c h => ?_, fun p hp => absurd (show p ∈ ([] : List (Addr × Obj)) from hp) (by simp), e0.hok.kept hk, rfl⟩
    · rw [(one z c h1).1, (one z' c h2).1]
    · have hz : scope.names.lookup z = some .cell ∨ scope.names.lookup z = some .free := hz
      rcases hz with hz | hz
      · exact absurd rfl (S.nocell _ (PySem.mem_of_lookup hz))
      · rw [S.one z (PySem.mem_of_lookup hz)]
        exact ⟨cw, look⟩
    · cases h
    · match i, h1, h2 with
      | 0, h1, h2 =>
        have h1 : some x = some z := h1
        have h2 : some (some v) = some (some v') := h2
        cases h1
        cases h2
        exact ⟨u, rv, .inl ⟨S.loc, by simp [List.lookup_cons]⟩⟩
      | 1, h1, h2 =>
        have h1 : some y = some z := h1
        have h2 : some (some vw) = some (some v') := h2
        cases h1
        cases h2
        obtain ⟨o, e1, e2⟩ := hce
        exact ⟨uw, rw_, .inr ⟨.inr S.fre, cw, look, o, hk _ _ e1, e2⟩⟩
      | i + 2, h1, _ => cases (show ([] : List Str)[i]? = some z from h1)
    · obtain ⟨_, rfl⟩ := one z c h
      obtain ⟨o, e1, e2⟩ := hce
      exact ⟨_, o, hk _ _ e1, e2⟩
    · obtain ⟨_, rfl⟩ := one z c h
      exact hcn
  refine PySem.W.kla_codeExpr (wpAny_mono (ht [] _ _ H Q I hq) (fun u' s' ⟨v', H', J, r, q⟩ => ?_) fun _ _ z => False.elim z)
  exact ⟨v', H', J.os, J.bare, J.base, J.hok, r, q⟩
end L2
end
section
set_option maxHeartbeats 4000000
namespace L2
open PySem PySem.Spec PyProof.Rows
theorem perm_map_inv {α β : Type} {g : α → β} {m n : List β} (h : m.Perm n) : ∀ {l : List α}, n = l.map g → ∃ l' : List α, l'.Perm l ∧ m = l'.map g := by
  induction h with
  | nil =>
    intro l e
    have : l = [] := List.map_eq_nil_iff.mp e.symm
    subst this
    exact ⟨[], .nil, rfl⟩
  | @cons x a b _ ih =>
    intro l e
    match l, e with
    | y :: l, e =>
      rw [List.map_cons] at e
      injection e with e1 e2
      obtain ⟨l', p, rfl⟩ := ih e2
      exact ⟨y :: l', .cons y p, by rw [List.map_cons, e1]⟩
  | swap x y a =>
    intro l e
    match l, e with
    | u :: v :: l, e =>
      rw [List.map_cons, List.map_cons] at e
      injection e with e1 e2
      injection e2 with e2 e3
      exact ⟨v :: u :: l, .swap u v l, by rw [List.map_cons, List.map_cons, e1, e2, e3]⟩
    | [u], e => simp at e
  | trans _ _ ih1 ih2 =>
    intro l e
    obtain ⟨l2, p2, e2⟩ := ih2 e
    obtain ⟨l1, p1, e1⟩ := ih1 e2
    exact ⟨l1, p1.trans p2, e1⟩
def ntab : HO → Bool
  | .tbl _ => false
  | .own _ => false
  | _ => true
def tSortK (K : PySem.W.Frag) (iy : Nat) (ta : TA) (te : TE) : TE := fun σ H Q => ta σ H fun vs H1 => ∃ (l : Addr) (as : List Addr) (vw : V) (kz : List Int), vs = [.ref l] ∧ SqL K H1 l (as.map V.ref) ∧ as.length < 64 ∧ kz.length = as.length ∧ σ[iy]? = some (some vw) ∧
  (∀ (i : Nat) (a : Addr) (k : Int), as[i]? = some a → kz[i]? = some k → ∀ H2 : Hp, (∀ b o, H1 b = some o → ntab o = true → H2 b = some o) → te [some (.ref a), some vw] H2 fun v H3 => v = .int k ∧ ∀ b, H2 b ≠ none → H3 b = H2 b) ∧
  ∀ (D : Addr) (l' : List (Int × Addr)) (H2 : Hp), (∀ b, H1 b ≠ none → H2 b = H1 b) → H2 D = none → l'.Perm (kz.zip as) → l'.Pairwise (fun p q => p.1 ≤ q.1) → Q (.ref D) (upd H2 D (.lst (l'.map fun p => V.ref p.2)))
section
variable {X : Cx} {pins : List (Addr × Obj)} {σ : St} {H : Hp} {s : Shared}
theorem Inv.notFr (I : Inv X pins σ H s) {a : Addr} (h : s.heap.objs.size ≤ a) : a ∉ frs X.stack := fun z => by
  rcases List.mem_cons.mp (I.stkSub a z) with e | e
  · have := I.lt
    rw [← e] at this
    exact absurd (Nat.lt_of_lt_of_le this h) (Nat.lt_irrefl _)
  · exact I.nofs h e
theorem sort_key {x y qual : Str} {scope : Scope} {params : Arguments} {body : Expr} {f c' cw P l : Addr} {pm ctv uw : Value} {vw : V} {k : Nat} {te : TE} {ps : Array Value} {as : List Addr} {kz : List Int} {Q : Value → Shared → Prop} {E : Value → Shared → Prop}
    (I : Inv X pins σ H s) (hr : Room (k + 3) X.A) (hT : H P = some (.tbl ps)) (hfn : H f = none) (hff : f ∉ frs X.stack) (ho : s.heap.get? f = some (PySem.W.kla_obj "<lambda>" qual params body scope [(y, cw)] pm c' ctv)) (hcd : s.heap.CodeRec (.ref c') qual) (hc' : H c' = some (.own P))
    (hce : s.heap.IsCell cw (some uw)) (hcn : H cw = none) (rw_ : RelV vw uw) (S : LamScope scope x y)
    (hbind : ∀ u, bindArgs (PySem.W.kla_fn "<lambda>" qual params body scope [(y, cw)] pm (.ref c') ctv) ⟨[u], []⟩ = pure [(x, u)])
    (hl : s.heap.IsList l (as.map Value.ref).toArray) (h64 : as.length < 64) (hlen : kz.length = as.length)
    (ht : ∀ (A : Around) (s : Shared) (H : Hp), Room k (A.deeper (PySem.W.envX qual scope s.heap.objs.size f (.ref c') [(y, cw)])) → PE (cxLam X.prog X.w X.K X.mg X.base x y qual scope f c' cw A X.stack s H) body te)
    (hk : ∀ (i : Nat) (a : Addr) (k : Int), as[i]? = some a → kz[i]? = some k → ∀ H2 : Hp, (∀ b, unt H P b ≠ none → H2 b = unt H P b) → te [some (.ref a), some vw] H2 fun v H3 => v = .int k ∧ ∀ b, H2 b ≠ none → H3 b = H2 b)
    (fin : ∀ (D : Addr) (l' : List (Int × Addr)) (H2 : Hp) (s' : Shared), (∀ b, H b ≠ none → H2 b = H b) → H2 D = none → Inv X pins σ (upd H2 D (.lst (l'.map fun p => V.ref p.2))) s' → l'.Perm (kz.zip as) → l'.Pairwise (fun p q => p.1 ≤ q.1) → Q (.ref D) s') :
    wpAny (model X.prog X.w) X.A (call (.builtin "sorted") [.ref l] [(Str.ofString "key", .ref f)]) Q E s := by
  have hsz0 : (as.map Value.ref).length < 64 := by rw [List.length_map]; exact h64
  have line : 64 ≤ sizeLine := by rw [sizeLine_eq]; decide
  -- the table and its codes out of sight
  have hokU := unt_ok I.hok hT
  have stF : ∀ b ∈ frs X.stack, unt H P b = none := fun b hb => unt_none (I.stkFree b hb)
  have eU : ∀ {A : Around}, A.frames = some X.stack → Env0 X.prog X.w X.K X.mg X.base A X.stack s (unt H P) := fun hA =>
    ⟨hA, I.ok.mod, fun b o q => ⟨(I.bs b o q).1, unt_none (I.bs b o q).2⟩, Nat.le_trans I.ok.bsz I.sz, I.stack, stF, hokU, I.bare⟩
  have frA : X.A.in1.in1.frames = some X.stack := I.ok.frames
  obtain ⟨mL, hmL, _⟩ := id I.loc
  obtain ⟨oL, esL, epL, hoL, hdL, rL⟩ := id hmL
  have hLf : unt H P X.env.locals = none := unt_none I.free
  refine call_function_entry_kw kind_sorted plain_sorted entry_sorted (ksk_s1 _ _) ?_
  unfold Builtin.«sorted»
  refine wpAny_bind (m := checkCount "sorted" 1 1 _) (wpAny_pure (wpAny_bind (collect_list hl ?_ (Nat.le_trans (Nat.le_of_lt hsz0) line))))
  refine wpAny_bind (wpAny_newList ?_ (Nat.le_trans (Nat.le_of_lt hsz0) line))
  have keepA : ∀ b o, s.heap.get? b = some o → ((s.heap.push (seqObj "list" #[] 0)).update s.heap.objs.size (Obj.mapSeq (· ++ (as.map Value.ref).toArray))).get? b = some o := fun b o q => by
    have n : b ≠ s.heap.objs.size := Nat.ne_of_lt (Heap.lt_size q)
    rw [Heap.get?_update_ne _ _ _ _ n]
    exact Heap.get?_push_of_some _ q
  have sizeA : s.heap.objs.size ≤ ((s.heap.push (seqObj "list" #[] 0)).update s.heap.objs.size (Obj.mapSeq (· ++ (as.map Value.ref).toArray))).objs.size := by
    rw [Heap.size_update, Heap.size_push]
    exact Nat.le_succ _
  dsimp only
  generalize (s.heap.push (seqObj "list" #[] 0)).update s.heap.objs.size (Obj.mapSeq (· ++ (as.map Value.ref).toArray)) = hA at keepA sizeA ⊢
  generalize hD : hA.objs.size = D at sizeA ⊢
  have oD : (hA.push (seqObj "list" (as.map Value.ref).toArray 0)).get? D = some (seqObj "list" (as.map Value.ref).toArray 0) := by rw [← hD]; exact Heap.get?_push_size _ rfl
  have keepB : ∀ b o, s.heap.get? b = some o → (hA.push (seqObj "list" (as.map Value.ref).toArray 0)).get? b = some o := fun b o q => Heap.get?_push_of_some _ (keepA b o q)
  refine wpAny_bind (wpAny_holding (wpAny_call_entry_kw slot_list_sort ⟨_, oD, rfl⟩ entry_list_sort ?_ (ksk_l1 _ _)))
  rw [ksk_t1]
  show wpAny (model X.prog X.w) X.A.in1.in1 (ksk_tree D (.ref f) false) _ _ { s with heap := hA.push (seqObj "list" (as.map Value.ref).toArray 0) }
  have sizeB : (hA.push (seqObj "list" (as.map Value.ref).toArray 0)).objs.size = D + 1 := by rw [Heap.size_push, hD]
  generalize hA.push (seqObj "list" (as.map Value.ref).toArray 0) = hB at oD keepB sizeB ⊢
  clear keepA hD hA
  unfold ksk_tree
  refine wpAny_bind (listItems_at oD rfl (wpAny_bind (listUpdate_at oD rfl ?_ (by rw [List.size_toArray]; exact Nat.le_trans (Nat.le_of_lt hsz0) line) (Nat.zero_le _))))
  obtain ⟨e1, oD1⟩ : ∃ e1, (hB.update D (Obj.mapSeq fun _ => (#[] : Array Value))).get? D = some (seqObj "list" #[] e1) := ⟨_, get?_update_seq oD fun _ => #[]⟩
  have keepC : ∀ b o, s.heap.get? b = some o → (hB.update D (Obj.mapSeq fun _ => (#[] : Array Value))).get? b = some o := fun b o q => by
    rw [Heap.get?_update_ne _ _ _ _ (Nat.ne_of_lt (Nat.lt_of_lt_of_le (Heap.lt_size q) sizeA))]
    exact keepB b o q
  have sizeC : (hB.update D (Obj.mapSeq fun _ => (#[] : Array Value))).objs.size = D + 1 := by rw [Heap.size_update, sizeB]
  dsimp only
  generalize hB.update D (Obj.mapSeq fun _ => (#[] : Array Value)) = hC at oD1 keepC sizeC ⊢
  clear oD keepB sizeB hB
  refine wpAny_bind (seqEpoch_at oD1 rfl (wpAny_bind (wpAny_newTuple (wpAny_bind (wpAny_newList (wpAny_holding ?_) (Nat.zero_le _))) (by show (as.map Value.ref).length ≤ _; exact Nat.le_trans (Nat.le_of_lt hsz0) line))))
  dsimp only
  have sizeD : (hC.push { cls := .type "tuple", data := .seq (as.map Value.ref).toArray }).objs.size = D + 2 := by rw [Heap.size_push, sizeC]
  rw [sizeD]
  have nDK : D + 2 ≠ D := by omega
  have oK : ((hC.push { cls := .type "tuple", data := .seq (as.map Value.ref).toArray }).push { cls := .type "list", data := .seq #[] }).get? (D + 2) = some (seqObj "list" #[] 0) := by rw [← sizeD]; exact Heap.get?_push_size _ rfl
  have oD2 : ((hC.push { cls := .type "tuple", data := .seq (as.map Value.ref).toArray }).push { cls := .type "list", data := .seq #[] }).get? D = some (seqObj "list" #[] e1) := Heap.get?_push_of_some _ (Heap.get?_push_of_some _ oD1)
  have keepF : ∀ b o, s.heap.get? b = some o → ((hC.push { cls := .type "tuple", data := .seq (as.map Value.ref).toArray }).push { cls := .type "list", data := .seq #[] }).get? b = some o := fun b o q => Heap.get?_push_of_some _ (Heap.get?_push_of_some _ (keepC b o q))
  generalize (hC.push { cls := .type "tuple", data := .seq (as.map Value.ref).toArray }).push { cls := .type "list", data := .seq #[] } = hF at oK oD2 keepF ⊢
  clear sizeD keepC sizeC oD1 hC
  have sizeK : s.heap.objs.size ≤ D + 2 := Nat.le_trans sizeA (Nat.le_add_right _ _)
  generalize D + 2 = kS at oK nDK sizeK ⊢
  have ltS : ∀ {b : Addr} {o : Obj}, s.heap.get? b = some o → b ≠ D ∧ b ≠ kS := fun q => ⟨Nat.ne_of_lt (Nat.lt_of_lt_of_le (Heap.lt_size q) sizeA), Nat.ne_of_lt (Nat.lt_of_lt_of_le (Heap.lt_size q) sizeK)⟩
  have bsN : ∀ {a : Addr}, s.heap.objs.size ≤ a → X.base.get? a = none := fun h => Heap.get?_none_of_le (Nat.le_trans (Nat.le_trans I.ok.bsz I.sz) h)
  have bL : X.base.objs.size ≤ X.env.locals := Nat.le_trans I.ok.bsz I.ok.above
  have nfD : D ∉ frs X.stack := I.notFr sizeA
  have nfK : kS ∉ frs X.stack := I.notFr sizeK
  have nfT : ∀ b, H b ≠ none → b ∉ frs X.stack := fun b h z => h (I.stkFree b z)
  have szU : ∀ {H' : Hp} {h' : Heap}, Un (frs X.stack) [] (unt H P) H' s.heap h' → X.base.objs.size ≤ h'.objs.size := fun u => by
    obtain ⟨o', e'⟩ := u.there _ _ hoL (by simp)
    exact Nat.le_trans bL (Nat.le_of_lt (Heap.lt_size e'))
  have unF : Un (frs X.stack) [] (unt H P) (unt H P) s.heap hF := Un.kept keepF
  unfold ksk_rest
  refine wpAny_bind (wpAny_rule ?_)
  rw [List.forIn_toArray]
  refine wpAny_bind (ksk_fold (fun i s' => ∃ H' kA e, Env0 X.prog X.w X.K X.mg X.base X.A.in1.in1 X.stack s' H' ∧ Un (frs X.stack) [] (unt H P) H' s.heap s'.heap ∧ (∀ b, unt H P b ≠ none → H' b = unt H P b) ∧ s'.os = s.os ∧
      (H' D = none ∧ s'.heap.get? D = some (seqObj "list" #[] e1)) ∧ (H' kS = none ∧ s'.heap.get? kS = some (seqObj "list" kA e)) ∧ IntsAre kA.toList (kz.take i)) (as.map Value.ref) 0 _
    ⟨unt H P, #[], 0, (eU frA).next (s' := { s with heap := hF }) unF (fun b hb => absurd hb (by simp)) (hokU.kept keepF) I.bare (szU unF), unF, fun _ _ => rfl, rfl, ⟨unt_none (I.hok.fresh sizeA), oD2⟩, ⟨unt_none (I.hok.fresh sizeK), oK⟩, by simpa using IntsAre.nil⟩ ?_ ?_)
  · rintro j x' s' hx ⟨H', kA, e, e0, un, gr, os, ⟨hDn, hDo⟩, ⟨hKn, hKo⟩, hi⟩
    simp only [Nat.zero_add] at hi ⊢
    rw [List.getElem?_map] at hx
    obtain ⟨a, ha, rfl⟩ := Option.map_eq_some_iff.mp hx
    have hj : j < as.length := (List.getElem?_eq_some_iff.mp ha).1
    obtain ⟨z, hz⟩ : ∃ z, kz[j]? = some z := ⟨_, List.getElem?_eq_getElem (by omega)⟩
    have hzl : kA.size ≤ 64 := by
      have h1 := hi.length
      rw [Array.length_toList, List.length_take] at h1
      omega
    have ho' := un.keep f _ ho (unt_none hfn) hff (by simp)
    have hcd' : s'.heap.CodeRec (.ref c') qual := by
      obtain ⟨c2, oc, vs, tq, ec, q1, q2⟩ := hcd
      cases ec
      exact ⟨c', oc, vs, tq, rfl, un.keep c' oc q1 (unt_gone (.inr hc')) (nfT c' (by rw [hc']; simp)) (by simp), q2⟩
    have hce' : s'.heap.IsCell cw (some uw) ∧ H' cw = none := by
      obtain ⟨oc, q1, q2⟩ := hce
      obtain ⟨sl, q3⟩ := un.any q1 (unt_none hcn) (by simp)
      exact ⟨⟨_, q3, q2⟩, un.free cw oc q1 (unt_none hcn) (by simp)⟩
    have run : wpAny (model X.prog X.w) X.A.in1.in1 (call (.ref f) [.ref a]) (CE X.stack X.prog X.w H' s' fun v H3 => v = .int z ∧ ∀ b, H' b ≠ none → H3 b = H' b) (fun _ _ => False) s' := by
      refine wpAny_call (codeAny_mono (lam_run (E := fun _ _ _ => False) hr.in1.in1 e0 ho' hcd' hce'.1 hce'.2 rw_ (show RelV (V.ref a) (Value.ref a) from rfl) S (hbind _) (ht X.A.in1.in1 s' H' (hr.in1.in1.deeper _)) (hk j a z ha hz H' gr)) fun r s'' hq => ?_)
      cases r with
      | error e => exact False.elim hq
      | ok fl =>
        cases fl with
        | ret u => exact hq
        | next => exact False.elim hq
        | brk => exact False.elim hq
        | cont => exact False.elim hq
    refine wpAny_bind (wpAny_attempt (wpAny_mono run (fun u s'' hq => ?_) fun _ _ hF => hF.elim))
    obtain ⟨v, H2, os2, bare2, un2, hok2, rr, rfl, gr2⟩ := hq
    obtain ⟨t, rfl⟩ := rr
    have unn := un.trans un2
    have hDo2 := un2.keep D _ hDo hDn nfD (by simp)
    have hDn2 := un2.free D _ hDo hDn (by simp)
    have hKo2 := un2.keep kS _ hKo hKn nfK (by simp)
    have hKn2 := un2.free kS _ hKo hKn (by simp)
    have e2 := e0.next un2 (fun b hb => absurd hb (by simp)) hok2 bare2 (szU unn)
    have upd3 : ∀ b, b ≠ kS → (s''.heap.update kS (Obj.mapSeq (·.push (.int z t)))).get? b = s''.heap.get? b := fun b hb => Heap.get?_update_ne _ _ _ _ hb
    obtain ⟨c2, hc2⟩ : ∃ c2, (s''.heap.update kS (Obj.mapSeq (·.push (.int z t)))).get? kS = some (seqObj "list" (kA.push (.int z t)) c2) := ⟨_, get?_update_seq hKo2 (·.push (.int z t))⟩
    dsimp only
    refine wpAny_bind (listUpdate_at hKo2 rfl ?_ (Nat.le_trans hzl line) (Nat.le_trans (Nat.le_of_eq (Array.size_push ..)) (Nat.succ_le_succ (Nat.le_trans hzl line))))
    generalize s''.heap.update kS (Obj.mapSeq (·.push (.int z t))) = h3 at upd3 hc2 ⊢
    have un3 : Un (frs X.stack) [kS] H2 H2 s''.heap h3 := by
      have nk : ∀ b, b ∉ [kS] → b ≠ kS := fun b hb z => hb (by simp [z])
      exact ⟨fun b o q _ _ hb => by rw [upd3 b (nk b hb)]; exact q, fun b o q _ _ hb => ⟨o.slots, by rw [upd3 b (nk b hb)]; exact q⟩, fun _ _ _ n _ => n, fun b o q hb => ⟨o, by rw [upd3 b (nk b hb)]; exact q⟩, fun _ _ q => q, fun _ _ _ q => q, fun b ps q => ⟨#[], by rw [q]; simp⟩⟩
    have unS : Un (frs X.stack) [] (unt H P) H2 s.heap h3 := by
      refine ⟨fun b o q n h1 h2 => ?_, fun b o q n h1 h2 => ?_, unn.free, fun b o q h2 => ?_, unn.tups, unn.frzs, unn.tbls⟩
      · rw [upd3 b (ltS q).2]; exact unn.keep b o q n h1 h2
      · rw [upd3 b (ltS q).2]; exact unn.slot b o q n h1 h2
      · rw [upd3 b (ltS q).2]; exact unn.there b o q h2
    have hok3 : HOk X.prog X.w H2 h3 := fun b u q => (hok2 b u q).stay (fun c v hc q2 => by
      rw [upd3 c]
      · exact q2
      · rintro rfl
        rcases hc with z' | z'
        · rw [← z', hKn2] at q; cases q
        · rw [hKn2] at z'; cases z') (fun _ q => q) fun _ _ q => q
    have ek : kz.take (j + 1) = kz.take j ++ [z] := by rw [List.take_add_one, hz]; rfl
    refine wpAny_pure ⟨rfl, H2, kA.push (.int z t), c2, e2.next (s' := { s'' with heap := h3 }) un3 (fun b hb => ?_) hok3 bare2 (szU unS), unS, fun b hb => ?_, os2.trans os, ⟨hDn2, ?_⟩, ⟨hKn2, hc2⟩, ?_⟩
    · rw [List.mem_singleton.mp hb]
      exact ⟨bsN sizeK, nfK⟩
    · have g1 := gr b hb
      rw [gr2 b (by rw [g1]; exact hb), g1]
    · rw [upd3 D nDK.symm]; exact hDo2
    · rw [ek, Array.toList_push]
      exact ksk_snoc hi
  · rintro s' ⟨H', kA, e, e0, un, gr, os, ⟨hDn, hDo⟩, ⟨hKn, hKo⟩, hi⟩
    rw [List.length_map, Nat.zero_add, List.take_of_length_le (Nat.le_of_eq hlen)] at hi
    have nIn : ∀ b, (b = P ∨ H b = some (.own P)) → H b ≠ none := fun b hb => by
      rcases hb with z | z
      · rw [z, hT]; simp
      · rw [z]; simp
    have hokR : HOk X.prog X.w (ret H P H') s'.heap := ret_ok I.hok hT e0.hok fun b o hb q => ⟨un.keep b o q (unt_gone hb) (nfT b (nIn b hb)) (by simp), un.free b o q (unt_gone hb) (by simp)⟩
    have outN : ∀ b, H b = none → ret H P H' b = H' b := fun b n => ret_out (fun z => by rw [z, hT] at n; cases n) (fun z => by rw [n] at z; cases z)
    have outK : ∀ b o, H b = some o → ntab o = true → ret H P H' b = H' b ∧ unt H P b = some o := fun b o q nt => by
      have h1 : b ≠ P := fun z => by rw [z, hT] at q; cases q; cases nt
      have h2 : H b ≠ some (.own P) := fun z => by rw [z] at q; cases q; cases nt
      exact ⟨ret_out h1 h2, by rw [unt_of h1 h2]; exact q⟩
    have unR : Un (frs X.stack) [] H (ret H P H') s.heap s'.heap := by
      refine ⟨fun b o q n h1 h2 => un.keep b o q (unt_none n) h1 h2, fun b o q n h1 h2 => un.slot b o q (unt_none n) h1 h2, fun b o q n h2 => by rw [outN b n]; exact un.free b o q (unt_none n) h2, un.there, fun b xs q => ?_, fun b o u q => ?_, fun b qs q => ?_⟩
      · obtain ⟨r1, r2⟩ := outK b _ q rfl
        rw [r1]; exact un.tups b xs r2
      · obtain ⟨r1, r2⟩ := outK b _ q rfl
        rw [r1]; exact un.frzs b o u r2
      · by_cases hb : b = P
        · exact ⟨#[], by rw [ret_in (.inl hb), q]; simp⟩
        · have h2 : H b ≠ some (.own P) := fun z => by rw [z] at q; cases q
          obtain ⟨more, r⟩ := un.tbls b qs (by rw [unt_of hb h2]; exact q)
          exact ⟨more, by rw [ret_out hb h2]; exact r⟩
    have I1 : Inv X pins σ (ret H P H') s' := I.call' os unR hokR e0.bare fun b z => absurd z (by simp)
    have grR : ∀ b, H b ≠ none → ret H P H' b = H b := fun b hb => by
      by_cases hc : b = P ∨ H b = some (.own P)
      · exact ret_in hc
      · have h1 : b ≠ P := fun z => hc (.inl z)
        have h2 : H b ≠ some (.own P) := fun z => hc (.inr z)
        rw [ret_out h1 h2, gr b (by rw [unt_of h1 h2]; exact hb), unt_of h1 h2]
    have hRD : ret H P H' D = none := by rw [outN D (I.hok.fresh sizeA)]; exact hDn
    have hRK : ret H P H' kS = none := by rw [outN kS (I.hok.fresh sizeK)]; exact hKn
    have nL : ∀ {a : Addr}, s.heap.objs.size ≤ a → a ≠ X.env.locals := fun h => Nat.ne_of_gt (Nat.lt_of_lt_of_le I.lt h)
    obtain ⟨m, F⟩ := I1.fr
    have nw : ∀ p ∈ (allNews X.base s'.heap X.env.locals).filter (fun p => decide (p.1 ≠ D ∧ p.1 ≠ kS)), p.1 ≠ D ∧ p.1 ≠ kS := fun p hp => of_decide_eq_true (List.mem_filter.mp hp).2
    refine wpAny_bind (listItems_at hKo rfl ?_)
    refine ksk_end_ (e := e) (h₀ := X.base) (L := X.env.locals) (m := m) (news := (allNews X.base s'.heap X.env.locals).filter (fun p => decide (p.1 ≠ D ∧ p.1 ≠ kS))) (kz := kz) (vs := as.map Value.ref) F (fun p hp => ?_) nDK (fun p hp => (nw p hp).2) (fun p hp => (nw p hp).1) hi (by rw [List.length_map]; exact hlen) hsz0 fun h' tk out c F' N' ko => ⟨.none, rfl, wpAny_pure ⟨.ref D, rfl, ?_⟩⟩
    · rcases List.mem_append.mp hp with hp | hp
      · exact news_all p (List.mem_filter.mp hp).1
      · rcases List.mem_cons.mp hp with hp | hp
        · subst hp; exact ⟨hKo, nL sizeK, bsN sizeK⟩
        · rw [List.mem_singleton.mp hp]; exact ⟨hDo, nL sizeA, bsN sizeA⟩
    have kp : ∀ b o, b ≠ X.env.locals → b ≠ D → b ≠ kS → s'.heap.get? b = some o → h'.get? b = some o := fun b o h1 h2 h3 q => by
      cases z : X.base.get? b with
      | some u =>
        have := I1.bk b u z
        rw [q] at this
        cases this
        exact F'.keep b _ z
      | none => exact (N' (b, o) (List.mem_cons_of_mem _ (List.mem_filter.mpr ⟨mem_allNews h1 z q, decide_eq_true ⟨h2, h3⟩⟩))).1
    have tr : ∀ b u, ret H P H' b = some u → b ≠ X.env.locals ∧ b ≠ D ∧ b ≠ kS := fun b u q => ⟨ne_of_none q I1.free, ne_of_none q hRD, ne_of_none q hRK⟩
    have chOk : ∀ a, s.heap.objs.size ≤ a → (a ∈ X.ex ∨ X.s₀.heap.objs.size ≤ a) ∧ a ≠ X.env.locals ∧ (∀ x c, X.env.cells.lookup x = some c → c ≠ a) ∧ ∀ p ∈ X.pn ++ pins, p.1 ≠ a := fun a ha => by
      refine ⟨.inr (Nat.le_trans I.sz ha), nL ha, fun x c q => ?_, fun p hp => ?_⟩
      · obtain ⟨v, o, q1, _⟩ := I.cell x c q
        exact Nat.ne_of_lt (Nat.lt_of_lt_of_le (Heap.lt_size q1) ha)
      · exact Nat.ne_of_lt (Nat.lt_of_lt_of_le (Heap.lt_size (I.pin p hp).1) ha)
    have I2 : Inv X pins σ (ret H P H') { s' with heap := h', toks := tk } := by
      refine I1.step (g' := s'.gens) (d' := s'.drawn) (ch := [D, kS]) (fun b hb => ?_) (fun b o h1 _ hc q _ => kp b o h1 (fun z => hc (by simp [z])) (fun z => hc (by simp [z])) q) (fun b o h1 _ hc q _ => ⟨o.slots, kp b o h1 (fun z => hc (by simp [z])) (fun z => hc (by simp [z])) q⟩) (fun _ _ _ _ n => n) (fun b o hc q => ?_) (fun _ _ q => q) (fun _ _ _ q => q) (fun b ps q => ⟨#[], by rw [q]; simp⟩) (fun m' hm' => ?_) (fun b u q => ?_) e0.bare
      · rcases List.mem_cons.mp hb with hb | hb
        · rw [hb]; exact chOk D sizeA
        · rw [List.mem_singleton.mp hb]; exact chOk kS sizeK
      · by_cases hb : b = X.env.locals
        · obtain ⟨o', _, _, ho', _⟩ := F'.ns
          exact ⟨o', by rw [hb]; exact ho'⟩
        · exact ⟨o, kp b o hb (fun z => hc (by simp [z])) (fun z => hc (by simp [z])) q⟩
      · have em : m' = m := by
          obtain ⟨o, es, ep, q1, q2, _, q3⟩ := F.ns
          obtain ⟨o2, es2, ep2, q4, q5, _, q6⟩ := hm'
          rw [q1] at q4; cases q4
          rw [q2] at q5; cases q5
          funext x
          rw [← q3 x, ← q6 x]
        rw [em]
        exact F'.ns
      · obtain ⟨t1, t2, t3⟩ := tr b u q
        refine (hokR b u q).stay (fun c v hc q2 => ?_) (fun _ q => q) fun _ _ q => q
        rcases hc with z | z
        · rw [z] at q2 ⊢; exact kp b v t1 t2 t3 q2
        · obtain ⟨y1, y2, y3⟩ := tr c _ z
          exact kp c v y1 y2 y3 q2
    obtain ⟨qs, qp, qo, qw⟩ := ko
    obtain ⟨l', pl, rfl⟩ := perm_map_inv qp (l := kz.zip as) (g := fun p => (p.1, Value.ref p.2)) (by rw [List.zip_map_right]; rfl)
    rw [List.map_map] at qo
    rw [List.pairwise_map] at qw
    have vl : ∀ l : List (Int × Addr), Vals (l.map fun p => V.ref p.2) (l.map (Prod.snd ∘ fun p => (p.1, Value.ref p.2))) := fun l => by
      induction l with
      | nil => exact .nil
      | cons p l ih => exact .cons rfl ih
    have hll : l'.length < 64 := by rw [pl.length_eq, List.length_zip]; omega
    have ND := (N' (D, _) List.mem_cons_self).1
    refine fin D l' (ret H P H') _ grR hRD (I2.track hRD (Nat.le_trans I.sz sizeA) (nL sizeA) (chOk D sizeA).2.2.1 (chOk D sizeA).2.2.2 ⟨by rw [List.length_map]; exact Nat.le_trans (Nat.le_of_lt hll) line, out.toList, c, ?_, ?_⟩) pl ?_
    · rw [qo]; exact vl l'
    · rw [Array.toArray_toList]; exact ND
    · exact qw.imp fun h => by simpa using h
end
end L2
end
section
set_option maxHeartbeats 4000000
namespace L2
open PySem PySem.Spec PyProof.Rows
def HasTab (H : Hp) (P : Addr) (q : Str) : Prop := ∃ ps t, H P = some (.tbl ps) ∧ ps[0]? = some (.str q t)
theorem Inv.tab {X : Cx} {pins : List (Addr × Obj)} {σ : St} {H : Hp} {s : Shared} {P : Addr} {q : Str} (I : Inv X pins σ H s) (h : HasTab X.H₀ P q) : HasTab H P q := by
  obtain ⟨ps, t, e, hq⟩ := h
  obtain ⟨more, e2⟩ := I.base.tbls P ps e
  refine ⟨_, t, e2, ?_⟩
  have hz : 0 < ps.size := (Array.getElem?_eq_some_iff.mp hq).1
  rw [Array.getElem?_append_left hz]
  exact hq
section
variable {X : Cx}
theorem pe_sortK {e : Expr} {p pos lpos kpos : Pos} {x y qual : Str} {scope : Scope} {params : Arguments} {body : Expr} {c P : Addr} {k iy : Nat} {ta : TA} {te : TE} (hr : Room (k + 3) X.A) (hg : Gl X "sorted") (hm : X.mg "sorted" = none) (hb : bootBuiltins "sorted" = some (.builtin "sorted"))
    (hcode : X.env.code = .ref c) (C : PySem.W.codeHdIn X.K c P = true) (hB : Bmod X.mg X.base) (hT : HasTab X.H₀ P qual) (hq : X.env.qual ++ "<lambda>" = qual) (S : LamScope scope x y) (hyN : X.N[iy]? = some y) (hyk : X.env.scope.names.lookup y = some .cell) (hdef : defaultsOf params X.env = ([], []))
    (hcl : ∀ cw, X.env.cells.lookup y = some cw → closureFor scope X.env = pure [(y, cw)])
    (hbind : ∀ (cw c' : Addr) (pm ctv u : Value), bindArgs (PySem.W.kla_fn "<lambda>" qual params body scope [(y, cw)] pm (.ref c') ctv) ⟨[u], []⟩ = pure [(x, u)]) (ha : PA X [e] ta)
    (ht : ∀ (f c' cw : Addr) (A : Around) (s : Shared) (H : Hp), Room k (A.deeper (PySem.W.envX qual scope s.heap.objs.size f (.ref c') [(y, cw)])) → PE (cxLam X.prog X.w X.K X.mg X.base x y qual scope f c' cw A X.stack s H) body te)
    (he : backTo pos (starEach [e] X.env) = (false, eval e X.env) :: backTo pos (starEach [] X.env) := by rfl) (hpl : (backTo pos (starEach [e] X.env)).any (·.1) = false := by rfl) :
    PE X (.Call (.Name "sorted" p) [e] [⟨some "key", .Lambda params body scope lpos, kpos⟩] pos) (tSortK X.K iy ta te) := by
  intro pins s σ H Q I h
  refine wpAny_Call_Name_kw (ld_blt I hg hm hb ?_)
  refine callWith_kw (thn (ha pos pins s σ H _ I h) fun us s1 ⟨vs, H1, I1, r1, q1⟩ => ?_) he hpl
  obtain ⟨l, as, vw, kz, rfl, hl, h64, hlen, hvw, hk, fin⟩ := q1
  obtain ⟨u, rfl, rx⟩ := vals1 r1
  cases rx
  obtain ⟨ps, t0, hT1, hq0⟩ := I1.tab hT
  obtain ⟨cw, hcw⟩ := I1.ok.has y (.inl hyk)
  refine kws_cons (PySem.W.kla_eval hdef ?_)
  rw [hq]
  refine mk_lam I1 hcode (PySem.W.codeHd_of_K I1.ok.mod.kin C) hB hT1 hq0 (hcl cw hcw) fun H' s' f c' ctv pm J gr hfn hsz ho hcd hc' => kws_nil ?_
  show wpAny _ _ (call (.builtin "sorted") [.ref l] [(Str.ofString "key", .ref f)]) _ _ s'
  have hT' : H' P = some (.tbl ps) := (gr P (by rw [hT1]; simp)).trans hT1
  have hl' : SqL X.K H' l (as.map V.ref) := by
    rcases hl with (h | ⟨o, h⟩) | h
    · exact .inl (.inl ((gr l (by rw [h]; simp)).trans h))
    · exact .inl (.inr ⟨o, (gr l (by rw [h]; simp)).trans h⟩)
    · exact .inr h
  obtain ⟨us, rv, pl, _⟩ := J.list hl'
  have eus := vals_refs rv
  subst eus
  obtain ⟨m, _, hloc⟩ := J.loc
  obtain ⟨uw, rw_, lk⟩ := hloc iy y vw hyN hvw (.inr (.inl hyk))
  have hce : s'.heap.IsCell cw (some uw) := by
    rcases lk with ⟨lk, _⟩ | ⟨_, c2, e2, ic⟩
    · have lk : X.env.scope.names.lookup y = some .local := lk
      rw [hyk] at lk
      cases lk
    · rw [hcw] at e2
      cases e2
      exact ic
  refine sort_key J hr hT' hfn (I1.notFr hsz) ho hcd hc' hce (J.freeC y cw hcw) rw_ S (fun u => hbind cw c' pm ctv u) pl.isList h64 hlen (fun A s H hr' => ht f c' cw A s H hr') (fun i a z e1 e2 H2 g2 => hk i a z e1 e2 H2 fun b o q nt => ?_) fun D l' H2 s2 g2 hD inv pm' pw => ?_
  · have q' : H' b = some o := (gr b (by rw [q]; simp)).trans q
    have h1 : b ≠ P := fun z => by rw [z, hT'] at q'; cases q'; cases nt
    have h2 : H' b ≠ some (.own P) := fun z => by rw [z] at q'; cases q'; cases nt
    have h3 := unt_of h1 h2
    rw [g2 b (by rw [h3, q']; simp), h3, q']
  · exact ⟨.ref D, _, inv, rfl, fin D l' H2 (fun b hb => (g2 b (by rw [gr b hb]; exact hb)).trans (gr b hb)) hD pm' pw⟩
end
end L2

namespace VL
open PySem L2
mutual
theorem Rep.nt {K : PySem.W.Frag} {N : AP} {F : FP} {H : Hp} {v : V} {d : D} : Rep K N F H v d → Rep K (fun a => ∃ o, H a = some o ∧ ntab o = true) F H v d
  | .int i => .int i
  | .bl i => .bl i
  | .non => .non
  | .str i => .str i
  | .ty i => .ty i
  | .tup n h r => .tup (by rcases h with h | ⟨o, h⟩ <;> exact ⟨_, h, rfl⟩) h (Reps.nt r)
  | .tupK h r => .tupK h (Reps.nt r)
  | .lst n f h r => .lst ⟨_, h, rfl⟩ f h (Reps.nt r)
  | .lstF n f h r => .lstF ⟨_, h, rfl⟩ f h (Reps.nt r)
  | .lstK f h r => .lstK f h (Reps.nt r)
  | .dic n f h e rk r => .dic ⟨_, h, rfl⟩ f h e (Reps.nt rk) (Reps.nt r)
  | .exc n h e => .exc ⟨_, h, rfl⟩ h e
theorem Reps.nt {K : PySem.W.Frag} {N : AP} {F : FP} {H : Hp} {vs : List V} {ds : List D} : Reps K N F H vs ds → Reps K (fun a => ∃ o, H a = some o ∧ ntab o = true) F H vs ds
  | .nil => .nil
  | .cons h t => .cons (Rep.nt h) (Reps.nt t)
end
theorem tups_pairs {K : PySem.W.Frag} {H : Hp} : ∀ {ps : List Addr} {mss : List (List Int)}, Tups K H ps mss → ∀ q ∈ mss.zip ps, SqT K H q.2 (q.1.map V.int)
  | _, _, .nil => fun q hq => nomatch hq
  | _, _, .cons h t => fun q hq => by
    rw [List.zip_cons_cons] at hq
    rcases List.mem_cons.mp hq with e | hq
    · rw [e]; exact h
    · exact tups_pairs t q hq
theorem pairs_tups {K : PySem.W.Frag} {H : Hp} : ∀ {l : List (List Int × Addr)}, (∀ q ∈ l, SqT K H q.2 (q.1.map V.int)) → Tups K H (l.map (·.2)) (l.map (·.1))
  | [], _ => .nil
  | q :: l, h => .cons (h q List.mem_cons_self) (pairs_tups fun p hp => h p (List.mem_cons_of_mem _ hp))
theorem tups_len {K : PySem.W.Frag} {H : Hp} {ps : List Addr} {mss : List (List Int)} (h : Tups K H ps mss) : ps.length = mss.length := Paired.length h
section
variable {K : PySem.W.Frag} {X : Cx}
def vSortK (iy : Nat) (vr : VTA) (tb : VT) : VTN := fun S Q => vr S fun rs S1 => ∃ (r : VR) (mss : List (List Int)) (dw : D) (key : List Int → Int), rs = [r] ∧ get S1 r = some (eL mss) ∧ mss.length < 64 ∧ S1[iy]? = some (.val dw) ∧ (∀ ms ∈ mss, tb [.val (eT ms), .val dw] fun r _ => r = .d (.int (key ms))) ∧
  ∀ out : List (List Int), out.Perm mss → out.Pairwise (fun a b => key a ≤ key b) → Q (out.map eT) S1
theorem vn_sortK {e : Expr} {p pos lpos kpos : Pos} {x y qual : Str} {scope : Scope} {params : Arguments} {body : Expr} {c P : Addr} {k iy : Nat} {tr : TA} {vr : VTA} {te : TE} {tb : VT} {m : Bool} (hK : X.K = K) (hr : Room (k + 3) X.A) (hg : Gl X "sorted") (hm : X.mg "sorted" = none)
    (hcode : X.env.code = .ref c) (C : PySem.W.codeHdIn X.K c P = true) (hB : Bmod X.mg X.base) (hT : HasTab X.H₀ P qual) (hq : X.env.qual ++ "<lambda>" = qual) (S : LamScope scope x y) (hyN : X.N[iy]? = some y) (hyk : X.env.scope.names.lookup y = some .cell) (hdef : defaultsOf params X.env = ([], []))
    (hcl : ∀ cw, X.env.cells.lookup y = some cw → closureFor scope X.env = pure [(y, cw)])
    (hbind : ∀ (cw c' : Addr) (pm ctv u : Value), bindArgs (PySem.W.kla_fn "<lambda>" qual params body scope [(y, cw)] pm (.ref c') ctv) ⟨[u], []⟩ = pure [(x, u)]) (ha : VA K X false [e] tr vr)
    (ht : ∀ (f c' cw : Addr) (A : Around) (s : Shared) (H : Hp), Room k (A.deeper (PySem.W.envX qual scope s.heap.objs.size f (.ref c') [(y, cw)])) → VE K (cxLam X.prog X.w X.K X.mg X.base x y qual scope f c' cw A X.stack s H) m body te tb)
    (he : backTo pos (starEach [e] X.env) = (false, eval e X.env) :: backTo pos (starEach [] X.env) := by rfl) (hpl : (backTo pos (starEach [e] X.env)).any (·.1) = false := by rfl) :
    VN K X (.Call (.Name "sorted" p) [e] [⟨some "key", .Lambda params body scope lpos, kpos⟩] pos) (tSortK K iy tr te) (vSortK iy vr tb) :=
  ⟨by subst hK; exact pe_sortK hr hg hm bt_sorted hcode C hB hT hq S hyN hyk hdef hcl hbind ha.pe (fun f c' cw A s H h => (ht f c' cw A s H h).pe) he hpl, fun H0 Z σ H S' Q C' k' t hc => ha.snd H0 Z σ H S' _ _ k' t fun vs H1 rs S1 k1 st1 rrs zq1 => by
    have hs : SndE K m te tb := (ht 0 0 0 X.A X.s₀ (fun _ => none) ((hr.mono (Nat.le_add_right (k + 1) 2)).deeper _)).snd
    obtain ⟨r, mss, dw, key, e1, e2, h64, hw, hkey, q⟩ := zq1
    subst e1
    obtain ⟨v, rfl, rv⟩ := rrs.one
    obtain ⟨a, ys, rfl, hq, rr⟩ := rv.elems k1 e2
    obtain ⟨ps, rfl, htu, _⟩ := reps_tups rr
    have hlen := tups_len htu
    have hi : iy < σ.length := by
      rw [k1.len]
      exact (List.getElem?_eq_some_iff.mp hw).1
    obtain ⟨vw, hv1, hv2⟩ := k1.at_ iy _ _ (List.getElem?_eq_getElem hi) hw
    have hvw : σ[iy]? = some (some vw) := by rw [List.getElem?_eq_getElem hi, hv1]
    refine ⟨a, ps, vw, mss.map key, rfl, hq, by rw [hlen]; exact h64, by rw [List.length_map, hlen], hvw, fun i p0 z hp hz H2 g2 => ?_, fun D l' H2 g hD pl pw => ?_⟩
    · rw [List.getElem?_map] at hz
      obtain ⟨ms, hms, rfl⟩ := Option.map_eq_some_iff.mp hz
      obtain ⟨d, hd, rd⟩ := rr.get (i := i) (v := .ref p0) (by rw [List.getElem?_map, hp]; rfl)
      rw [List.getElem?_map, hms] at hd
      cases hd
      have up : ∀ {v : V} {d : D} {N : AP} {F : FP}, Rep K N F H1 v d → Rep K Any AnyF H2 v d := fun h => h.nt.mono (fun b ⟨o, q1, q2⟩ _ => ⟨trivial, by rw [g2 b o q1 q2, q1]⟩) fun _ _ => trivial
      have k0 := ok_start (K := K) (N := [x, y]) (vs := [.ref p0, vw]) (ds := [eT ms, dw]) (H := H2) (.cons (up rd) (.cons (up hv2) .nil))
      refine hs H2 (fun _ => False) _ H2 _ _ _ k0 (hkey ms (List.mem_of_getElem? hms)) fun v H3 r' S3 k3 st3 rr3 q3 => ?_
      subst q3
      have rr3 : Rep K _ _ H3 v (.int (key ms)) := rr3
      cases rr3
      refine ⟨rfl, fun b hb => (st3.1 b ?_ hb).1⟩
      rintro (⟨j, s', y1, y2, _⟩ | z)
      · rw [slots_nomut (n := 2) (ds := [eT ms, dw]) y1] at y2; cases y2
      · exact z
    · obtain ⟨l2, p2, rfl⟩ := perm_map_inv pl (l := mss.zip ps) (g := fun q => (key q.1, q.2)) (by rw [List.zip_map_left]; rfl)
      have hp1 : (l2.map (·.1)).Perm mss := by
        have := p2.map (·.1)
        rwa [List.map_fst_zip (by rw [hlen]; exact Nat.le_refl _)] at this
      rw [List.pairwise_map] at pw
      have tu : Tups K H2 (l2.map (·.2)) (l2.map (·.1)) := pairs_tups fun q hq2 => by
        have h1 := tups_pairs htu q (p2.mem_iff.mp hq2)
        rcases h1 with h1 | h1
        · have h1 : L2.Rd H1 q.2 (.tup (q.1.map V.int)) := h1
          exact .inl (VL.Rd.keep h1 (g _ (VL.Rd.there h1)))
        · exact .inr h1
      have ev : (l2.map fun q => (key q.1, q.2)).map (fun q => V.ref q.2) = (l2.map (·.2)).map V.ref := by rw [List.map_map, List.map_map]; rfl
      rw [ev]
      exact hc D _ _ H2 _ S1 (k1.grow g) (st1.trans (.grow g)) hD (upd_grow hD) upd_same (reps_new hD (reps_of_tups (k1.grow g).tupN tu)) (q _ hp1 (by rw [List.pairwise_map]; exact pw))⟩
end
end VL

namespace L2
open PySem PySem.Spec PyProof.Rows
section
variable {X : Cx}
theorem pe_fnT {j k : Nat} {x : Str} {ps : List Str} {sp sp' : Sp} {e : Expr} {es : List Expr} {t : TA} {p pos : Pos} {P : Addr} {q : Str} (hT : HasTab X.H₀ P q) (hs : ∀ vs H Q E, HasTab H P q → sp' vs H Q E → sp vs H Q E) (E : Has X.prog X.w X.K X.mg X.base k x ps sp) (hr : Room j X.A) (ha : PA X (e :: es) t)
    (hk : k ≤ j := by decide) (hg : Gl X x := by rfl) (hdb : (x == ("__debug__" : Str)) = false := by decide) (he : starEach (e :: es) X.env = (false, eval e X.env) :: starEach es X.env := by rfl)
    (hpl : (backTo pos (starEach es X.env)).any (·.1) = false := by rfl) : PE X (.Call (.Name x p) (e :: es) [] pos) (tCall sp' [] E0 t) := by
  obtain ⟨f, fd, F, hm, kp, hb, _⟩ := E
  intro pins s σ H Q I h
  refine wpAny_Call_Name_kw (ld_glob I hg hm ?_ hdb)
  refine PySem.W.callWith_K (h₀ := X.base) I.ok.mod.kin kp (thn (ha pos pins s σ H _ I h) fun us s1 ⟨vs, H1, I1, r, q⟩ => ⟨I1.kIn, ?_⟩) he hpl
  exact run_fn F (hr.mono hk) hb .nil pass0 I1 r (hs _ _ _ _ (I1.tab hT) q)
end
end L2
namespace VL
open PySem L2
def spT (K : PySem.W.Frag) (P : Addr) (q : Str) (p : List D → (D → Prop) → Prop) : Sp := fun vs H Q E => HasTab H P q ∧ spP K p vs H Q E
section
variable {K : PySem.W.Frag} {X : Cx} {m : Bool} {e : Expr} {es : List Expr} {tr : TA} {vr : VTA} {x : Str} {p0 pos : Pos} {j k : Nat} {ps : List Str} {P : Addr} {q : Str}
theorem ve_fnTb {p : List D → (D → Prop) → Prop} (hT : HasTab X.H₀ P q) (E : Has X.prog X.w X.K X.mg X.base k x ps (spT K P q p)) (hr : Room j X.A) (ha : VA K X false (e :: es) tr vr)
    (hk : k ≤ j := by decide) (hg : Gl X x := by rfl) (hdb : (x == ("__debug__" : Str)) = false := by decide) (he : starEach (e :: es) X.env = (false, eval e X.env) :: starEach es X.env := by rfl)
    (hpl : (backTo pos (starEach es X.env)).any (·.1) = false := by rfl) : VE K X m (.Call (.Name x p0) (e :: es) [] pos) (tCall (spP K p) [] E0 tr) (vFn p vr) :=
  ⟨pe_fnT hT (fun _ _ _ _ h1 h2 => ⟨h1, h2⟩) E hr ha.pe hk hg hdb he hpl, fun H0 Z σ H S Q C k t hc => ha.snd H0 Z σ H S _ _ k t fun vs H1 rs S1 k1 st1 rrs zq1 => by
    obtain ⟨ds, e, q⟩ := zq1
    refine ⟨ds, _, by rw [List.append_nil]; exact rrs.gets k1 e, q, fun d v H' q g r => ?_⟩
    refine hc v H' (.d d) S1 (k1.grow g) (st1.trans (.grow g)) (show Rep K _ _ H' v d from ?_) q
    refine (Rep.avoid (N' := NM Z σ S1) (fun a z => ?_) (fun a zq1 => by obtain ⟨b, e, f⟩ := zq1; cases e; exact k1.nm f) r).mono (fun _ n _ => ⟨n, rfl⟩) (fun o ⟨b, e, f⟩ _ => ⟨b, e, k1.dom b f⟩)
    have e := k1.mo (Classical.not_not.mp z)
    rw [g a e.ne]; exact e⟩
end
section
variable {P : Program} {w : World} {K : PySem.W.Frag} {mg : Str → Option Value} {base : Heap}
theorem has_Tb {x q : Str} {st : Stmt} {N ps : List Str} {k : Nat} {Pt : Addr} {p : List D → (D → Prop) → Prop} (S : Src K mg x st) (sc : FnScope N ps (defScope st))
    (hb : ∀ (kV doc pm : Value) (an : Option Addr) (cdv ct : Value) (us : List Value), us.length = ps.length → bindArgs (PySem.W.fnOf x x (defArgs st) (defBody st) (defScope st) .none kV doc pm an cdv ct) ⟨us, []⟩ = pure (ps.zip us))
    (len : ∀ ds R, p ds R → ds.length = ps.length)
    (hbody : ∀ (f : Addr) (fd : FuncData) (A : Around) (outer : List Env) (s : Shared) (H : Hp) (E : XK), Room k (A.deeper (PyProof.Rows.envOfC x (defScope st) s.heap.objs.size f fd.code)) → HasTab H Pt q → mg x = some (.ref f) → (∃ oc od osl, K.lookup f = some ⟨oc, od, .func fd, osl⟩) →
      ∃ ts t, VSs K (cxOf CX0 P w K mg base N x (defScope st) f fd.code A outer s H E).nox (defBody st) ts t ∧ ∀ ds R, p ds R → t { nx := fun _ => R .non, rt := fun d _ => R d } (slots N.length ds)) : Has P w K mg base (k + 1) x ps (spT K Pt q p) := by
  obtain ⟨f, fd, F, hm⟩ := S
  obtain ⟨oc, od, kV, doc, pm, an, cdv, ct, osl, rfl, lk, hcd⟩ := F.ex
  refine ⟨f, _, fn_of lk hcd sc (fun vs H Q E zq1 => by obtain ⟨_, ds, R, r, h, _⟩ := zq1; rw [r.length]; exact len ds R h) fun A outer s H vs Q E hr ⟨hT, ds, R, r, h, fin⟩ => ?_, hm, F.kp, F.binds hb, oc, od, osl, lk⟩
  obtain ⟨ts, t, vs', q⟩ := hbody f _ A outer s H E hr hT hm ⟨oc, od, osl, lk⟩
  have k0 := ok_start (N := N) r
  have st0 : ∀ {σ' S' H'}, Step (fun _ => False) (start N vs) (slots N.length ds) H σ' S' H' → ∀ a, H a ≠ none → H' a = H a := fun st a e => (st.1 a (by
    rintro (⟨j, s, g1, g2, _⟩ | z)
    · rw [slots_nomut g1] at g2; cases g2
    · exact z) e).1
  exact ⟨ts, vs'.ps.nox, vs'.snd H _ _ H _ _ _ k0 (q ds R h) ⟨fun σ' H' S' k' st q => fin .non .non H' q (st0 st) .non, fun σ' H' S' k' st q => q.elim, fun σ' H' S' k' st q => q.elim, fun v d σ' H' S' k' st rr q => fin d v H' q (st0 st) (rr.mono (fun _ _ _ => ⟨trivial, rfl⟩) fun _ x => x)⟩⟩
end
end VL
end
section
set_option maxHeartbeats 4000000
namespace L2
open PySem PySem.Spec PyProof.Rows
theorem law_hasT {P : Program} {w : World} {K : PySem.W.Frag} {mg : Str → Option Value} {k : Nat} {st : Stmt} {fa : Addr} {x : Str} {sp : Sp} (S : Src K mg "law" st) (hfa : mg "law" = some (.ref fa))
    (hb : ∀ (kV doc pm : Value) (an : Option Addr) (cdv ct : Value) (v : Value), bindArgs (PySem.W.fnOf "law" "law" (defArgs st) (defBody st) (defScope st) .none kV doc pm an cdv ct) ⟨[v], []⟩ = pure [(x, v)])
    (all : ∀ base : Heap, Bmod mg base → Has P w K mg base k "law" [x] sp) :
    ∃ fd : FuncData, (∀ (s : Shared) (v : Value), BindsTo s fd ⟨[v], []⟩ [(x, v)]) ∧ ∀ base : Heap, Bmod mg base → FnOk P w K mg base CX0 k fa fd [x] sp := by
  obtain ⟨f, fd, F, hm⟩ := S
  have e := hfa.symm.trans hm
  cases e
  obtain ⟨oc, od, kV, doc, pm, an, cdv, ct, osl, rfl, lk, _⟩ := F.ex
  refine ⟨_, fun s v => .of_eq (hb kV doc pm an cdv ct v), fun base hB => ?_⟩
  obtain ⟨f', fd', G', hm', _, _, oc', od', osl', lk'⟩ := all base hB
  have e := hm.symm.trans hm'
  cases e
  rw [lk] at lk'
  injection lk' with e1
  injection e1 with _ _ e2 _
  injection e2 with e3
  rw [e3]
  exact G'
theorem law_callT {P : Program} {w : World} {K : PySem.W.Frag} {mg mb : Str → Option Value} {k : Nat} {fa a c Pt : Addr} {fd : FuncData} {x q : Str} {sp : Sp} {s₁ : Shared} {vs : List Value} {ns : List Int}
    (KX : K.In s₁.heap) (hns : s₁.heap.Ns mainGlobals mg) (hb : s₁.heap.Ns builtinsNs mb) (hbb : ∀ x : Str, x ≠ "__name__" → mb x = bootBuiltins x) (hlim : s₁.heap.NoLimit) (hg : s₁.gens = #[]) (hB : Bmod mg s₁.heap)
    (hP : s₁.heap.get? Pt = some (PySem.W.tabObj #[])) (hC : PySem.W.codeHdIn K c Pt = true) (hKP : K.lookup Pt = none)
    (ha : s₁.heap.get? a = some { cls := .type "list", data := .seq vs.toArray }) (hi : IntsAre vs ns) (hl : ns.length ≤ sizeLine) (hr : Room k callerA)
    (F : ∀ base : Heap, Bmod mg base → FnOk P w K mg base CX0 k fa fd [x] sp) (hbind : ∀ (s : Shared) (u : Value), BindsTo s fd ⟨[u], []⟩ [(x, u)])
    (hsp : ∀ H : Hp, HasTab H Pt q → SqL K H a (ns.map V.int) → sp [.ref a] H (fun v _ => v = .bl true) fun _ _ _ => False) :
    codeAny (model P w) callerA (.call (.ref fa) ⟨[.ref a], []⟩) (fun r s' => r = .ok (.ret (.bool true)) ∧ OldK s₁.heap s'.heap ∧ s'.os = s₁.os ∧ AllBare s'.gens) s₁ := by
  have rv := vals_ints hi
  have lenV := hi.length
  have aP : a ≠ Pt := fun z => by rw [z, hP] at ha; cases ha
  have core : ∀ H : Hp, (∀ b, b ≠ Pt → H b = none ∨ (b = a ∧ ∃ o xs, H b = some (.frz o (.lst xs)))) → H Pt = some (.tbl #[.str q 0]) → SqL K H a (ns.map V.int) → HOk P w H s₁.heap → (H a ≠ none → K.lookup a = none) →
      codeAny (model P w) callerA (.call (.ref fa) ⟨[.ref a], []⟩) (fun r s' => r = .ok (.ret (.bool true)) ∧ OldK s₁.heap s'.heap ∧ s'.os = s₁.os ∧ AllBare s'.gens) s₁ := by
    intro H hO hT hS hok hK
    have free : ∀ {b : Addr} {o : Obj}, s₁.heap.get? b = some o → (∀ xs n, o.data ≠ .seq xs n) → (∀ qs, o.data ≠ .fields qs) → H b = none := fun {b o} e d1 d2 => by
      have hb : b ≠ Pt := fun z => by rw [z, hP] at e; cases e; exact d2 _ rfl
      rcases hO b hb with z | ⟨z, _⟩
      · exact z
      · rw [z, ha] at e; cases e; exact absurd rfl (d1 _ _)
    have nsK : ∀ {b : Addr} {m : Str → Option Value}, s₁.heap.Ns b m → (hidT s₁.heap H).Ns b m := fun {b m} ⟨o, es, ep, e, d, r⟩ => ⟨o, es, ep, hidT_get e (free e (fun _ _ z => by rw [d] at z; cases z) (fun _ z => by rw [d] at z; cases z)), d, r⟩
    have hKb : K.In (hidT s₁.heap H) := fun b o e => hidT_get (KX b o e) (by
      have hb : b ≠ Pt := fun z => by rw [z, hKP] at e; cases e
      cases q : H b with
      | none => rfl
      | some u =>
        rcases hO b hb with z | ⟨z, _⟩
        · rw [q] at z; cases z
        · subst z; rw [hK (by rw [q]; simp)] at e; cases e)
    have hBb : Bmod mg (hidT s₁.heap H) := by
      obtain ⟨bm, o, b1, b2, b3, b4, b5, b6⟩ := hB
      exact ⟨bm, o, b1, b2, hidT_get b3 (free b3 (fun _ _ z => by rw [b6] at z; cases z) (fun _ z => by rw [b6] at z; cases z)), b4, b5, b6⟩
    have hM : Mod K mg (hidT s₁.heap H) := ⟨hKb, nsK hns, ⟨mb, nsK hb, hbb⟩, let ⟨mc, h1, h2⟩ := hlim; ⟨mc, nsK h1, h2⟩⟩
    have e0 : Env0 P w K mg (hidT s₁.heap H) callerA [] s₁ H := ⟨rfl, hM, fun b o e => of_hidT e, Nat.le_of_eq (hidT_size _ _), trivial, fun b hb => absurd (show b ∈ ([] : List Addr) from hb) (by simp), hok, .of_eq hg⟩
    refine codeAny_mono ((F _ hBb).run callerA [] s₁ H ⟨[.ref a], []⟩ [.ref a] [.ref a] _ _ hr e0 (hbind s₁ (.ref a)) (.cons rfl .nil) (hsp H ⟨_, _, hT, rfl⟩ hS)) fun r s' h => ?_
    cases r with
    | error e => exact False.elim h
    | ok fl =>
      cases fl with
      | next => exact False.elim h
      | brk => exact False.elim h
      | cont => exact False.elim h
      | ret u =>
        obtain ⟨v, H', os, bare, un, hok', r', q'⟩ := h
        have q' : v = .bl true := q'
        subst q'
        obtain rfl : u = Value.bool true := r'
        obtain ⟨more, hT'⟩ := un.tbls Pt _ hT
        obtain ⟨qs, hP', _⟩ := (show ObjOk P w H' s'.heap Pt (.tbl _) from hok' Pt _ hT')
        have tab : s₁.heap.TableAt c Pt #[] := (PySem.W.codeHd_of_K KX hC).tab hP
        have kp : ∀ b o, b ≠ Pt → s₁.heap.get? b = some o → s'.heap.get? b = some o := fun b o hb e => by
          rcases hO b hb with z | ⟨_, ob, xs, z⟩
          · exact un.keep b o e z (by intro y; exact absurd (show b ∈ ([] : List Addr) from y) (by simp)) (by simp)
          · have z2 := un.frzs b ob _ z
            obtain ⟨e1, _⟩ := hok b _ z
            obtain ⟨e2, _⟩ := hok' b _ z2
            rw [e] at e1; cases e1
            exact e2
        refine ⟨rfl, ⟨fun b o e => ?_, fun b o e => ?_⟩, os, bare⟩
        · by_cases hb : b = Pt
          · subst hb
            rw [hP] at e
            cases e
            exact .inr (.inl ⟨tab.isCodeTable, rfl, #[], qs, rfl, by rw [Array.empty_append]; exact hP'⟩)
          · exact .inl (kp b o hb e)
        · by_cases hb : b = Pt
          · exact ⟨_, by rw [hb]; exact hP'⟩
          · exact ⟨o, kp b o hb e⟩
  have tabOk : ∀ H : Hp, ObjOk P w H s₁.heap Pt (.tbl #[.str q 0]) := fun H => ⟨#[], hP, trivial, fun pos cv h => by cases h⟩
  cases hk : K.lookup a with
  | some o =>
    have e := KX a o hk
    rw [ha] at e
    cases e
    refine core (fun b => if b = Pt then some (.tbl #[.str q 0]) else none) (fun b hb => .inl (if_neg hb)) (if_pos rfl) (.inr ⟨_, vs.toArray, _, hk, rfl, rfl, rfl, by rw [List.size_toArray, lenV]; exact hl, by simpa using rv⟩) (fun b u z => ?_) fun z => absurd (if_neg aP) z
    by_cases hb : b = Pt
    · have z' := (if_pos hb).symm.trans z
      cases z'
      subst hb
      exact tabOk _
    · have z' := (if_neg hb).symm.trans z
      cases z'
  | none =>
    refine core (fun b => if b = Pt then some (.tbl #[.str q 0]) else if b = a then some (.frz { cls := .type "list", data := .seq vs.toArray } (.lst (ns.map V.int))) else none) (fun b hb => ?_) (if_pos rfl) (.inl (.inr ⟨{ cls := .type "list", data := .seq vs.toArray }, (if_neg aP).trans (if_pos rfl)⟩)) (fun b u z => ?_) fun _ => hk
    · by_cases hba : b = a
      · exact .inr ⟨hba, _, _, by rw [if_neg hb, if_pos hba]⟩
      · exact .inl (by rw [if_neg hb, if_neg hba])
    · by_cases hb : b = Pt
      · have z' := (if_pos hb).symm.trans z
        cases z'
        subst hb
        exact tabOk _
      · have z := (if_neg hb).symm.trans z
        by_cases hba : b = a
        · have z' := (if_pos hba).symm.trans z
          cases z'
          subst hba
          exact ⟨ha, by rw [List.length_map]; exact hl, vs, _, rv, ha⟩
        · have z' := (if_neg hba).symm.trans z
          cases z'
theorem walk_ofT {l : PySem.W.OpenLaw} {n k : Nat} {q : Program} {loose : List Str} {XP : (Str → Option Value) → Heap → Prop} {YP : World → Heap → Prop} {d : DefRec} {K : Params → PySem.W.Frag} {sp : World → Sp} {x qn : Str} {c Pt : Addr}
    (hn : l.most = some n) (hn2 : n ≤ sizeLine) (hdf : d.params.defaults = []) (hr : Room k callerA)
    (hY : ∀ (w : World) (h : Heap), YP w h → (K w.params).In h) (hTb : ∀ (w : World) (h : Heap), YP w h → h.get? Pt = some (PySem.W.tabObj #[])) (hC : ∀ w : World, PySem.W.codeHdIn (K w.params) c Pt = true) (hKP : ∀ w : World, (K w.params).lookup Pt = none)
    (F : ∀ (w : World) (mg : Str → Option Value) (fa : Addr) (h : Heap), (K w.params).In h → h.Ns mainGlobals mg → mg d.name = some (.ref fa) →
      ∃ fd : FuncData, (∀ (s : Shared) (u : Value), BindsTo s fd ⟨[u], []⟩ [(x, u)]) ∧ ∀ base : Heap, Bmod mg base → FnOk l.prog w (K w.params) mg base CX0 k fa fd [x] (sp w))
    (hsp : ∀ (w : World) (H : Hp) (a : Addr) (ns : List Int), ns.length ≤ n → HasTab H Pt qn → SqL (K w.params) H a (ns.map V.int) → sp w [.ref a] H (fun v _ => v = .bl true) fun _ _ _ => False) :
    PySem.W.WalkO q loose XP YP l.row.toRowW d [] (fun f vs => PySem.call f vs) := by
  refine Att.attach_call hn hdf fun w s₀ s₁ mg mb fa o pm cd doc a vs ns G Y ho hd hcd hmg hobj hints hlen hg => ?_
  have KX := hY w _ Y
  obtain ⟨fd, hb, hF⟩ := F w mg fa _ KX G.T.g hmg
  exact law_callT KX G.T.g G.T.b G.T.builtins G.T.nolimit hg G.T.bmain (hTb w _ Y) (hC w) (hKP w) hobj hints (Nat.le_trans hlen hn2) hr hF hb fun H hT hS => hsp w H a ns hlen hT hS
end L2
end
section
set_option maxHeartbeats 4000000
namespace L2
open PySem PySem.Spec PyProof.Rows
def lamB (scope : Scope) (x y : Str) : Bool := scope.kind == .function && !scope.isCoroutine && !scope.isGenerator && scope.names.all (fun z => z.2 != .cell && (z.2 != .free || z.1 == y)) && scope.names.lookup x == some .local && scope.names.lookup y == some .free
theorem lam_scope {scope : Scope} {x y : Str} (h : lamB scope x y = true) : LamScope scope x y := by
  unfold lamB at h
  simp only [Bool.and_eq_true, beq_iff_eq, Bool.not_eq_true', List.all_eq_true] at h
  obtain ⟨⟨⟨⟨⟨h1, h2⟩, h3⟩, h4⟩, h5⟩, h6⟩ := h
  refine ⟨h1, h2, h3, fun z hz => ?_, h5, h6, fun z hz => ?_⟩
  · simpa using (h4 z hz).1
  · have := (h4 _ hz).2
    simpa using this
theorem hcl_of {scope : Scope} {env : Env} {y : Str} {c : Addr} (h1 : env.cells.lookup y = some c) (h2 : closureFor scope env = pure [(y, c)]) : ∀ cw, env.cells.lookup y = some cw → closureFor scope env = pure [(y, cw)] := fun cw h => by
  rw [h1] at h
  cases h
  exact h2
@[irreducible] def Wd (i : Int) : Prop := i.natAbs < 2 ^ 250
theorem wd_of {i : Int} (h : i.natAbs < 2 ^ 250) : Wd i := by unfold Wd; exact h
def CMulB (i j : Int) : Prop := Wd i ∧ Wd j
theorem bits_wd {i : Int} (h : Wd i) : Builtin.Int.intBits i ≤ 2 ^ 20 := by
  unfold Wd at h
  unfold Builtin.Int.intBits
  by_cases h0 : i = 0
  · rw [h0]
    exact Nat.zero_le _
  · rw [if_neg (by simpa using h0)]
    have : i.natAbs.log2 < 250 := (Nat.log2_lt (by lia)).mpr h
    exact Nat.le_trans (Nat.succ_le_of_lt this) (by decide)
theorem op_mulB {X : Cx} : OpR X (binaryOp .Mult) (rI CMulB fun i j => .int (i * j)) := opI fun _ _ _ _ _ _ _ hc q => mul_int q (IntMulOk.of_bits (bits_wd hc.1) (bits_wd hc.2))
end L2
namespace VL
open PySem L2
section
variable {S : List Sl} {QN : List D → List Sl → Prop} {vr : VTA} {tb : VT} {iy : Nat}
@[irreducible] def kSortK (iy : Nat) (tb : VT) (QN : List D → List Sl → Prop) : List VR → List Sl → Prop := fun rs S1 => ∃ (r : VR) (mss : List (List Int)) (dw : D) (key : List Int → Int), rs = [r] ∧ get S1 r = some (eL mss) ∧ mss.length < 64 ∧ S1[iy]? = some (.val dw) ∧ (∀ ms ∈ mss, tb [.val (eT ms), .val dw] fun r _ => r = .d (.int (key ms))) ∧
  ∀ out : List (List Int), out.Perm mss → out.Pairwise (fun a b => key a ≤ key b) → QN (out.map eT) S1
theorem j_sortK (h : vr S (kSortK iy tb QN)) : vSortK iy vr tb S QN := by unfold kSortK at h; exact h
theorem j_kSortK {r : VR} {mss : List (List Int)} {dw : D} (key : List Int → Int) (e : get S r = some (eL mss)) (h1 : mss.length < 64) (h2 : S[iy]? = some (.val dw)) (h3 : ∀ ms ∈ mss, tb [.val (eT ms), .val dw] fun r _ => r = .d (.int (key ms)))
    (h : ∀ out : List (List Int), out.Perm mss → out.Pairwise (fun a b => key a ≤ key b) → QN (out.map eT) S) : kSortK iy tb QN [r] S := by unfold kSortK; exact ⟨r, mss, dw, key, rfl, e, h1, h2, h3, h⟩
end
end VL
end
section
set_option maxHeartbeats 4000000
namespace VL
open PySem L2
section
variable {K : PySem.W.Frag} {X : Cx} {Hin : Hp} {E : XK} {a b : Expr} {A B rest : List Stmt} {ta tb : TE} {t : (Addr → Prop) → List Sl → Prop} {v w : VT} {pos pos' : Pos} {r : R2}
theorem vxe_cmpR {op : CmpOp} (ho : OpR X (compareOp op) r) (ha : VE K X false a ta v) (h : VXe K X Hin E b tb t) (hm : behindInMarks op b = false) : VXe K X Hin E (.Compare a [op] [b] pos) (tOp r ta tb) (fun Wc S => v S fun _ S1 => t Wc S1) :=
  ⟨pe_cmpR ho ha.pe h.pe hm, fun Wc hE H0 Z σ H S Q k f z => ha.snd H0 Z σ H S _ _ k z fun x H1 r S1 k1 st1 rr q => h.snd Wc hE H0 Z σ H1 S1 _ k1 (f.step st1) q⟩
theorem vxe_opR {op : Operator} (ho : OpR X (binaryOp op) r) (ha : VE K X false a ta v) (h : VXe K X Hin E b tb t) : VXe K X Hin E (.BinOp a op b pos) (tOp r ta tb) (fun Wc S => v S fun _ S1 => t Wc S1) :=
  ⟨pe_op ho ha.pe h.pe, fun Wc hE H0 Z σ H S Q k f z => ha.snd H0 Z σ H S _ _ k z fun x H1 r S1 k1 st1 rr q => h.snd Wc hE H0 Z σ H1 S1 _ k1 (f.step st1) q⟩
end
section
variable {K : PySem.W.Frag} {X : Cx} {e : Expr} {es : List Expr} {tr : TA} {vr : VTA} {x : Str} {p0 pos : Pos} {j k : Nat} {ps : List Str} {P : Addr} {q : Str}
end
end VL
end
section
set_option maxHeartbeats 4000000
namespace L2
open PySem PySem.Spec PyProof.Rows
section
variable {X : Cx}
theorem pe_fn0 {j k : Nat} {x : Str} {sp : Sp} {p pos : Pos} (E : Has X.prog X.w X.K X.mg X.base k x [] sp) (hr : Room j X.A) (hk : k ≤ j := by decide) (hg : Gl X x := by rfl) (hdb : (x == ("__debug__" : Str)) = false := by decide) : PE X (.Call (.Name x p) [] [] pos) (tCall sp [] E0 tNil) := by
  obtain ⟨f, fd, F, hm, kp, hb, _⟩ := E
  exact pe_call0 F (hr.mono hk) hg hm kp hb .nil pass0 hdb
theorem pe_fnT0 {j k : Nat} {x : Str} {sp sp' : Sp} {p pos : Pos} {P : Addr} {q : Str} (hT : HasTab X.H₀ P q) (hs : ∀ vs H Q E, HasTab H P q → sp' vs H Q E → sp vs H Q E) (E : Has X.prog X.w X.K X.mg X.base k x [] sp) (hr : Room j X.A)
    (hk : k ≤ j := by decide) (hg : Gl X x := by rfl) (hdb : (x == ("__debug__" : Str)) = false := by decide) : PE X (.Call (.Name x p) [] [] pos) (tCall sp' [] E0 tNil) := by
  obtain ⟨f, fd, F, hm, kp, hb, _⟩ := E
  intro pins s σ H Q I h
  refine wpAny_Call_Name_kw (ld_glob I hg hm ?_ hdb)
  exact PySem.W.callWith_K0 I.kIn kp (run_fn (us := []) F (hr.mono hk) hb .nil pass0 I .nil (hs _ _ _ _ (I.tab hT) h))
end
end L2
namespace VL
open PySem L2
section
variable {K : PySem.W.Frag} {X : Cx} {m : Bool} {x : Str} {p0 pos : Pos} {j k : Nat} {P : Addr} {q : Str}
theorem snd_fn0 (X : Cx) {p : List D → (D → Prop) → Prop} : SndE K m (tCall (spP K p) [] E0 tNil) (vFn p vNil) := fun H0 Z σ H S Q C k t hc =>
  (va_nil (K := K) (X := X) (m := false)).snd H0 Z σ H S _ _ k t fun vs H1 rs S1 k1 st1 rrs zq1 => by
    obtain ⟨ds, e, q⟩ := zq1
    refine ⟨ds, _, by rw [List.append_nil]; exact rrs.gets k1 e, q, fun d v H' q g r => ?_⟩
    refine hc v H' (.d d) S1 (k1.grow g) (st1.trans (.grow g)) (show Rep K _ _ H' v d from ?_) q
    refine (Rep.avoid (N' := NM Z σ S1) (fun a z => ?_) (fun a zq1 => by obtain ⟨b, e, f⟩ := zq1; cases e; exact k1.nm f) r).mono (fun _ n _ => ⟨n, rfl⟩) (fun o ⟨b, e, f⟩ _ => ⟨b, e, k1.dom b f⟩)
    have e := k1.mo (Classical.not_not.mp z)
    rw [g a e.ne]; exact e
theorem ve_fn0 {p : List D → (D → Prop) → Prop} (E : Has X.prog X.w X.K X.mg X.base k x [] (spP K p)) (hr : Room j X.A)
    (hk : k ≤ j := by decide) (hg : Gl X x := by rfl) (hdb : (x == ("__debug__" : Str)) = false := by decide) : VE K X m (.Call (.Name x p0) [] [] pos) (tCall (spP K p) [] E0 tNil) (vFn p vNil) := ⟨pe_fn0 E hr hk hg hdb, snd_fn0 X⟩
theorem ve_fnTb0 {p : List D → (D → Prop) → Prop} (hT : HasTab X.H₀ P q) (E : Has X.prog X.w X.K X.mg X.base k x [] (spT K P q p)) (hr : Room j X.A)
    (hk : k ≤ j := by decide) (hg : Gl X x := by rfl) (hdb : (x == ("__debug__" : Str)) = false := by decide) : VE K X m (.Call (.Name x p0) [] [] pos) (tCall (spP K p) [] E0 tNil) (vFn p vNil) :=
  ⟨pe_fnT0 hT (fun _ _ _ _ h1 h2 => ⟨h1, h2⟩) E hr hk hg hdb, snd_fn0 X⟩
end
section
variable {K : PySem.W.Frag} {X : Cx} {Hin : Hp} {E : XK} {e : Expr} {rest : List Stmt} {te : TE} {t : (Addr → Prop) → List Sl → Prop} {pos : Pos}
theorem vx_exprE (h : VXe K X Hin E e te t) (hs : swapsWith e none pos.line X.env = pure false := by rfl) : VXs K X Hin E (.Expr e pos :: rest) (tSeq (tDrop te) tNever) t :=
  ⟨pss_cons (ps_expr h.pe hs) pss_never, fun Wc hE H0 Z σ H S D k f z => h.snd Wc hE H0 Z σ H S _ k f z⟩
end
end VL
end
set_option maxHeartbeats 4000000
local macro_rules | `(tactic| walk_at "rd1") => `(tactic| first
  | ((with_reducible refine' VL.j_var ?h ?_); (case h => exact rfl))
  | with_reducible refine VL.j_catV ?_
  | with_reducible refine VL.j_kCV1 ?_
  | ((with_reducible refine' VL.j_ext ?h ?_); (case h => exact rfl))
  | with_reducible refine VL.j_catE ?_
  | with_reducible refine VL.j_kCatE1 ?_
  | with_reducible refine VL.j_c ?_
  | with_reducible refine VL.j_2 ?_
  | with_reducible refine VL.j_2a ?_
  | ((with_reducible refine' VL.j_2b ?h1 ?h2 ?_); (case h1 => exact rfl); (case h2 => exact rfl))
  | with_reducible refine VL.j_wI0 ?_
  | with_reducible refine VL.j_eqI ?_
  | ((with_reducible refine' VL.j_wI ?h ?_); (case h => first | exact (by decide) | exact .inl ⟨by decide, by decide⟩ | exact .inr ⟨by decide, by decide⟩ | (show (0 : Int) < _; lia) | (show (0 : Int) ≤ _; lia) | exact ⟨by decide, by decide, by decide⟩ | exact ⟨by lia, by lia, by lia⟩ | exact ⟨by lia, by lia⟩ | exact .inl ⟨by lia, by lia⟩ | exact .inr ⟨by lia, by lia⟩))
  | with_reducible refine VL.j_test ?_
  | with_reducible refine VL.j_kTest ?_
  | with_reducible refine VL.i_seq ?_
  | with_reducible refine VL.i_asg ?_
  | with_reducible refine VL.i_kAsg ?_
  | ((with_reducible refine' VL.i_gN ?h ?_); (case h => exact rfl); (try dsimp only [List.set_cons_zero, List.set_cons_succ]))
  | with_reducible refine VL.i_kSeq ?_
  | with_reducible refine VL.i_ifS ?_
  | with_reducible refine VL.i_kIfT ?_
  | with_reducible refine VL.i_kIfF ?_
  | with_reducible refine VL.i_ret ?_
  | ((with_reducible refine' VL.i_kRet ?h ?_); (case h => exact rfl))
  | with_reducible refine VL.i_drop ?_
  | with_reducible refine VL.i_kDrop ?_
  | with_reducible refine VL.i_next ?_
  | with_reducible refine VL.j_flat ?_
  | ((with_reducible refine' VL.j_kFlat ?h ?_); (case h => first | exact rfl | simp only [VL.flat, VL.flats, VL.flats_ints, VL.eT, VL.flats_eT, Bool.and_self]))
  | with_reducible refine VL.j_kFlatO ?_
  | with_reducible refine VL.j_ix ?_
  | with_reducible refine VL.j_ix1 ?_
  | ((with_reducible refine' VL.j_ixL ?h1 ?h2 ?h3 ?_); (case h1 => exact rfl); (case h2 => exact rfl); (case h3 => exact rfl))
  | ((with_reducible refine' VL.j_ixT ?h1 ?h2 ?h3 ?_); (case h1 => exact rfl); (case h2 => exact rfl); (case h3 => first | exact rfl | exact VL.at_0))
  | with_reducible refine VL.j_nil ?_
  | with_reducible refine VL.j_cons ?_
  | with_reducible refine VL.j_kCons ?_
  | with_reducible refine VL.j_tup ?_
  | ((with_reducible refine' VL.j_kTup ?h1 ?h2 ?_); (case h1 => exact rfl); (case h2 => exact rfl))
  | with_reducible refine VL.j_lst ?_
  | ((with_reducible refine' VL.j_kLst ?h1 ?h2 ?_); (case h1 => exact rfl); (case h2 => exact rfl))
  | with_reducible refine VL.j_new ?_
  | with_reducible refine VL.j_kNew ?_
  | with_reducible refine VL.j_cb ?_
  | ((with_reducible refine' VL.j_kCB ?h ?_); (case h => exact rfl))
  | with_reducible refine VL.j_lenL ?_
  | with_reducible refine VL.j_mm ?_
  | with_reducible refine VL.j_fn ?_
  | with_reducible refine VL.j_fnN ?_
  | ((with_reducible refine' VL.j_kFnN ?h ?_); (case h => exact rfl))
  | with_reducible refine VL.j_fnI ?_
  | ((with_reducible refine' VL.j_kFnI ?h1 ?h2 ?h3 ?_); (case h1 => exact rfl); (case h2 => exact rfl); (case h3 => exact rfl))
  | with_reducible refine VL.i_setN ?_
  | ((with_reducible refine' VL.i_kSetN ?h ?_); (case h => exact rfl); (try dsimp only [List.set_cons_zero, List.set_cons_succ]))
  | with_reducible refine VL.i_setP ?_
  | ((with_reducible refine' VL.i_kSetP ?h ?_); (case h => exact rfl); (try dsimp only [List.set_cons_zero, List.set_cons_succ]))
  | with_reducible refine VL.i_setIx ?_
  | ((with_reducible refine' VL.i_kSetIx ?h1 ?h2 ?_); (case h1 => exact rfl); (case h2 => exact rfl))
  | ((with_reducible refine' VL.i_kSetIxP ?h1 ?h2 ?h3 ?_); (case h1 => exact rfl); (case h2 => exact rfl); (case h3 => exact rfl); (try dsimp only [List.set_cons_zero, List.set_cons_succ]))
  | with_reducible refine VL.i_for ?_
  | with_reducible refine VL.i_runC ?_
  | with_reducible refine VL.i_runN ?_
  | with_reducible refine VL.j_itL ?_
  | with_reducible refine VL.j_itT ?_
  | with_reducible refine VL.j_kItL ?_
  | with_reducible refine VL.j_kItT ?_
  | with_reducible refine VL.j_rg1 ?_
  | with_reducible refine VL.j_rg2 ?_
  | ((with_reducible refine' VL.j_kRg1 ?h ?_); (case h => exact ⟨by lia, by lia⟩))
  | ((with_reducible refine' VL.j_kRg2 ?h ?_); (case h => exact ⟨by lia, by lia, by lia, by lia⟩))
  | with_reducible refine VL.j_comp ?_
  | with_reducible refine VL.j_true ?_
  | with_reducible refine VL.j_kCompTT ?_
  | with_reducible refine VL.j_kCompTF ?_
  | with_reducible refine VL.j_kCompE ?_
  | with_reducible refine VL.j_or ?_
  | with_reducible refine VL.j_not ?_
  | with_reducible refine VL.j_kNot ?_
  | with_reducible refine VL.j_kOrF ?_
  | with_reducible refine VL.j_kOrT ?_
  | with_reducible refine VL.j_orV ?_
  | with_reducible refine VL.j_ifE ?_
  | with_reducible refine VL.j_un ?_
  | ((with_reducible refine' VL.j_kUn ?h ?_); (case h => exact rfl))
  | with_reducible refine VL.j_isN ?_
  | ((with_reducible refine' VL.j_isi ?h1 ?h2 ?_); (case h1 => (intro n z; cases z)); (case h2 => first | exact L2.isiB_int_int | exact L2.isiB_int_bool | exact L2.isiB_list_list | exact L2.isiB_tuple_tuple | exact L2.isiB_bool_bool | exact L2.isiB_f1 | exact L2.isiB_f2 | exact L2.isiB_f3 | exact L2.isiB_f4 | exact L2.isiB_f5 | exact L2.isiB_f6 | exact L2.isiB_g1 | exact L2.isiB_g2 | exact L2.isiB_g3 | exact L2.isiB_g4 | exact L2.isiB_g5 | exact L2.isiB_g6 | exact L2.isiB_h1 | exact L2.isiB_h2 | exact L2.isiB_h3 | exact L2.isiB_h4 | exact L2.isiB_h5 | exact L2.isiB_h6 | exact L2.isiB_h7))
  | with_reducible refine VL.i_gNil ?_
  | with_reducible refine VL.i_gCons ?_
  | ((with_reducible refine' VL.i_gT ?h ?_); (case h => exact rfl); (try simp only [List.map_cons, List.map_nil]))
  | with_reducible refine VL.j_listOf ?_
  | with_reducible refine VL.j_tupOf ?_
  | ((with_reducible refine' VL.j_cat ?h ?_); (case h => exact rfl))
  | with_reducible refine VL.j_tru ?_
  | with_reducible refine VL.j_sl ?_
  | with_reducible refine VL.j_kSl1 ?_
  | with_reducible refine VL.j_kSl2 ?_
  | with_reducible refine VL.j_voNo ?_
  | with_reducible refine VL.j_voSome ?_
  | with_reducible refine VL.j_kVo ?_
  | with_reducible refine VL.j_ixD ?_
  | with_reducible refine VL.j_isB ?_
  | with_reducible refine VL.j_sortK ?_
  | with_reducible refine VL.j_sortI ?_)
local macro_rules | `(tactic| walk_at "rc1") => `(tactic| first
  | walk_at "rd1"
  | ((with_reducible refine' VL.c_ifT ?h ?_); (case h => exact rfl))
  | ((with_reducible refine' VL.c_ifF ?h ?_); (case h => exact rfl))
  | ((with_reducible refine' VL.c_orF ?h ?_); (case h => exact rfl))
  | ((with_reducible refine' VL.c_eT ?h ?_); (case h => exact rfl))
  | ((with_reducible refine' VL.c_eF ?h ?_); (case h => exact rfl))
  | ((with_reducible refine' VL.c_ovF ?h ?_); (case h => exact rfl)))
local macro_rules | `(tactic| walk_at "rc") => `(tactic| repeat walk_at "rc1")
local macro_rules | `(tactic| walk_at "rd") => `(tactic| repeat walk_at "rd1")
local macro_rules | `(tactic| walk_at "sl") => `(tactic| simp only [VL.slots, VL.slotsI, VL.eT, List.map_cons, List.map_nil, List.length_cons, List.length_nil, List.cons_append, List.nil_append, Nat.reduceAdd, Nat.reduceSub, Nat.zero_add, List.replicate_succ, List.replicate_zero])

namespace My
open PySem L2 VL
def top (i : Nat) : Stmt := PySem.Challenge.pw_cellships_k29_too_fast.main.body.getD i (.Pass ⟨0, 0, 0, 0⟩)
abbrev sOffsets : Stmt := top 2
theorem scOffsets : FnScope ["kind"] ["kind"] (defScope sOffsets) := ⟨rfl, rfl, rfl, by decide +kernel, rfl, by decide +kernel, by decide +kernel⟩
abbrev sIsQuiet : Stmt := top 18
theorem scIsQuiet : FnScope ["rule"] ["rule"] (defScope sIsQuiet) := ⟨rfl, rfl, rfl, by decide +kernel, rfl, by decide +kernel, by decide +kernel⟩
abbrev sRefuseLoud : Stmt := top 19
theorem scRefuseLoud : FnScope ["rule"] ["rule"] (defScope sRefuseLoud) := ⟨rfl, rfl, rfl, by decide +kernel, rfl, by decide +kernel, by decide +kernel⟩
abbrev sCellHeight : Stmt := top 21
theorem scCellHeight : FnScope ["cell", "way"] ["cell", "way"] (defScope sCellHeight) := ⟨rfl, rfl, rfl, by decide +kernel, rfl, by decide +kernel, by decide +kernel⟩
abbrev sHeight : Stmt := top 22
theorem scHeight : FnScope ["picture", "way"] ["picture", "way"] (defScope sHeight) := ⟨rfl, rfl, rfl, by decide +kernel, rfl, by decide +kernel, by decide +kernel⟩
abbrev sLowestParents : Stmt := top 23
theorem scLowestParents : FnScope ["rule", "way", "kind", "born", "stay", "rising"] ["rule", "way"] (defScope sLowestParents) := ⟨rfl, rfl, rfl, by decide +kernel, rfl, by decide +kernel, by decide +kernel⟩
abbrev sGrowth : Stmt := top 24
theorem scGrowth : FnScope ["rule", "way", "parents"] ["rule", "way"] (defScope sGrowth) := ⟨rfl, rfl, rfl, by decide +kernel, rfl, by decide +kernel, by decide +kernel⟩
abbrev sShowsTooFast : Stmt := top 25
theorem scShowsTooFast : FnScope ["rule", "many", "move", "way"] ["rule", "many", "move", "way"] (defScope sShowsTooFast) := ⟨rfl, rfl, rfl, by decide +kernel, rfl, by decide +kernel, by decide +kernel⟩
abbrev sTooFast : Stmt := top 26
theorem scTooFast : FnScope ["rule", "many", "move", "a", "b"] ["rule", "many", "move"] (defScope sTooFast) := ⟨rfl, rfl, rfl, by decide +kernel, rfl, by decide +kernel, by decide +kernel⟩
abbrev sLPen : Stmt := top 28
theorem scLPen : FnScope ["_law_script", "_law_k", "_law_cell"] ["_law_script", "_law_k"] (defScope sLPen) := ⟨rfl, rfl, rfl, by decide +kernel, rfl, by decide +kernel, by decide +kernel⟩
abbrev sLDraw : Stmt := top 29
theorem scLDraw : FnScope ["_law_pen_here", "_law_many_here", "_law_drawn", "_law_number_here"] ["_law_pen_here", "_law_many_here"] (defScope sLDraw) := ⟨rfl, rfl, rfl, by decide +kernel, rfl, by decide +kernel, by decide +kernel⟩
abbrev sLNumber : Stmt := top 30
theorem scLNumber : FnScope ["_law_pen_here", "_law_way_here"] ["_law_pen_here"] (defScope sLNumber) := ⟨rfl, rfl, rfl, by decide +kernel, rfl, by decide +kernel, by decide +kernel⟩
abbrev sLRule : Stmt := top 31
theorem scLRule : FnScope ["_law_pen_here", "_law_kind", "_law_way_here", "_law_stay"] ["_law_pen_here"] (defScope sLRule) := ⟨rfl, rfl, rfl, by decide +kernel, rfl, by decide +kernel, by decide +kernel⟩
abbrev sLSteps : Stmt := top 32
theorem scLSteps : FnScope ["_law_kind", "_law_found"] ["_law_kind"] (defScope sLSteps) := ⟨rfl, rfl, rfl, by decide +kernel, rfl, by decide +kernel, by decide +kernel⟩
abbrev sLGrowth : Stmt := top 33
theorem scLGrowth : FnScope ["_law_told", "_law_way_here", "_law_steps_here", "_law_falls"] ["_law_told", "_law_way_here"] (defScope sLGrowth) := ⟨rfl, rfl, rfl, by decide +kernel, rfl, by decide +kernel, by decide +kernel⟩
abbrev sLShows : Stmt := top 34
theorem scLShows : FnScope ["_law_told", "_law_many_here", "_law_move_here", "_law_way_here", "_law_high"] ["_law_told", "_law_many_here", "_law_move_here", "_law_way_here"] (defScope sLShows) := ⟨rfl, rfl, rfl, by decide +kernel, rfl, by decide +kernel, by decide +kernel⟩
abbrev sLWays : Stmt := top 35
theorem scLWays : FnScope ["_law_found", "_law_a"] [] (defScope sLWays) := ⟨rfl, rfl, rfl, by decide +kernel, rfl, by decide +kernel, by decide +kernel⟩
abbrev sLMany : Stmt := top 36
theorem scLMany : FnScope ["_law_pen_here"] ["_law_pen_here"] (defScope sLMany) := ⟨rfl, rfl, rfl, by decide +kernel, rfl, by decide +kernel, by decide +kernel⟩
abbrev sLMove : Stmt := top 37
theorem scLMove : FnScope ["_law_pen_here", "_law_told", "_law_many_here", "_law_sign", "_law_slope", "_law_long", "_law_side", "_law_far"] ["_law_pen_here", "_law_told", "_law_many_here"] (defScope sLMove) := ⟨rfl, rfl, rfl, by decide +kernel, rfl, by decide +kernel, by decide +kernel⟩
abbrev sLWay : Stmt := top 38
theorem scLWay : FnScope ["_law_pen_here", "_law_way_here"] ["_law_pen_here"] (defScope sLWay) := ⟨rfl, rfl, rfl, by decide +kernel, rfl, by decide +kernel, by decide +kernel⟩
abbrev sLFoundRight : Stmt := top 39
theorem scLFoundRight : FnScope ["_law_told", "_law_many_here", "_law_move_here", "_law_found", "_law_shown"] ["_law_told", "_law_many_here", "_law_move_here"] (defScope sLFoundRight) := ⟨rfl, rfl, rfl, by decide +kernel, rfl, by decide +kernel, by decide +kernel⟩
abbrev sLIsRefused : Stmt := top 40
theorem scLIsRefused : FnScope ["_law_told", "_law_many_here", "_law_move_here", "_law_way_here", "_law_found", "e", "_law_other"] ["_law_told", "_law_many_here", "_law_move_here", "_law_way_here"] (defScope sLIsRefused) := ⟨rfl, rfl, rfl, by decide +kernel, rfl, by decide +kernel, by decide +kernel⟩
abbrev sLSomeRight : Stmt := top 41
theorem scLSomeRight : FnScope ["_law_lively", "_law_six", "_law_rows", "_law_told", "_law_many_here", "_law_move_here"] [] (defScope sLSomeRight) := ⟨rfl, rfl, rfl, by decide +kernel, rfl, by decide +kernel, by decide +kernel⟩
abbrev sLaw : Stmt := top 42
theorem scLaw : FnScope ["_law_script", "_law_k", "_law_pen_here", "_law_told", "_law_turn", "_law_many_here", "_law_move_here", "_law_way_here", "_law_shown", "_law_loud"] ["_law_script"] (defScope sLaw) := ⟨rfl, rfl, rfl, by decide +kernel, rfl, by decide +kernel, by decide +kernel⟩

structure Txt (mg : Str → Option Value) : Prop where
  len_ : mg "len" = none
  range : mg "range" = none
  abs_ : mg "abs" = none
  isinstance_ : mg "isinstance" = none
  int_ : mg "int" = none
  bool_ : mg "bool" = none
  list_ : mg "list" = none
  tuple_ : mg "tuple" = none
  sorted_ : mg "sorted" = none
  max_ : mg "max" = none
  min_ : mg "min" = none
  all_ : mg "all" = none
  any_ : mg "any" = none
  set_ : mg "set" = none
  sum_ : mg "sum" = none
  str_ : mg "str" = none
def Pn (b : Nat) (pn : List Int) : Prop := ∃ x y c : Int, pn = [x, y, c] ∧ 0 ≤ c ∧ c ≤ b
theorem Pn.le {b b' : Nat} {pn : List Int} (h : Pn b pn) (e : b ≤ b') : Pn b' pn := let ⟨x, y, c, h1, h2, h3⟩ := h; ⟨x, y, c, h1, h2, by lia⟩
def pPen : List D → (D → Prop) → Prop := fun ds R => ∃ (ns : List Int) (k : Nat), ds = [.lst (ns.map .int), .int k] ∧ k ≤ 1000 ∧ ∀ x y : Int, R (.lst ([x, y, 0].map .int))
def pLaw : List D → (D → Prop) → Prop := fun ds R => ∃ ns : List Int, ds = [.lst (ns.map .int)] ∧ ns.length ≤ 63 ∧ R (.bl true)
def pDraw : List Int → List D → (D → List Int → Prop) → Prop := fun pn ds R => ∃ (b : Nat) (m : Int), ds = [.int m] ∧ Pn b pn ∧ b ≤ 1000000 ∧ 0 < m ∧ m < 1073741824 ∧ ∀ (pn' : List Int) (r : Int), Pn (b + 1) pn' → 0 ≤ r → r < m → R (.int r) pn'
theorem atI_ints {ns : List Int} {j : Nat} (h : j < ns.length) : atI (ns.map D.int) (j : Int) = some (.int (ns[j])) := by
  exact atI_nat (by simp [h])
section
variable {P : Program} {w : World} {K : PySem.W.Frag} {mg : Str → Option Value} {base : Heap}
theorem ok_pen (S : Src K mg "_law_pen" sLPen) (T : Txt mg) : Has P w K mg base 1 "_law_pen" ["_law_script", "_law_k"] (spP K pPen) := by
  refine has_P S scLPen (fun _ _ _ _ _ _ us hl => match us, hl with | [_, _], _ => rfl) (fun ds R zq1 => by obtain ⟨_, _, e, _⟩ := zq1; rw [e]; rfl) fun f cdv A outer s H E hr => ⟨_, _, (vss_cons (vs_set1 (i := 2) scLPen.nd rfl (Or.inl rfl) (ve_op op_add l_rI0 (ve_op op_mul l_rI ve_int (ve_var 1 (pv 1))) ve_int))
    (vss_cons (vs_if (vt_cmp op_lt l_rI0 (ve_var 1 (pv 1)) (ve_callB (c_len (K := K) rfl) l_len (by rfl) T.len_ bt_len (va_cons (ve_var 0 (pv 0)) va_nil)) (nomark _)) (vss_one (vs_set1 (i := 2) scLPen.nd rfl (Or.inl rfl) (ve_ix rfl (ve_var 0 (pv 0)) (ve_var 1 (pv 1)) (fun _ _ => rfl)))) (vss_one (vs_if (vt_cmp op_gt l_rI0 (ve_callB (c_len (K := K) rfl) l_len (by rfl) T.len_ bt_len (va_cons (ve_var 0 (pv 0)) va_nil)) ve_int (nomark _)) (vss_one (vs_set1 (i := 2) scLPen.nd rfl (Or.inl rfl) (ve_op op_add l_rI0 (ve_op op_mod l_rI (ve_ix rfl (ve_var 0 (pv 0)) (ve_op op_mod l_rI (ve_var 1 (pv 1)) (ve_callB (c_len (K := K) rfl) l_len (by rfl) T.len_ bt_len (va_cons (ve_var 0 (pv 0)) va_nil))) (fun _ _ => rfl)) ve_int) (ve_op op_mul l_rI ve_int (ve_var 1 (pv 1)))))) vss_nil)))
    (vss_cons (vs_if (vt_cmp op_ge l_rI0 (ve_var 2 (pv 2)) (ve_op op_pow l_rI ve_int ve_int) (nomark _)) (vss_one (vs_ret (ve_new (vn_lst (va_cons (ve_op op_sub l_rI0 (ve_var 2 (pv 2)) (ve_op op_pow l_rI ve_int ve_int)) (va_cons (ve_op op_mod l_rI (ve_var 2 (pv 2)) ve_int) (va_cons ve_int va_nil))))))) vss_nil)
    (vss_one (vs_ret (ve_new (vn_lst (va_cons ve_int (va_cons (ve_op op_mod l_rI (ve_var 2 (pv 2)) ve_int) (va_cons ve_int va_nil)))))))))), ?_⟩
  rintro ds R ⟨ns, k, rfl, hk, q⟩
  have fin : ∀ (x y : Int), R (.lst [.int x, .int y, .int 0]) := fun x y => q x y
  walk_at "sl"
  walk_at "rd"
  rw [List.length_map]
  refine i_kIfd (fun h1 => ?_) (fun h1 => ?_)
  · have h1' : k < ns.length := by lia
    walk_at "rd"
    refine j_ixL rfl rfl (atI_ints h1') ?_
    walk_at "rd"
    refine i_kIfd (fun h1 => ?_) (fun h1 => ?_)
    all_goals (walk_at "rd"; exact fin _ _)
  · walk_at "rd"
    rw [List.length_map]
    refine i_kIfd (fun h2 => ?_) (fun h2 => ?_)
    · walk_at "rd"
      rw [List.length_map]
      have h2' : 0 < ns.length := by lia
      have e : ((k : Int) % (ns.length : Int)) = ((k % ns.length : Nat) : Int) := by lia
      refine j_wI (by show (0 : Int) < _; lia) ?_
      dsimp only [ofV]
      rw [e]
      refine j_ixL rfl rfl (atI_ints (Nat.mod_lt _ h2')) ?_
      walk_at "rd"
      refine i_kIfd (fun h1 => ?_) (fun h1 => ?_)
      all_goals (walk_at "rd"; exact fin _ _)
    · walk_at "rd"
      refine i_kIfd (fun h1 => ?_) (fun h1 => ?_)
      all_goals (walk_at "rd"; exact fin _ _)
theorem ok_draw (S : Src K mg "_law_draw" sLDraw) (T : Txt mg) : Has P w K mg base 1 "_law_draw" ["_law_pen_here", "_law_many_here"] (spI K 0 pDraw) := by
  refine has_I 0 S scLDraw (fun _ _ _ _ _ _ us hl => match us, hl with | [_, _], _ => rfl) (fun ns ds R zq1 => by obtain ⟨_, _, e, _⟩ := zq1; rw [e]; rfl) fun f cdv A outer s H E hr => ⟨_, _, (vss_cons (vs_setIx 0 (pv 0) (ve_op op_add l_rI0 (ve_ix rfl (ve_var 0 (pv 0)) ve_int (fun _ _ => rfl)) ve_int) ve_int)
    (vss_cons (vs_if (vt_cmp op_gt l_rI0 (ve_ix rfl (ve_var 0 (pv 0)) ve_int (fun _ _ => rfl)) ve_int (nomark _)) (vss_cons (vs_set1 (i := 2) scLDraw.nd rfl (Or.inl rfl) (ve_op op_mod l_rI (ve_ix rfl (ve_var 0 (pv 0)) ve_int (fun _ _ => rfl)) (ve_var 1 (pv 1))))
    (vss_cons (vs_setIx 0 (pv 0) (ve_op op_fdiv l_rI (ve_ix rfl (ve_var 0 (pv 0)) ve_int (fun _ _ => rfl)) (ve_var 1 (pv 1))) ve_int)
    (vss_one (vs_ret (ve_flat (ve_var 2 (pv 2))))))) vss_nil)
    (vss_cons (vs_set1 (i := 3) scLDraw.nd rfl (Or.inl rfl) (ve_op op_mod l_rI (ve_op op_add l_rI0 (ve_op op_add l_rI0 (ve_ix rfl (ve_var 0 (pv 0)) ve_int (fun _ _ => rfl)) (ve_op op_mul l_rI ve_int (ve_ix rfl (ve_var 0 (pv 0)) ve_int (fun _ _ => rfl)))) ve_int) ve_int))
    (vss_cons (vs_set1 (i := 3) scLDraw.nd rfl (Or.inl rfl) (ve_op op_add l_rI0 (ve_op op_mod l_rI (ve_op op_mul l_rI (ve_var 3 (pv 3)) (ve_var 3 (pv 3))) ve_int) (ve_op op_mul l_rI ve_int (ve_ix rfl (ve_var 0 (pv 0)) ve_int (fun _ _ => rfl)))))
    (vss_cons (vs_set1 (i := 3) scLDraw.nd rfl (Or.inl rfl) (ve_op op_mod l_rI (ve_op op_mul l_rI (ve_var 3 (pv 3)) (ve_var 3 (pv 3))) ve_int))
    (vss_one (vs_ret (ve_op op_mod l_rI (ve_op op_fdiv l_rI (ve_var 3 (pv 3)) ve_int) (ve_var 1 (pv 1)))))))))), ?_⟩
  rintro a pn ds es R hl ⟨b, m, e, ⟨x, y, c, rfl, hc0, hc1⟩, hb, hm0, hm1, q⟩
  obtain rfl : ds = [] := List.eq_nil_of_length_eq_zero hl
  obtain rfl : es = [.int m] := e
  walk_at "sl"
  walk_at "rd"
  refine i_kIfd (fun h1 => ?_) (fun h1 => ?_)
  · walk_at "rd"
    exact ⟨_, rfl, q _ _ ⟨_, _, _, rfl, by lia, by lia⟩ (Int.emod_nonneg _ (by lia)) (Int.emod_lt_of_pos _ hm0)⟩
  · walk_at "rd"
    exact ⟨_, rfl, q _ _ ⟨_, _, _, rfl, by lia, by lia⟩ (Int.emod_nonneg _ (by lia)) (Int.emod_lt_of_pos _ hm0)⟩
end
end My
namespace My
open PySem L2 VL
def nr (k : Int) : List (List Int) := if k = 4 then [[-1, 0], [0, -1], [0, 1], [1, 0]] else if k = 6 then [[-1, -1], [-1, 0], [0, -1], [0, 1], [1, 0], [1, 1]] else [[-1, -1], [-1, 0], [-1, 1], [0, -1], [0, 1], [1, -1], [1, 0], [1, 1]]
def rows : List (Int × List (List Int)) := [(4, nr 4), (6, nr 6), (8, nr 8)]
def Kd (k : Int) : Prop := k = 4 ∨ k = 6 ∨ k = 8
theorem rows_mem {k : Int} (hk : Kd k) : (k, nr k) ∈ rows := by rcases hk with rfl | rfl | rfl <;> simp [rows]
theorem nr_small {k : Int} (hk : Kd k) {m : List Int} (h : m ∈ nr k) : ∃ x y, m = [x, y] ∧ -1 ≤ x ∧ x ≤ 1 ∧ -1 ≤ y ∧ y ≤ 1 := by
  have : (nr k).all (fun m => match m with | [x, y] => decide (-1 ≤ x) && decide (x ≤ 1) && decide (-1 ≤ y) && decide (y ≤ 1) | _ => false) = true := by rcases hk with rfl | rfl | rfl <;> decide +kernel
  have := List.all_eq_true.mp this m h
  match m, this with
  | [x, y], h => simp only [Bool.and_eq_true, decide_eq_true_eq] at h; exact ⟨x, y, rfl, h.1.1.1, h.1.1.2, h.1.2, h.2⟩
theorem nr_len {k : Int} (hk : Kd k) : (nr k).length ≤ 8 := by rcases hk with rfl | rfl | rfl <;> decide
def rl (k : Int) (b s : List Int) : D := .tup [.int k, .tup (b.map .int), .tup (s.map .int)]
end My


namespace My
open PySem L2 VL
def pOff : List D → (D → Prop) → Prop := fun ds R => ∃ k, ds = [.int k] ∧ Kd k ∧ R (eL (nr k))
def pQuiet : List D → (D → Prop) → Prop := fun ds R => ∃ k bo st, ds = [rl k bo st] ∧ R (.bl (decide (0 ∉ bo)))
def pLoud : List D → (D → Prop) → Prop := fun ds R => ∃ k bo st, ds = [rl k bo st] ∧ 0 ∉ bo ∧ R .non
def badL (c : Addr) (ds : List D) (C : Addr) : Prop := C = c ∧ ∃ k bo st, ds = [rl k bo st] ∧ 0 ∈ bo
theorem wInD_tup {neg : Bool} {d : D} {ds : List D} {q : D → Prop} : wInD neg d (.lst ds) q → wInD neg d (.tup ds) q := by
  rintro ⟨ds', h, r⟩
  rcases h with h | h
  · cases h; exact ⟨_, .inr rfl, r⟩
  · cases h
def fr (p : Nat → Bool) (w : Nat) : List Nat := (List.range w).filter p
theorem fr_succ (p : Nat → Bool) (w : Nat) : fr p (w + 1) = fr p w ++ if p w = true then [w] else [] := by
  unfold fr
  rw [List.range_succ, List.filter_append]
  congr 1
  by_cases h : p w = true <;> simp [h]
theorem frI_map (l : List Nat) (lo : Int) : (l.map fun (i : Nat) => D.int (lo + (i : Int))) = (l.map fun (i : Nat) => lo + (i : Int)).map D.int := by rw [List.map_map]; rfl
theorem flats_frI (l : List Nat) (lo : Int) : flats (l.map fun (i : Nat) => D.int (lo + (i : Int))) = true := by
  rw [show (l.map fun (i : Nat) => D.int (lo + (i : Int))) = (l.map fun (i : Nat) => lo + (i : Int)).map D.int by rw [List.map_map]; rfl]
  exact flats_ints _
theorem fr_upd (p : Nat → Bool) (b : Bool) (w : Nat) : fr (fun x => if x = w then b else p x) (w + 1) = fr p w ++ if b = true then [w] else [] := by
  rw [fr_succ]
  congr 1
  · unfold fr
    refine List.filter_congr fun x hx => ?_
    have := List.mem_range.mp hx
    rw [if_neg (by lia)]
  · rw [if_pos rfl]
theorem backFrom_id {T : List Sl} : ∀ (r : List Sl) (k : Nat), backFrom 1 [0] T (k + 1) r = r
  | [], _ => rfl
  | s :: r, k => by
    have : ([0] : List Nat).idxOf? (k + 1) = none := by simp [List.idxOf?, List.findIdx?_cons]
    unfold backFrom
    rw [this, backFrom_id r (k + 1)]
theorem backS_pen {ad : Option Addr} {pn pn2 : List Int} {rest : List Sl} {x : Sl} : backS 1 [0] (.pen ad pn :: rest) [x, .pen ad pn2] = .pen ad pn2 :: rest := by
  show backFrom 1 [0] _ 0 _ = _
  unfold backFrom
  rw [backFrom_id]
  rfl
theorem comp_fd {ad : Option Addr} {pn : List Int} {rest : List Sl} {QN : List D → List Sl → Prop} {vt : VTT} {lo : Int} {n b : Nat} (hb : b + n ≤ 1000000) (hp : Pn b pn)
    (hvt : ∀ (b' : Nat) (pn' : List Int) (x : Int) (A : Bool → List Sl → Prop), Pn b' pn' → b' ≤ 1000000 → (∀ v pn2, Pn (b' + 1) pn2 → A v [.val (.int x), .pen ad pn2]) → vt [.val (.int x), .pen ad pn'] A)
    (q : ∀ (p : Nat → Bool) pn', Pn (b + n) pn' → QN ((fr p n).map fun (i : Nat) => D.int (lo + (i : Int))) (.pen ad pn' :: rest)) : kComp 1 [0] (vgN 0) vt (vFlat (vVar 0)) QN (rg lo n) (.pen ad pn :: rest) := by
  refine j_kCompR (fun i ys S2 => ∃ (p : Nat → Bool) (pn' : List Int), Pn (b + i) pn' ∧ ys = ((fr p i).map fun (i : Nat) => D.int (lo + (i : Int))) ∧ S2 = .pen ad pn' :: rest) (by lia) ⟨fun _ => false, pn, hp, rfl, rfl⟩ ?_ ?_
  · rintro i ys S2 hi ⟨p, pn', h1, rfl, rfl⟩
    refine ⟨(by show 0 < _; simp [capS]), ?_⟩
    show vt [.val (.int (lo + (i : Int))), .pen ad pn'] _
    refine hvt (b + i) pn' _ _ h1 (by lia) fun v pn2 h2 => ?_
    cases v with
    | true =>
      refine j_kCompT (fun _ => ?_) (fun e => nomatch e)
      refine ⟨.d (.int (lo + (i : Int))), rfl, rfl, ?_⟩
      refine j_kCompE ?_
      rw [backS_pen]
      exact ⟨fun x => if x = i then true else p x, pn2, h2, by rw [fr_upd, List.map_append]; rfl, rfl⟩
    | false =>
      refine j_kCompT (fun e => nomatch e) (fun _ => ?_)
      rw [backS_pen]
      exact ⟨fun x => if x = i then false else p x, pn2, h2, by rw [fr_upd, List.map_append]; simp, rfl⟩
  · rintro ys S2 ⟨p, pn', h1, rfl, rfl⟩
    exact q p pn' h1
theorem kd_of {r : Int} (h0 : 0 ≤ r) (h1 : r < 3) : ∃ k, Kd k ∧ atI [D.int 4, .int 6, .int 8] r = some (.int k) := by
  have : r = 0 ∨ r = 1 ∨ r = 2 := by lia
  rcases this with rfl | rfl | rfl
  · exact ⟨4, .inl rfl, rfl⟩
  · exact ⟨6, .inr (.inl rfl), rfl⟩
  · exact ⟨8, .inr (.inr rfl), rfl⟩
def eB3 (bs : List Bool) : D := .tup (bs.map D.bl)
theorem enc_eB3 : Enc 1 eB3 := enc_bl.tup
theorem cutT {ds : List D} (n : Nat) : cutD ds none (some (n : Int)) = ds.take n := by
  unfold cutD
  rw [HT.sIx_nat, HT.sIx_none, List.drop_zero, Nat.sub_zero]
  by_cases h : n ≤ ds.length
  · rw [Nat.min_eq_left h]
  · rw [Nat.min_eq_right (by lia), List.take_of_length_le (Nat.le_refl _), List.take_of_length_le (by lia)]
def sp (k : Int) : List (List Int) := if k = 4 then [[0, -1], [-1, 0], [1, 0], [0, 1]] else if k = 6 then [[0, -1], [-1, 0], [1, 0], [0, 1], [-1, -1], [1, 1]] else [[0, -1], [-1, 0], [1, 0], [0, 1], [-1, -1], [1, 1], [-1, 1], [1, -1]]
def pSteps : List D → (D → Prop) → Prop := fun ds R => ∃ k, ds = [.int k] ∧ Kd k ∧ R (eL (sp k))
section
variable {P : Program} {w : World} {K : PySem.W.Frag} {mg : Str → Option Value} {base : Heap}
theorem ok_off {a_OFFSETS : Addr} (S : Src K mg "offsets" sOffsets) (T : Txt mg) (hD : mg "OFFSETS" = some (.ref a_OFFSETS)) (kD : okD K a_OFFSETS rows = true) : Has P w K mg base 1 "offsets" ["kind"] (spP K pOff) := by
  refine has_P S scOffsets (fun _ _ _ _ _ _ us hl => match us, hl with | [_], _ => rfl) (fun ds R zq1 => by obtain ⟨_, e, _⟩ := zq1; rw [e]; rfl) fun f cdv A outer s H E hr => ⟨_, _, (vss_one (vs_ret (ve_new (vn_list rfl (by rfl) T.list_ (va_cons (ve_ixD (rows := rows) rfl kD (pe_glob (v := .ref a_OFFSETS) (by rfl) hD rfl) (ve_var 0 (pv 0)) (fun _ _ => rfl)) va_nil))))), ?_⟩
  rintro ds R ⟨k, rfl, hk, q⟩
  walk_at "sl"
  walk_at "rd"
  refine j_kIxD rfl (rows_mem hk) ?_
  walk_at "rd"
  exact j_kListT rfl (flats_eT _) (by walk_at "rd"; exact q)
theorem ok_quiet (S : Src K mg "is_quiet" sIsQuiet) (T : Txt mg) : Has P w K mg base 1 "is_quiet" ["rule"] (spP K pQuiet) := by
  refine has_P S scIsQuiet (fun _ _ _ _ _ _ us hl => match us, hl with | [_], _ => rfl) (fun ds R zq1 => by obtain ⟨_, _, _, e, _⟩ := zq1; rw [e]; rfl) fun f cdv A outer s H E hr => ⟨_, _, (vss_one (vs_ret (ve_cmp (op_notInD (K := K) rfl hr.units) l_inD ve_int (ve_ix rfl (ve_var 0 (pv 0)) ve_int (fun _ _ => rfl)) (by with_unfolding_all rfl)))), ?_⟩
  rintro ds R ⟨k, bo, sy, rfl, q⟩
  unfold rl
  walk_at "sl"
  walk_at "rc"
  by_cases h : 0 ∈ bo
  · refine wInD_tup (i_niF (f := D.int) (l := bo) enc_int h ?_)
    walk_at "rc"
    rw [decide_eq_false (by simpa using h)] at q
    exact q
  · refine wInD_tup (i_niT (f := D.int) (l := bo) enc_int h ?_)
    walk_at "rc"
    rw [decide_eq_true h] at q
    exact q
theorem ok_loud (S : Src K mg "refuse_loud" sRefuseLoud) (T : Txt mg) (E_is_quiet : Has P w K mg base 1 "is_quiet" ["rule"] (spP K pQuiet)) : Has P w K mg base 2 "refuse_loud" ["rule"] (spP K pLoud) := by
  refine has_P S scRefuseLoud (fun _ _ _ _ _ _ us hl => match us, hl with | [_], _ => rfl) (fun ds R zq1 => by obtain ⟨_, _, _, e, _⟩ := zq1; rw [e]; rfl) fun f cdv A outer s H E hr => ⟨_, _, (vss_one (vs_if (vt_not (vt_val (ve_fn E_is_quiet hr (va_cons (ve_var 0 (pv 0)) va_nil)))) (vss_one vs_never) vss_nil)), ?_⟩
  rintro ds R ⟨k, bo, st, rfl, h0, q⟩
  walk_at "sl"
  walk_at "rd"
  refine ⟨k, bo, st, rfl, ?_⟩
  rw [decide_eq_true h0]
  walk_at "rc"
  exact q
theorem ok_loudX {c_Loud : Addr} (S : Src K mg "refuse_loud" sRefuseLoud) (T : Txt mg) (E_is_quiet : Has P w K mg base 1 "is_quiet" ["rule"] (spP K pQuiet)) (g_Loud : mg "Loud" = some (.ref c_Loud))
    (x_Loud : PySem.W.excIn K c_Loud [.type "ValueError", .type "Exception", .type "BaseException", .type "object"] "ValueError.__new__" = true) : HasX P w K mg base 2 "refuse_loud" ["rule"] (badL c_Loud) := by
  refine has_X S scRefuseLoud (fun _ _ _ _ _ _ us hl => match us, hl with | [_], _ => rfl) (fun ds C h => by obtain ⟨_, _, _, _, e, _⟩ := h; rw [e]; rfl) fun f cdv A outer s H E hr TH => ⟨_, _, (vx_if (vt_not (vt_val (ve_fn E_is_quiet hr (va_cons (ve_var 0 (pv 0)) va_nil)))) (vx_raise TH PySem.F.excBase_ValueError x_Loud g_Loud rfl)
    vx_never), ?_⟩
  rintro ds C ⟨rfl, k, bo, st, rfl, h0⟩
  walk_at "sl"
  walk_at "rd"
  refine ⟨k, bo, st, rfl, ?_⟩
  rw [decide_eq_false (by simpa using h0)]
  walk_at "rc"
  exact if_pos rfl ▸ trivial
theorem ok_steps (S : Src K mg "_law_steps" sLSteps) (T : Txt mg) : Has P w K mg base 1 "_law_steps" ["_law_kind"] (spP K pSteps) := by
  refine has_P S scLSteps (fun _ _ _ _ _ _ us hl => match us, hl with | [_], _ => rfl) (fun ds R zq1 => by obtain ⟨_, e, _⟩ := zq1; rw [e]; rfl) fun f cdv A outer s H E hr => ⟨_, _, (vss_cons (vs_setN (fun _ h => ps_set (i := 1) scLSteps.nd rfl (Or.inl rfl) h) (vn_lst (va_cons (ve_tup (va_cons ve_int (va_cons (ve_un un_neg ve_int) va_nil))) (va_cons (ve_tup (va_cons (ve_un un_neg ve_int) (va_cons ve_int va_nil))) (va_cons (ve_tup (va_cons ve_int (va_cons ve_int va_nil))) (va_cons (ve_tup (va_cons ve_int (va_cons ve_int va_nil))) va_nil))))))
    (vss_cons (vs_if (vt_cmp op_gt l_rI0 (ve_var 0 (pv 0)) ve_int (nomark _)) (vss_one (vs_setN (fun _ h => ps_set (i := 1) scLSteps.nd rfl (Or.inl rfl) h) (vn_cat 1 (pv 1) (vn_lst (va_cons (ve_tup (va_cons (ve_un un_neg ve_int) (va_cons (ve_un un_neg ve_int) va_nil))) (va_cons (ve_tup (va_cons ve_int (va_cons ve_int va_nil))) va_nil)))))) vss_nil)
    (vss_cons (vs_if (vt_cmp op_eq l_eq (ve_var 0 (pv 0)) ve_int (nomark _)) (vss_one (vs_setN (fun _ h => ps_set (i := 1) scLSteps.nd rfl (Or.inl rfl) h) (vn_cat 1 (pv 1) (vn_lst (va_cons (ve_tup (va_cons (ve_un un_neg ve_int) (va_cons ve_int va_nil))) (va_cons (ve_tup (va_cons ve_int (va_cons (ve_un un_neg ve_int) va_nil))) va_nil)))))) vss_nil)
    (vss_one (vs_ret (ve_flat (ve_var 1 (pv 1)))))))), ?_⟩
  rintro ds R ⟨k, rfl, hk, q⟩
  walk_at "sl"
  rcases hk with rfl | rfl | rfl
  · walk_at "rc"
    exact q
  · walk_at "rc"
    refine j_kCat rfl (Nat.le_of_ble_eq_true rfl) ?_
    walk_at "rc"
    exact q
  · walk_at "rc"
    refine j_kCat rfl (Nat.le_of_ble_eq_true rfl) ?_
    walk_at "rc"
    refine j_kCat rfl (Nat.le_of_ble_eq_true rfl) ?_
    walk_at "rc"
    exact q
end
end My


namespace My
open PySem L2 VL
def qn : Str := "lowest_parents.<locals>.<lambda>"
def hg (a b : Int) (ms : List Int) : Int := match ms with
  | [x, y] => a * x + b * y
  | _ => 0
def Wc (ms : List Int) : Prop := ∃ x y, ms = [x, y] ∧ Wd x ∧ Wd y
theorem wd_small {x : Int} (h1 : -1 ≤ x) (h2 : x ≤ 1) : Wd x := wd_of (Nat.lt_of_le_of_lt (show x.natAbs ≤ 1 by lia) (Nat.one_lt_two_pow (by decide)))
theorem nr_wc {k : Int} (hk : Kd k) {m : List Int} (h : m ∈ nr k) : Wc m := by
  obtain ⟨x, y, e, h1, h2, h3, h4⟩ := nr_small hk h
  exact ⟨x, y, e, wd_small h1 h2, wd_small h3 h4⟩
theorem wd_60 {x : Int} (h : x.natAbs ≤ 10 ^ 61) : Wd x := wd_of (Nat.lt_of_le_of_lt h (by decide))
theorem mx_take {l : List Int} (h : l.Pairwise (· ≤ ·)) {n : Nat} (h0 : 0 < n) (hn : n ≤ l.length) {M : Int} (hM : M ∈ l.take n) (hg : ∀ a ∈ l.take n, a ≤ M) : M = l.getD (n - 1) 0 := by
  have hlen : (l.take n).length = n := by rw [List.length_take]; lia
  have hp : (l.take n).Pairwise (· ≤ ·) := h.sublist (List.take_sublist _ _)
  have hi : n - 1 < (l.take n).length := by lia
  have e : l.getD (n - 1) 0 = (l.take n)[n - 1] := by
    rw [List.getElem_take, List.getD_eq_getElem?_getD, List.getElem?_eq_getElem (by lia)]
    rfl
  rw [e]
  refine Int.le_antisymm ?_ (hg _ (List.getElem_mem hi))
  obtain ⟨j, hj, rfl⟩ := List.getElem_of_mem hM
  by_cases hjn : j = n - 1
  · subst hjn; exact Int.le_refl _
  · exact List.pairwise_iff_getElem.mp hp j (n - 1) hj hi (by lia)
theorem sorted_eq {l l' : List Int} (p : l.Perm l') (h : l.Pairwise (· ≤ ·)) (h' : l'.Pairwise (· ≤ ·)) : l = l' := List.Perm.eq_of_pairwise (fun _ _ _ _ h1 h2 => Int.le_antisymm h1 h2) h h' p
def fl (k a b : Int) : List Int := ((nr k).map (hg a b)).mergeSort (fun x y => decide (x ≤ y))
theorem fl_perm (k a b : Int) : (fl k a b).Perm ((nr k).map (hg a b)) := List.mergeSort_perm _ _
theorem fl_sorted (k a b : Int) : (fl k a b).Pairwise (· ≤ ·) := by
  have := List.pairwise_mergeSort (le := fun x y : Int => decide (x ≤ y)) (fun a b c h1 h2 => by simp only [decide_eq_true_eq] at *; lia) (fun a b => by simp only [Bool.or_eq_true, decide_eq_true_eq]; lia) ((nr k).map (hg a b))
  exact this.imp fun h => of_decide_eq_true h
theorem fl_of {k a b : Int} {l : List Int} (p : l.Perm ((nr k).map (hg a b))) (h : l.Pairwise (· ≤ ·)) : l = fl k a b := sorted_eq (p.trans (fl_perm k a b).symm) h (fl_sorted k a b)
theorem fl_len (k a b : Int) : (fl k a b).length = (nr k).length := by rw [(fl_perm k a b).length_eq, List.length_map]
def grw (k : Int) (bo : List Int) (a b : Int) : Int := match bo with
  | [] => 0
  | c :: _ => if 0 < -((fl k a b).getD (c.toNat - 1) 0) then -((fl k a b).getD (c.toNat - 1) 0) else 0
def Bo (k : Int) (bo : List Int) : Prop := (∀ c ∈ bo, 1 ≤ c ∧ c ≤ k) ∧ bo.length ≤ 20
theorem Bo.zero {k : Int} {bo : List Int} (h : Bo k bo) : 0 ∉ bo := fun z => by have := (h.1 0 z).1; lia
theorem nr_k {k : Int} (hk : Kd k) : ((nr k).length : Int) = k := by rcases hk with rfl | rfl | rfl <;> rfl
def pCh : List D → (D → Prop) → Prop := fun ds R => ∃ ms a b, ds = [eT ms, eT [a, b]] ∧ Wc ms ∧ Wd a ∧ Wd b ∧ R (.int (hg a b ms))
def pHt : List D → (D → Prop) → Prop := fun ds R => ∃ mss a b, ds = [eL mss, eT [a, b]] ∧ (∀ m ∈ mss, Wc m) ∧ mss.length ≤ 2000 ∧ mss ≠ [] ∧ Wd a ∧ Wd b ∧ ∀ M, M ∈ mss.map (hg a b) → (∀ z ∈ mss.map (hg a b), z ≤ M) → R (.int M)
def pLp : List D → (D → Prop) → Prop := fun ds R => ∃ k bo st a b, ds = [rl k bo st, eT [a, b]] ∧ Kd k ∧ Bo k bo ∧ Wd a ∧ Wd b ∧ (bo = [] → R (eL [])) ∧ ∀ c r, bo = c :: r → ∀ out : List (List Int), out.Perm (nr k) → out.Pairwise (fun x y => hg a b x ≤ hg a b y) → R (eL (out.take c.toNat))
def pGrow : List D → (D → Prop) → Prop := fun ds R => ∃ k bo st a b, ds = [rl k bo st, eT [a, b]] ∧ Kd k ∧ Bo k bo ∧ Wd a ∧ Wd b ∧ R (.int (grw k bo a b))
def badG (c : Addr) (ds : List D) (C : Addr) : Prop := ∃ r p, ds = [r, p] ∧ badL c [r] C
section
variable {P : Program} {w : World} {K : PySem.W.Frag} {mg : Str → Option Value} {base : Heap} {Pt c : Addr}
theorem ok_ch (S : Src K mg "cell_height" sCellHeight) (T : Txt mg) : Has P w K mg base 1 "cell_height" ["cell", "way"] (spP K pCh) := by
  refine has_P S scCellHeight (fun _ _ _ _ _ _ us hl => match us, hl with | [_, _], _ => rfl) (fun ds R zq1 => by obtain ⟨_, _, _, e, _⟩ := zq1; rw [e]; rfl) fun f cdv A outer s H E hr => ⟨_, _, (vss_one (vs_ret (ve_op op_add l_rI0 (ve_op op_mulB l_rI (ve_ix rfl (ve_var 1 (pv 1)) ve_int (fun _ _ => rfl)) (ve_ix rfl (ve_var 0 (pv 0)) ve_int (fun _ _ => rfl))) (ve_op op_mulB l_rI (ve_ix rfl (ve_var 1 (pv 1)) ve_int (fun _ _ => rfl)) (ve_ix rfl (ve_var 0 (pv 0)) ve_int (fun _ _ => rfl)))))), ?_⟩
  rintro ds R ⟨ms, a, b, rfl, ⟨x, y, rfl, hx, hy⟩, ha, hb, q⟩
  walk_at "sl"
  walk_at "rd"
  exact q
theorem ok_ht (S : Src K mg "height" sHeight) (T : Txt mg) (E_cell_height : Has P w K mg base 1 "cell_height" ["cell", "way"] (spP K pCh)) : Has P w K mg base 2 "height" ["picture", "way"] (spP K pHt) := by
  refine has_P S scHeight (fun _ _ _ _ _ _ us hl => match us, hl with | [_, _], _ => rfl) (fun ds R zq1 => by obtain ⟨_, _, _, e, _⟩ := zq1; rw [e]; rfl) fun f cdv A outer s H E hr => ⟨_, _, (vss_one (vs_ret (ve_callB (c_max1 (K := K) rfl rfl) l_min1 (by rfl) T.max_ bt_max (va_cons (ve_new (vn_comp (tg := ["cell"]) (cs := ["way"]) (ix := [1]) (comp_scope (defScope sHeight) ["picture", "way"] (by decide +kernel)) rfl (keeps_name (by decide)) (by decide) (vi_list rfl (ve_var 0 (pv 0))) (fun _ _ _ _ => (vg_name (pg_name (i := 0) (show (["cell", "way"] : List Str).Nodup by decide +kernel) rfl (Or.inl rfl) (by first | exact Or.inl rfl | exact Or.inr rfl)))) (fun _ _ _ _ => vts_nil) (fun _ _ _ _ => (ve_fn E_cell_height hr (va_cons (ve_var 0 (pv 0)) (va_cons (ve_var 1 (pv 1)) va_nil)))))) va_nil)))), ?_⟩
  rintro ds R ⟨mss, a, b, rfl, hw, hl, h0, ha, hb, q⟩
  walk_at "sl"
  walk_at "rd"
  refine comp_map (xs := mss) (en := eT) (f := fun m => .int (hg a b m)) (by lia) (fun m hm A B hA => ?_) ?_
  · dsimp only [capS, List.replicate, List.map_cons, List.map_nil, List.cons_append, List.nil_append]
    walk_at "rd"
    refine ⟨m, a, b, rfl, hw m hm, ha, hb, ?_⟩
    walk_at "rd"
    exact hA _ rfl
  rw [show mss.map (fun m => D.int (hg a b m)) = (mss.map (hg a b)).map D.int by rw [List.map_map]; rfl]
  walk_at "rd"
  refine j_min1 (by simpa using h0) fun M h1 h2 => ?_
  walk_at "rd"
  exact q M h1 h2
theorem ok_lp (S : Src K mg "lowest_parents" sLowestParents) (T : Txt mg) (E_offsets : Has P w K mg base 1 "offsets" ["kind"] (spP K pOff)) (E_cell_height : Has P w K mg base 1 "cell_height" ["cell", "way"] (spP K pCh)) (hC : PySem.W.codeHdIn K c Pt = true) (hB : Bmod mg base) (hcd : ∀ f fd, mg "lowest_parents" = some (.ref f) → (∃ oc od osl, K.lookup f = some ⟨oc, od, .func fd, osl⟩) → fd.code = .ref c) : Has P w K mg base 5 "lowest_parents" ["rule", "way"] (spT K Pt qn pLp) := by
  refine has_Tb S scLowestParents (fun _ _ _ _ _ _ us hl => match us, hl with | [_, _], _ => rfl) (fun ds R zq1 => by obtain ⟨_, _, _, _, _, e, _⟩ := zq1; rw [e]; rfl) fun f fd A outer s H E hr hT hmf hlk => ?_
  have hcode : fd.code = .ref c := hcd f fd hmf hlk
  refine ⟨_, _, (vss_cons (vs_asg (ve_var 0 (pv 0)) (vg_tup (n := 3) rfl rfl (vgs_cons (vg_name (pg_name (i := 2) scLowestParents.nd rfl (Or.inl rfl) (Or.inl rfl))) (vgs_cons (vg_name (pg_name (i := 3) scLowestParents.nd rfl (Or.inl rfl) (Or.inl rfl))) (vgs_cons (vg_name (pg_name (i := 4) scLowestParents.nd rfl (Or.inl rfl) (Or.inl rfl))) vgs_nil)))))
    (vss_cons (vs_if (vt_not (vt_tru rfl (ve_var 3 (pv 3)))) (vss_one (vs_ret (ve_new (vn_lst va_nil)))) vss_nil)
    (vss_cons (vs_set1 (i := 5) scLowestParents.nd rfl (Or.inl rfl) (ve_new (vn_sortK (m := false) (iy := 1) rfl hr (by rfl) T.sorted_ hcode hC hB hT (by rfl) (lam_scope (by decide +kernel)) rfl rfl rfl (hcl_of rfl rfl) (fun _ _ _ _ _ => rfl) (va_cons (ve_fn E_offsets hr (va_cons (ve_var 2 (pv 2)) va_nil)) va_nil) (fun _ _ _ _ _ _ hr => (ve_fn E_cell_height hr (va_cons (ve_var 0 (pv 0)) (va_cons (ve_var 1 (pv 1)) va_nil)))))))
    (vss_one (vs_ret (ve_new (vn_sl rfl (ve_var 5 (pv 5)) vo_none (vo_some (ve_ix rfl (ve_var 3 (pv 3)) ve_int (fun _ _ => rfl)))))))))), ?_⟩
  rintro ds R ⟨k, bo, st, a, b, rfl, hk, hbo, ha, hb, q0, q1⟩
  walk_at "sl"
  unfold rl
  walk_at "rd"
  cases bo with
  | nil =>
    refine j_kTru (b := false) rfl rfl ?_
    walk_at "rc"
    exact q0 rfl
  | cons c0 r =>
    obtain ⟨c1, c2⟩ := hbo.1 c0 List.mem_cons_self
    refine j_kTru (b := true) rfl rfl ?_
    walk_at "rc"
    refine ⟨k, rfl, hk, ?_⟩
    walk_at "rc"
    refine j_kSortK (hg a b) rfl (Nat.lt_of_le_of_lt (nr_len hk) (by decide)) rfl (fun ms hms => ?_) fun out h1 h2 => ?_
    · walk_at "rc"
      exact ⟨ms, a, b, rfl, nr_wc hk hms, ha, hb, rfl⟩
    walk_at "rc"
    refine j_kSl3E rfl (flats_eT _) (es := (out.take c0.toNat).map eT) (by have := cutT (ds := out.map eT) c0.toNat; rw [Int.toNat_of_nonneg (by lia)] at this; rw [this, List.map_take]) ?_
    walk_at "rc"
    exact q1 c0 r rfl out h1 h2
theorem ok_grow (S : Src K mg "growth" sGrowth) (T : Txt mg) (E_refuse_loud : Has P w K mg base 2 "refuse_loud" ["rule"] (spP K pLoud)) (E_lowest_parents : Has P w K mg base 5 "lowest_parents" ["rule", "way"] (spT K Pt qn pLp)) (E_height : Has P w K mg base 2 "height" ["picture", "way"] (spP K pHt)) : Has P w K mg base 6 "growth" ["rule", "way"] (spT K Pt qn pGrow) := by
  refine has_Tb S scGrowth (fun _ _ _ _ _ _ us hl => match us, hl with | [_, _], _ => rfl) (fun ds R zq1 => by obtain ⟨_, _, _, _, _, e, _⟩ := zq1; rw [e]; rfl) fun f fd A outer s H E hr hT hmf hlk => ⟨_, _, (vss_cons (vs_expr (ve_fn E_refuse_loud hr (va_cons (ve_var 0 (pv 0)) va_nil)))
    (vss_cons (vs_set1 (i := 2) scGrowth.nd rfl (Or.inl rfl) (ve_fnTb hT E_lowest_parents hr (va_cons (ve_var 0 (pv 0)) (va_cons (ve_var 1 (pv 1)) va_nil))))
    (vss_one (vs_ret (ve_ifExp (vt_tru rfl (ve_var 2 (pv 2))) (ve_callB (call_max2 rfl) l_mm (by rfl) T.max_ bt_max (va_cons ve_int (va_cons (ve_un un_neg (ve_fn E_height hr (va_cons (ve_var 2 (pv 2)) (va_cons (ve_var 1 (pv 1)) va_nil)))) va_nil))) ve_int))))), ?_⟩
  rintro ds R ⟨k, bo, st, a, b, rfl, hk, hbo, ha, hb, q⟩
  walk_at "sl"
  walk_at "rd"
  refine ⟨k, bo, st, rfl, hbo.zero, ?_⟩
  walk_at "rd"
  refine ⟨k, bo, st, a, b, rfl, hk, hbo, ha, hb, fun e => ?_, fun c0 r e out h1 h2 => ?_⟩
  · subst e
    walk_at "rd"
    refine j_kTru (b := false) rfl rfl ?_
    walk_at "rc"
    exact q
  · subst e
    obtain ⟨c1, c2⟩ := hbo.1 c0 List.mem_cons_self
    have hn : c0.toNat ≤ out.length := by
      have := nr_k hk
      rw [h1.length_eq]
      lia
    have hne : out.take c0.toNat ≠ [] := fun z => by
      have := congrArg List.length z
      rw [List.length_take, List.length_nil] at this
      lia
    obtain ⟨m0, r0, e0⟩ : ∃ m0 r0, out.take c0.toNat = m0 :: r0 := by
      cases hz : out.take c0.toNat with
      | nil => exact absurd hz hne
      | cons m0 r0 => exact ⟨m0, r0, rfl⟩
    walk_at "rd"
    refine j_kTru (b := true) rfl (by rw [e0]; rfl) ?_
    walk_at "rc"
    refine ⟨_, a, b, rfl, fun m hm => nr_wc hk (h1.mem_iff.mp (List.mem_of_mem_take hm)), by rw [List.length_take, h1.length_eq]; have := nr_len hk; lia, hne, ha, hb, fun M hM hM2 => ?_⟩
    rw [List.map_take] at hM hM2
    have pw : (out.map (hg a b)).Pairwise (· ≤ ·) := by rw [List.pairwise_map]; exact h2
    have eM := mx_take pw (n := c0.toNat) (by lia) (by rw [List.length_map]; exact hn) hM hM2
    rw [fl_of (h1.map _) pw] at eM
    subst eM
    walk_at "rc"
    exact q
theorem ok_growX {c_Loud : Addr} (S : Src K mg "growth" sGrowth) (T : Txt mg) (EX_refuse_loud : HasX P w K mg base 2 "refuse_loud" ["rule"] (badL c_Loud)) : HasX P w K mg base 6 "growth" ["rule", "way"] (badG c_Loud) := by
  refine has_X S scGrowth (fun _ _ _ _ _ _ us hl => match us, hl with | [_, _], _ => rfl) (fun ds C h => by obtain ⟨_, _, e, _⟩ := h; rw [e]; rfl) fun f cdv A outer s H E hr TH => ⟨_, _, (vx_call TH EX_refuse_loud rfl hr (va_cons (ve_var 0 (pv 0)) va_nil)), ?_⟩
  rintro ds C ⟨r, p1, rfl, h⟩
  walk_at "sl"
  walk_at "rd"
  exact ⟨_, C, rfl, h, rfl⟩
end
end My


namespace My
open PySem L2 VL
def pNu : List Int → List D → (D → List Int → Prop) → Prop := fun pn ds R => ∃ b : Nat, ds = [] ∧ Pn b pn ∧ b ≤ 10000 ∧ ∀ (x : Int) pn', x.natAbs ≤ 10 ^ 60 → Pn (b + 3) pn' → R (.int x) pn'
def pRu : List Int → List D → (D → List Int → Prop) → Prop := fun pn ds R => ∃ b : Nat, ds = [] ∧ Pn b pn ∧ b ≤ 10000 ∧ ∀ (k : Int) (bo sy : List Int) pn', Kd k → Bo k bo → sy.length ≤ 20 → Pn (b + 30) pn' → R (rl k bo sy) pn'
def pLg : List D → (D → Prop) → Prop := fun ds R => ∃ k bo st a b, ds = [rl k bo st, eT [a, b]] ∧ Kd k ∧ Bo k bo ∧ Wd a ∧ Wd b ∧ R (.int (grw k bo a b))
theorem sp_nr {k : Int} (hk : Kd k) : (sp k).Perm (nr k) := by rcases hk with rfl | rfl | rfl <;> decide
theorem fr_le {p : Nat → Bool} {n : Nat} {lo : Int} : ∀ c ∈ (fr p n).map fun (i : Nat) => lo + (i : Int), lo ≤ c ∧ c < lo + (n : Int) := fun c hc => by
  obtain ⟨i, hi, rfl⟩ := List.mem_map.mp hc
  have := List.mem_range.mp (List.mem_filter.mp hi).1
  lia
theorem fr_len {p : Nat → Bool} {n : Nat} : (fr p n).length ≤ n := by
  have := List.length_filter_le p (List.range n)
  rwa [List.length_range] at this
theorem e60 : (10 : Nat) ^ 60 = 1000000000000000000000000000000000000000000000000000000000000 := by decide
theorem e61 : (10 : Nat) ^ 61 = 10000000000000000000000000000000000000000000000000000000000000 := by decide
def N60 (x : Int) : Prop := x.natAbs ≤ 10 ^ 60
theorem N60.wd {x : Int} (h : N60 x) : Wd x := wd_60 (Nat.le_trans h (Nat.pow_le_pow_right (by decide) (by decide)))
theorem n60_of {x : Int} (h : x.natAbs ≤ 1000000000000000000000000000000000000000000000000000000000000) : N60 x := by unfold N60; rw [e60]; exact h
theorem small_mul {a x : Int} (h1 : -1 ≤ x) (h2 : x ≤ 1) : (a * x).natAbs ≤ a.natAbs := by
  rcases (by lia : x = -1 ∨ x = 0 ∨ x = 1) with rfl | rfl | rfl <;> lia
theorem fl_bd {k a b : Int} (hk : Kd k) {z : Int} (hz : z ∈ fl k a b) : z.natAbs ≤ a.natAbs + b.natAbs := by
  obtain ⟨m, hm, rfl⟩ := List.mem_map.mp ((fl_perm k a b).mem_iff.mp hz)
  obtain ⟨x, y, rfl, h1, h2, h3, h4⟩ := nr_small hk hm
  have p := small_mul (a := a) h1 h2
  have q := small_mul (a := b) h3 h4
  show (a * x + b * y).natAbs ≤ _
  lia
theorem grw_bd {k a b : Int} {bo : List Int} (hk : Kd k) : 0 ≤ grw k bo a b ∧ (grw k bo a b).natAbs ≤ a.natAbs + b.natAbs := by
  unfold grw
  cases bo with
  | nil => exact ⟨Int.le_refl _, Nat.zero_le _⟩
  | cons c r =>
    dsimp only
    have h : ((fl k a b).getD (c.toNat - 1) 0).natAbs ≤ a.natAbs + b.natAbs := by
      by_cases hi : c.toNat - 1 < (fl k a b).length
      · rw [List.getD_eq_getElem?_getD, List.getElem?_eq_getElem hi]
        exact fl_bd hk (List.getElem_mem hi)
      · rw [List.getD_eq_getElem?_getD, List.getElem?_eq_none (by lia)]
        exact Nat.zero_le _
    split
    · lia
    · exact ⟨Int.le_refl _, Nat.zero_le _⟩
theorem grw_wd {k a b : Int} {bo : List Int} (hk : Kd k) (ha : N60 a) (hb : N60 b) : Wd (grw k bo a b) := wd_60 (by
  have := (grw_bd (a := a) (b := b) (bo := bo) hk).2
  unfold N60 at ha hb
  rw [e60] at ha hb
  rw [e61]
  lia)
def sh (k : Int) (bo : List Int) (m : Int) (mv : List Int) (a b : Int) : Bool := decide (m * grw k bo a b < hg a b mv)
def wy (i j : Nat) : List Int := [-4 + (i : Int), -4 + (j : Int)]
def wys : List (List Int) := (List.range 9).flatMap fun i => (List.range 9).map fun j => wy i j
theorem wys_mem {c : List Int} : c ∈ wys ↔ ∃ i j, i < 9 ∧ j < 9 ∧ c = wy i j := by
  unfold wys
  simp only [List.mem_flatMap, List.mem_map, List.mem_range]
  constructor
  · rintro ⟨i, hi, j, hj, rfl⟩; exact ⟨i, j, hi, hj, rfl⟩
  · rintro ⟨i, j, hi, hj, rfl⟩; exact ⟨i, hi, j, hj, rfl⟩

theorem mv_bd {G sg sl side lg r : Int} (hG : G.natAbs ≤ 8) (hsg : sg = 1 ∨ sg = -1) (s1 : -4 ≤ sl) (s2 : sl ≤ 4) (d1 : side.natAbs ≤ 30) (l0 : 0 ≤ lg) (l1 : lg < 100000000000000000000000000000000000000000000000000) (r0 : 0 ≤ r) (r1 : r < 3) : N60 (sg * (G * lg + r - 1 - sl * side)) := by
  have h1 : (G * lg).natAbs ≤ 8 * 100000000000000000000000000000000000000000000000000 := by rw [Int.natAbs_mul]; exact Nat.mul_le_mul hG (by lia)
  have h2 : (sl * side).natAbs ≤ 4 * 30 := by rw [Int.natAbs_mul]; exact Nat.mul_le_mul (by lia) d1
  generalize G * lg = x at *
  generalize sl * side = y at *
  refine n60_of ?_
  rcases hsg with rfl | rfl <;> lia
theorem sd_bd {r lg : Int} (h1 : 0 ≤ r) (h2 : r < 9) (l0 : 0 ≤ lg) (r2 : Int) (r0 : 0 ≤ r2) (r1 : r2 < 3) : ((r - 4) * (lg % 10) / 3 + r2 - 1).natAbs ≤ 30 := by
  have : 0 ≤ lg % 10 ∧ lg % 10 < 10 := ⟨Int.emod_nonneg _ (by lia), Int.emod_lt_of_pos _ (by lia)⟩
  generalize lg % 10 = z at *
  rcases (by lia : r = 0 ∨ r = 1 ∨ r = 2 ∨ r = 3 ∨ r = 4 ∨ r = 5 ∨ r = 6 ∨ r = 7 ∨ r = 8) with rfl | rfl | rfl | rfl | rfl | rfl | rfl | rfl | rfl <;> lia
def Ok4 (k : Int) (bo : List Int) (m : Int) (mv : List Int) : Prop := Kd k ∧ Bo k bo ∧ N60 m ∧ ∃ x y, mv = [x, y] ∧ N60 x ∧ N60 y
def pLs : List D → (D → Prop) → Prop := fun ds R => ∃ k bo st m mv a b, ds = [rl k bo st, .int m, eT mv, eT [a, b]] ∧ Ok4 k bo m mv ∧ N60 a ∧ N60 b ∧ R (.bl (sh k bo m mv a b))
def pWys : List D → (D → Prop) → Prop := fun ds R => ds = [] ∧ R (eL wys)
def pMa : List Int → List D → (D → List Int → Prop) → Prop := fun pn ds R => ∃ b : Nat, ds = [] ∧ Pn b pn ∧ b ≤ 10000 ∧ ∀ (x : Int) pn', N60 x → 0 ≤ x → Pn (b + 2) pn' → R (.int x) pn'
def pMo : List Int → List D → (D → List Int → Prop) → Prop := fun pn ds R => ∃ (b : Nat) (k : Int) (bo st : List Int) (m : Int), ds = [rl k bo st, .int m] ∧ Kd k ∧ Bo k bo ∧ N60 m ∧ 0 ≤ m ∧ Pn b pn ∧ b ≤ 9000 ∧ ∀ (x y : Int) pn', N60 x → N60 y → Pn (b + 10) pn' → R (eT [x, y]) pn'
def pWz : List Int → List D → (D → List Int → Prop) → Prop := fun pn ds R => ∃ b : Nat, ds = [] ∧ Pn b pn ∧ b ≤ 9000 ∧ ∀ (x y : Int) pn', N60 x → N60 y → Pn (b + 7) pn' → R (eT [x, y]) pn'
section
variable {P : Program} {w : World} {K : PySem.W.Frag} {mg : Str → Option Value} {base : Heap}
theorem ok_nu (S : Src K mg "_law_number" sLNumber) (T : Txt mg) (E_law_draw : Has P w K mg base 1 "_law_draw" ["_law_pen_here", "_law_many_here"] (spI K 0 pDraw)) : Has P w K mg base 2 "_law_number" ["_law_pen_here"] (spI K 0 pNu) := by
  refine has_I 0 S scLNumber (fun _ _ _ _ _ _ us hl => match us, hl with | [_], _ => rfl) (fun ns ds R zq1 => by obtain ⟨_, e, _⟩ := zq1; rw [e]; rfl) fun f cdv A outer s H E hr => ⟨_, _, (vss_cons (vs_set1 (i := 1) scLNumber.nd rfl (Or.inl rfl) (ve_fnI E_law_draw hr (va_cons (ve_var 0 (pv 0)) (va_cons ve_int va_nil))))
    (vss_cons (vs_if (vt_cmp op_lt l_rI0 (ve_var 1 (pv 1)) ve_int (nomark _)) (vss_one (vs_ret (ve_op op_sub l_rI0 (ve_fnI E_law_draw hr (va_cons (ve_var 0 (pv 0)) (va_cons ve_int va_nil))) ve_int))) vss_nil)
    (vss_cons (vs_if (vt_cmp op_eq l_eq (ve_var 1 (pv 1)) ve_int (nomark _)) (vss_one (vs_ret (ve_op op_sub l_rI0 (ve_fnI E_law_draw hr (va_cons (ve_var 0 (pv 0)) (va_cons (ve_op op_pow l_rI ve_int ve_int) va_nil))) (ve_op op_mul l_rI ve_int (ve_op op_pow l_rI ve_int ve_int))))) vss_nil)
    (vss_one (vs_ret (ve_op op_mul l_rI (ve_op op_sub l_rI0 (ve_op op_sub l_rI0 (ve_op op_pow l_rI ve_int ve_int) ve_int) (ve_fnI E_law_draw hr (va_cons (ve_var 0 (pv 0)) (va_cons ve_int va_nil)))) (ve_op op_sub l_rI0 ve_int (ve_op op_mul l_rI ve_int (ve_fnI E_law_draw hr (va_cons (ve_var 0 (pv 0)) (va_cons ve_int va_nil))))))))))), ?_⟩
  rintro a pn ds es R hl ⟨b, e, hpn, hb, q⟩
  obtain rfl : ds = [] := List.eq_nil_of_length_eq_zero hl
  obtain rfl : es = [] := e
  have e60 : (10 : Nat) ^ 60 = 1000000000000000000000000000000000000000000000000000000000000 := by decide
  have e6 : (10 ^ Int.toNat 60 : Int) = 1000000000000000000000000000000000000000000000000000000000000 := by decide
  have e9 : (10 ^ Int.toNat 9 : Int) = 1000000000 := by decide
  have e8 : (10 ^ Int.toNat 8 : Int) = 100000000 := by decide
  rw [e60] at q
  walk_at "sl"
  walk_at "rd"
  refine ⟨b, 12, rfl, hpn, by lia, by lia, by lia, fun pn1 r1 h1 r1a r1b => ?_⟩
  walk_at "rd"
  refine i_kIfd (fun c1 => ?_) (fun c1 => ?_)
  · walk_at "rd"
    refine ⟨b + 1, 19, rfl, h1, by lia, by lia, by lia, fun pn2 r2 h2 r2a r2b => ?_⟩
    walk_at "rd"
    exact ⟨_, rfl, q _ _ (by lia) (h2.le (by lia))⟩
  · walk_at "rd"
    refine i_kIfd (fun c2 => ?_) (fun c2 => ?_)
    · walk_at "rd"
      try rw [e9]
      refine ⟨b + 1, 1000000000, rfl, h1, by lia, by lia, by lia, fun pn2 r2 h2 r2a r2b => ?_⟩
      walk_at "rd"
      rw [e8]
      exact ⟨_, rfl, q _ _ (by lia) (h2.le (by lia))⟩
    · walk_at "rd"
      refine ⟨b + 1, 3, rfl, h1, by lia, by lia, by lia, fun pn2 r2 h2 r2a r2b => ?_⟩
      walk_at "rd"
      refine ⟨b + 2, 2, rfl, h2, by lia, by lia, by lia, fun pn3 r3 h3 r3a r3b => ?_⟩
      walk_at "rd"
      rw [e6]
      refine ⟨_, rfl, q _ _ ?_ (h3.le (by lia))⟩
      rcases (by lia : r3 = 0 ∨ r3 = 1) with rfl | rfl
      · rw [show (1 - 2 * 0 : Int) = 1 from rfl, Int.mul_one]; lia
      · rw [show (1 - 2 * 1 : Int) = -1 from rfl]; lia
theorem ok_ru (S : Src K mg "_law_rule" sLRule) (T : Txt mg) (E_law_draw : Has P w K mg base 1 "_law_draw" ["_law_pen_here", "_law_many_here"] (spI K 0 pDraw)) : Has P w K mg base 2 "_law_rule" ["_law_pen_here"] (spI K 0 pRu) := by
  refine has_I 0 S scLRule (fun _ _ _ _ _ _ us hl => match us, hl with | [_], _ => rfl) (fun ns ds R zq1 => by obtain ⟨_, e, _⟩ := zq1; rw [e]; rfl) fun f cdv A outer s H E hr => ⟨_, _, (vss_cons (vs_set1 (i := 1) scLRule.nd rfl (Or.inl rfl) (ve_ix rfl (ve_new (vn_lst (va_cons ve_int (va_cons ve_int (va_cons ve_int va_nil))))) (ve_fnI E_law_draw hr (va_cons (ve_var 0 (pv 0)) (va_cons ve_int va_nil))) (fun _ _ => rfl)))
    (vss_cons (vs_set1 (i := 2) scLRule.nd rfl (Or.inl rfl) (ve_fnI E_law_draw hr (va_cons (ve_var 0 (pv 0)) (va_cons ve_int va_nil))))
    (vss_cons (vs_set1 (i := 3) scLRule.nd rfl (Or.inl rfl) (ve_tupleOf rfl (by rfl) T.tuple_ (va_cons (ve_new (vn_comp (tg := ["_law_count"]) (cs := ["_law_pen_here"]) (ix := [0]) (comp_scope (defScope sLRule) ["_law_pen_here", "_law_kind", "_law_way_here", "_law_stay"] (by decide +kernel)) rfl (keeps_name (by decide)) (by decide) (vi_range1 rfl T.range (va_cons (ve_op op_add l_rI0 (ve_var 1 (pv 1)) ve_int) va_nil)) (fun _ _ _ _ => (vg_name (pg_name (i := 0) (show (["_law_count", "_law_pen_here"] : List Str).Nodup by decide +kernel) rfl (Or.inl rfl) (by first | exact Or.inl rfl | exact Or.inr rfl)))) (fun _ _ _ _ => (vts_one (vt_cmp op_eq l_eq (ve_fnI E_law_draw hr (va_cons (ve_var 1 (pv 1)) (va_cons ve_int va_nil))) ve_int (nomark _)))) (fun _ _ _ _ => (ve_flat (ve_var 0 (pv 0)))))) va_nil)))
    (vss_cons (vs_if (vt_cmp op_eq l_eq (ve_var 2 (pv 2)) ve_int (nomark _)) (vss_one (vs_ret (ve_tup (va_cons (ve_flat (ve_var 1 (pv 1))) (va_cons (ve_tup va_nil) (va_cons (ve_flat (ve_var 3 (pv 3))) va_nil)))))) vss_nil)
    (vss_cons (vs_if (vt_cmp op_eq l_eq (ve_var 2 (pv 2)) ve_int (nomark _)) (vss_one (vs_ret (ve_tup (va_cons (ve_flat (ve_var 1 (pv 1))) (va_cons (ve_tup (va_cons (ve_op op_add l_rI0 ve_int (ve_fnI E_law_draw hr (va_cons (ve_var 0 (pv 0)) (va_cons (ve_var 1 (pv 1)) va_nil)))) va_nil)) (va_cons (ve_flat (ve_var 3 (pv 3))) va_nil)))))) vss_nil)
    (vss_one (vs_ret (ve_tup (va_cons (ve_flat (ve_var 1 (pv 1))) (va_cons (ve_tupleOf rfl (by rfl) T.tuple_ (va_cons (ve_new (vn_comp (tg := ["_law_count"]) (cs := ["_law_pen_here"]) (ix := [0]) (comp_scope (defScope sLRule) ["_law_pen_here", "_law_kind", "_law_way_here", "_law_stay"] (by decide +kernel)) rfl (keeps_name (by decide)) (by decide) (vi_range2 rfl T.range (va_cons ve_int (va_cons (ve_op op_add l_rI0 (ve_var 1 (pv 1)) ve_int) va_nil))) (fun _ _ _ _ => (vg_name (pg_name (i := 0) (show (["_law_count", "_law_pen_here"] : List Str).Nodup by decide +kernel) rfl (Or.inl rfl) (by first | exact Or.inl rfl | exact Or.inr rfl)))) (fun _ _ _ _ => (vts_one (vt_cmp op_eq l_eq (ve_fnI E_law_draw hr (va_cons (ve_var 1 (pv 1)) (va_cons ve_int va_nil))) ve_int (nomark _)))) (fun _ _ _ _ => (ve_flat (ve_var 0 (pv 0)))))) va_nil)) (va_cons (ve_flat (ve_var 3 (pv 3))) va_nil))))))))))), ?_⟩
  rintro a pn ds es R hl ⟨b, e, hpn, hb, q⟩
  obtain rfl : ds = [] := List.eq_nil_of_length_eq_zero hl
  obtain rfl : es = [] := e
  walk_at "sl"
  walk_at "rd"
  refine ⟨b, 3, rfl, hpn, by lia, by lia, by lia, fun pn1 r1 h1 r1a r1b => ?_⟩
  walk_at "rd"
  obtain ⟨k, hk, ek⟩ := kd_of r1a r1b
  have hkb : 4 ≤ k ∧ k ≤ 8 := by rcases hk with rfl | rfl | rfl <;> lia
  refine j_ixL rfl rfl ek ?_
  walk_at "rd"
  refine ⟨b + 1, 4, rfl, h1, by lia, by lia, by lia, fun pn2 r2 h2 r2a r2b => ?_⟩
  walk_at "rd"
  have hvt : ∀ (m : Int) (b' : Nat) (pn' : List Int) (x : Int) (A : Bool → List Sl → Prop), 0 < m → m < 100 → Pn b' pn' → b' ≤ 1000000 → (∀ v pn2, Pn (b' + 1) pn2 → A v [.val (.int x), .pen (some a) pn2]) → (vTest (v2 wEq (vFnI 0 pDraw (vCons (vVar 1) (vCons (vC (D.int m)) vNil))) (vC (D.int 0)))) [.val (.int x), .pen (some a) pn'] A := by
    intro m b' pn' x A m0 m1 h1 h2 h3
    walk_at "rd"
    refine ⟨b', m, rfl, h1, by lia, by lia, by lia, fun pn3 r3 h4 r3a r3b => ?_⟩
    walk_at "rd"
    exact h3 _ _ h4
  refine comp_fd (b := b + 2) (by lia) h2 (fun b' pn' x A => hvt 2 b' pn' x A (by decide) (by decide)) fun p1 pn3 h3 => ?_
  walk_at "rd"
  refine j_kTupL rfl (flats_frI _ _) ?_
  walk_at "rd"
  have l1 : ((fr p1 (k + 1).toNat).map fun (i : Nat) => (0 : Int) + (i : Int)).length ≤ 20 := by rw [List.length_map]; have := fr_len (p := p1) (n := (k + 1).toNat); lia
  refine i_kIfd (fun c1 => ?_) (fun c1 => ?_)
  · walk_at "rd"
    try refine j_kFlat (flats_frI _ _) ?_
    walk_at "rd"
    rw [frI_map]
    exact ⟨_, rfl, q k [] _ _ hk ⟨fun c hc => (by cases hc), Nat.zero_le _⟩ l1 (h3.le (by lia))⟩
  · walk_at "rd"
    refine i_kIfd (fun c2 => ?_) (fun c2 => ?_)
    · walk_at "rd"
      refine ⟨b + 2 + (k + 1).toNat, k, rfl, h3, by lia, by lia, by lia, fun pn4 r4 h4 r4a r4b => ?_⟩
      walk_at "rd"
      try refine j_kFlat (flats_frI _ _) ?_
      walk_at "rd"
      rw [frI_map]
      exact ⟨_, rfl, q k [1 + r4] _ _ hk ⟨fun c hc => by rw [List.mem_singleton.mp hc]; lia, by simp⟩ l1 (h4.le (by lia))⟩
    · walk_at "rd"
      refine comp_fd (b := b + 2 + (k + 1).toNat) (by lia) h3 (fun b' pn' x A => hvt 3 b' pn' x A (by decide) (by decide)) fun p2 pn4 h4 => ?_
      walk_at "rd"
      refine j_kTupL rfl (flats_frI _ _) ?_
      walk_at "rd"
      try refine j_kFlat (flats_frI _ _) ?_
      walk_at "rd"
      rw [frI_map, frI_map]
      exact ⟨_, rfl, q k _ _ _ hk ⟨fun c hc => by have := fr_le c hc; lia, by rw [List.length_map]; have := fr_len (p := p2) (n := (k + 1 - 1).toNat); lia⟩ l1 (h4.le (by lia))⟩
theorem ok_lg (S : Src K mg "_law_growth" sLGrowth) (T : Txt mg) (E_law_steps : Has P w K mg base 1 "_law_steps" ["_law_kind"] (spP K pSteps)) : Has P w K mg base 2 "_law_growth" ["_law_told", "_law_way_here"] (spP K pLg) := by
  refine has_P S scLGrowth (fun _ _ _ _ _ _ us hl => match us, hl with | [_, _], _ => rfl) (fun ds R zq1 => by obtain ⟨_, _, _, _, _, e, _⟩ := zq1; rw [e]; rfl) fun f cdv A outer s H E hr => ⟨_, _, (vss_cons (vs_if (vt_cmp (op_eqD (K := K) rfl hr.units) l_eqD (ve_ix rfl (ve_var 0 (pv 0)) ve_int (fun _ _ => rfl)) (ve_tup va_nil) (nomark _)) (vss_one (vs_ret ve_int)) vss_nil)
    (vss_cons (vs_set1 (i := 2) scLGrowth.nd rfl (Or.inl rfl) (ve_fn E_law_steps hr (va_cons (ve_ix rfl (ve_var 0 (pv 0)) ve_int (fun _ _ => rfl)) va_nil)))
    (vss_cons (vs_set1 (i := 3) scLGrowth.nd rfl (Or.inl rfl) (ve_new (vn_sortI rfl rfl (by rfl) T.sorted_ bt_sorted (va_cons (ve_new (vn_comp (tg := ["_law_dx", "_law_dy"]) (cs := ["_law_way_here"]) (ix := [1]) (comp_scope (defScope sLGrowth) ["_law_told", "_law_way_here", "_law_steps_here", "_law_falls"] (by decide +kernel)) rfl (keeps_two (by decide) (by decide)) (by decide) (vi_list rfl (ve_var 2 (pv 2))) (fun _ _ _ _ => (vg_tup (n := 2) rfl rfl (vgs_cons (vg_name (pg_name (i := 0) (show (["_law_dx", "_law_dy", "_law_way_here"] : List Str).Nodup by decide +kernel) rfl (Or.inl rfl) (by first | exact Or.inl rfl | exact Or.inr rfl))) (vgs_cons (vg_name (pg_name (i := 1) (show (["_law_dx", "_law_dy", "_law_way_here"] : List Str).Nodup by decide +kernel) rfl (Or.inl rfl) (by first | exact Or.inl rfl | exact Or.inr rfl))) vgs_nil)))) (fun _ _ _ _ => vts_nil) (fun _ _ _ _ => (ve_op op_add l_rI0 (ve_op op_mulB l_rI (ve_ix rfl (ve_var 2 (pv 2)) ve_int (fun _ _ => rfl)) (ve_var 0 (pv 0))) (ve_op op_mulB l_rI (ve_ix rfl (ve_var 2 (pv 2)) ve_int (fun _ _ => rfl)) (ve_var 1 (pv 1))))))) va_nil))))
    (vss_one (vs_ret (ve_callB (call_max2 rfl) l_mm (by rfl) T.max_ bt_max (va_cons ve_int (va_cons (ve_op op_sub l_rI0 ve_int (ve_ix rfl (ve_var 3 (pv 3)) (ve_op op_sub l_rI0 (ve_ix rfl (ve_ix rfl (ve_var 0 (pv 0)) ve_int (fun _ _ => rfl)) ve_int (fun _ _ => rfl)) ve_int) (fun _ _ => rfl))) va_nil)))))))), ?_⟩
  rintro ds R ⟨k, bo, st, a, b, rfl, hk, hbo, ha, hb, q⟩
  walk_at "sl"
  unfold rl
  walk_at "rd"
  change wEqD false (eT bo) (eT []) _
  cases bo with
  | nil =>
    refine i_eqT enc_eT rfl ?_
    walk_at "rc"
    exact q
  | cons c0 r =>
    obtain ⟨c1, c2⟩ := hbo.1 c0 List.mem_cons_self
    have hkn := nr_k hk
    refine i_eqF enc_eT (by simp) ?_
    walk_at "rc"
    refine ⟨k, rfl, hk, ?_⟩
    walk_at "rc"
    refine comp_map (xs := sp k) (en := eT) (f := fun m => .int (hg a b m)) (by rw [(sp_nr hk).length_eq]; have := nr_len hk; lia) (fun m hm A B hA => ?_) ?_
    · obtain ⟨x, y, rfl, hx, hy⟩ := nr_wc hk ((sp_nr hk).mem_iff.mp hm)
      dsimp only [capS, List.replicate, List.map_cons, List.map_nil, List.cons_append, List.nil_append]
      walk_at "rd"
      exact hA _ rfl
    rw [show (sp k).map (fun m => D.int (hg a b m)) = ((sp k).map (hg a b)).map D.int by rw [List.map_map]; rfl]
    walk_at "rc"
    refine j_kSortI rfl (by rw [List.length_map, (sp_nr hk).length_eq]; have := nr_len hk; lia) fun ns' h1 h2 => ?_
    have e1 := fl_of (h1.trans ((sp_nr hk).map _)) h2
    subst e1
    walk_at "rc"
    refine j_ixL rfl rfl (show atI ((fl k a b).map D.int) (c0 - 1) = some (.int ((fl k a b).getD (c0.toNat - 1) 0)) from ?_) ?_
    · rw [show c0 - 1 = ((c0.toNat - 1 : Nat) : Int) by lia]
      have hlt : c0.toNat - 1 < (fl k a b).length := by rw [fl_len]; lia
      rw [atI_ints hlt, List.getD_eq_getElem?_getD, List.getElem?_eq_getElem hlt]
      rfl
    walk_at "rc"
    rw [Int.zero_sub]
    exact q
theorem ok_ls (S : Src K mg "_law_shows" sLShows) (T : Txt mg) (E_law_growth : Has P w K mg base 2 "_law_growth" ["_law_told", "_law_way_here"] (spP K pLg)) : Has P w K mg base 3 "_law_shows" ["_law_told", "_law_many_here", "_law_move_here", "_law_way_here"] (spP K pLs) := by
  refine has_P S scLShows (fun _ _ _ _ _ _ us hl => match us, hl with | [_, _, _, _], _ => rfl) (fun ds R zq1 => by obtain ⟨_, _, _, _, _, _, _, e, _⟩ := zq1; rw [e]; rfl) fun f cdv A outer s H E hr => ⟨_, _, (vss_cons (vs_set1 (i := 4) scLShows.nd rfl (Or.inl rfl) (ve_op op_add l_rI0 (ve_op op_mulB l_rI (ve_ix rfl (ve_var 3 (pv 3)) ve_int (fun _ _ => rfl)) (ve_ix rfl (ve_var 2 (pv 2)) ve_int (fun _ _ => rfl))) (ve_op op_mulB l_rI (ve_ix rfl (ve_var 3 (pv 3)) ve_int (fun _ _ => rfl)) (ve_ix rfl (ve_var 2 (pv 2)) ve_int (fun _ _ => rfl)))))
    (vss_one (vs_ret (ve_cmp op_gt l_rI0 (ve_var 4 (pv 4)) (ve_op op_mulB l_rI (ve_var 1 (pv 1)) (ve_fn E_law_growth hr (va_cons (ve_var 0 (pv 0)) (va_cons (ve_var 3 (pv 3)) va_nil)))) (nomark _))))), ?_⟩
  rintro ds R ⟨k, bo, st, m, mv, a, b, rfl, ⟨hk, hbo, hm, x, y, rfl, hx, hy⟩, ha, hb, q⟩
  have wa := ha.wd
  have wb := hb.wd
  have wx := hx.wd
  have wy := hy.wd
  have wm := hm.wd
  have wg := grw_wd (bo := bo) hk ha hb
  walk_at "sl"
  walk_at "rd"
  refine ⟨k, bo, st, a, b, rfl, hk, hbo, wa, wb, ?_⟩
  walk_at "rd"
  exact q
theorem ok_wys (S : Src K mg "_law_ways" sLWays) (T : Txt mg) : Has P w K mg base 1 "_law_ways" [] (spP K pWys) := by
  refine has_P S scLWays (fun _ _ _ _ _ _ us hl => match us, hl with | [], _ => rfl) (fun ds R zq1 => by obtain ⟨e, _⟩ := zq1; rw [e]; rfl) fun f cdv A outer s H E hr => ⟨_, _, (vss_cons (vs_setN (fun _ h => ps_set (i := 0) scLWays.nd rfl (Or.inl rfl) h) (vn_lst va_nil))
    (vss_cons (vs_for PassesOwn.never rfl (vi_range2 rfl T.range (va_cons (ve_un un_neg ve_int) (va_cons ve_int va_nil))) (vg_name (pg_name (i := 1) scLWays.nd rfl (Or.inr rfl) (Or.inl rfl))) (vss_one (vs_expr (ve_ext 0 rfl (pv 0) (vn_comp (tg := ["_law_b"]) (cs := ["_law_a"]) (ix := [1]) (comp_scope (defScope sLWays) ["_law_found", "_law_a"] (by decide +kernel)) rfl (keeps_name (by decide)) (by decide) (vi_range2 rfl T.range (va_cons (ve_un un_neg ve_int) (va_cons ve_int va_nil))) (fun _ _ _ _ => (vg_name (pg_name (i := 0) (show (["_law_b", "_law_a"] : List Str).Nodup by decide +kernel) rfl (Or.inl rfl) (by first | exact Or.inl rfl | exact Or.inr rfl)))) (fun _ _ _ _ => vts_nil) (fun _ _ _ _ => (ve_tup (va_cons (ve_flat (ve_var 1 (pv 1))) (va_cons (ve_flat (ve_var 0 (pv 0))) va_nil)))))))))
    (vss_one (vs_ret (ve_flat (ve_var 0 (pv 0))))))), ?_⟩
  rintro ds R ⟨rfl, q⟩
  walk_at "sl"
  walk_at "rd"
  refine i_kForR (fun i S => ∃ v1, S = [.own (((List.range i).flatMap fun i => (List.range 9).map fun j => wy i j).map eT), v1]) ⟨_, rfl⟩ ?_ ?_
  · rintro i S2 hi ⟨v1, rfl⟩
    have hi' : i < 9 := hi
    walk_at "rd"
    refine comp_map (xs := List.range 9) (en := fun (j : Nat) => .int (-4 + (j : Int))) (f := fun (j : Nat) => eT (wy i j)) (by rw [List.length_range]; lia) (fun j hj A B hA => ?_) ?_
    · dsimp only [capS, List.replicate, List.map_cons, List.map_nil, List.cons_append, List.nil_append]
      walk_at "rd"
      exact hA _ rfl
    walk_at "rd"
    have ll : ((List.range i).flatMap fun i => (List.range 9).map fun j => wy i j).length ≤ 81 := by
      have : ∀ n : Nat, ((List.range n).flatMap fun i => (List.range 9).map fun j => wy i j).length = 9 * n := fun n => by
        induction n with
        | zero => rfl
        | succ n ih => rw [show List.range (n + 1) = List.range n ++ [n] from List.range_succ, List.flatMap_append, List.length_append, ih]; simp only [List.flatMap_cons, List.flatMap_nil, List.append_nil, List.length_map, List.length_range]; lia
      rw [this]; lia
    refine j_kExt rfl (by rw [List.length_map, List.length_map, List.length_range]; lia) ?_
    walk_at "rd"
    refine ⟨.val (.int (-4 + (i : Int))), ?_⟩
    rw [show List.range (i + 1) = List.range i ++ [i] from List.range_succ, List.flatMap_append, List.map_append]
    simp only [List.flatMap_cons, List.flatMap_nil, List.append_nil, List.map_map]
    rfl
  · rintro S2 ⟨v1, rfl⟩
    walk_at "rd"
    exact q
theorem ok_ma (S : Src K mg "_law_many" sLMany) (T : Txt mg) (E_law_draw : Has P w K mg base 1 "_law_draw" ["_law_pen_here", "_law_many_here"] (spI K 0 pDraw)) : Has P w K mg base 2 "_law_many" ["_law_pen_here"] (spI K 0 pMa) := by
  refine has_I 0 S scLMany (fun _ _ _ _ _ _ us hl => match us, hl with | [_], _ => rfl) (fun ns ds R zq1 => by obtain ⟨_, e, _⟩ := zq1; rw [e]; rfl) fun f cdv A outer s H E hr => ⟨_, _, (vss_cons (vs_if (vt_cmp op_eq l_eq (ve_fnI E_law_draw hr (va_cons (ve_var 0 (pv 0)) (va_cons ve_int va_nil))) ve_int (nomark _)) (vss_one (vs_ret (ve_op op_sub l_rI0 (ve_op op_sub l_rI0 (ve_op op_pow l_rI ve_int ve_int) ve_int) (ve_fnI E_law_draw hr (va_cons (ve_var 0 (pv 0)) (va_cons ve_int va_nil)))))) vss_nil)
    (vss_one (vs_ret (ve_op op_add l_rI0 ve_int (ve_fnI E_law_draw hr (va_cons (ve_var 0 (pv 0)) (va_cons ve_int va_nil))))))), ?_⟩
  rintro a pn ds es R hl ⟨b, e, hpn, hb, q⟩
  obtain rfl : ds = [] := List.eq_nil_of_length_eq_zero hl
  obtain rfl : es = [] := e
  have e6 : (10 ^ Int.toNat 60 : Int) = 1000000000000000000000000000000000000000000000000000000000000 := by decide
  walk_at "sl"
  walk_at "rd"
  refine ⟨b, 8, rfl, hpn, by lia, by lia, by lia, fun pn1 r1 h1 r1a r1b => ?_⟩
  walk_at "rd"
  refine i_kIfd (fun c1 => ?_) (fun c1 => ?_)
  · walk_at "rd"
    refine ⟨b + 1, 3, rfl, h1, by lia, by lia, by lia, fun pn2 r2 h2 r2a r2b => ?_⟩
    walk_at "rd"
    rw [e6]
    exact ⟨_, rfl, q _ _ (n60_of (by lia)) (by lia) (h2.le (by lia))⟩
  · walk_at "rd"
    refine ⟨b + 1, 9, rfl, h1, by lia, by lia, by lia, fun pn2 r2 h2 r2a r2b => ?_⟩
    walk_at "rd"
    exact ⟨_, rfl, q _ _ (n60_of (by lia)) (by lia) (h2.le (by lia))⟩
theorem ok_wz (S : Src K mg "_law_way" sLWay) (T : Txt mg) (E_law_draw : Has P w K mg base 1 "_law_draw" ["_law_pen_here", "_law_many_here"] (spI K 0 pDraw)) (E_law_number : Has P w K mg base 2 "_law_number" ["_law_pen_here"] (spI K 0 pNu)) : Has P w K mg base 3 "_law_way" ["_law_pen_here"] (spI K 0 pWz) := by
  refine has_I 0 S scLWay (fun _ _ _ _ _ _ us hl => match us, hl with | [_], _ => rfl) (fun ns ds R zq1 => by obtain ⟨_, e, _⟩ := zq1; rw [e]; rfl) fun f cdv A outer s H E hr => ⟨_, _, (vss_cons (vs_set1 (i := 1) scLWay.nd rfl (Or.inl rfl) (ve_fnI E_law_draw hr (va_cons (ve_var 0 (pv 0)) (va_cons ve_int va_nil))))
    (vss_cons (vs_if (vt_cmp op_eq l_eq (ve_var 1 (pv 1)) ve_int (nomark _)) (vss_one (vs_ret (ve_tup (va_cons ve_int (va_cons ve_int va_nil))))) vss_nil)
    (vss_cons (vs_if (vt_cmp op_lt l_rI0 (ve_var 1 (pv 1)) ve_int (nomark _)) (vss_one (vs_ret (ve_tup (va_cons (ve_op op_sub l_rI0 (ve_fnI E_law_draw hr (va_cons (ve_var 0 (pv 0)) (va_cons ve_int va_nil))) ve_int) (va_cons (ve_op op_sub l_rI0 (ve_fnI E_law_draw hr (va_cons (ve_var 0 (pv 0)) (va_cons ve_int va_nil))) ve_int) va_nil))))) vss_nil)
    (vss_one (vs_ret (ve_tup (va_cons (ve_fnI E_law_number hr (va_cons (ve_var 0 (pv 0)) va_nil)) (va_cons (ve_fnI E_law_number hr (va_cons (ve_var 0 (pv 0)) va_nil)) va_nil)))))))), ?_⟩
  rintro a pn ds es R hl ⟨b, e, hpn, hb, q⟩
  obtain rfl : ds = [] := List.eq_nil_of_length_eq_zero hl
  obtain rfl : es = [] := e
  walk_at "sl"
  walk_at "rd"
  refine ⟨b, 6, rfl, hpn, by lia, by lia, by lia, fun pn1 r1 h1 r1a r1b => ?_⟩
  walk_at "rd"
  refine i_kIfd (fun c1 => ?_) (fun c1 => ?_)
  · walk_at "rd"
    exact ⟨_, rfl, q 0 0 _ (Nat.zero_le _) (Nat.zero_le _) (h1.le (by lia))⟩
  · walk_at "rd"
    refine i_kIfd (fun c2 => ?_) (fun c2 => ?_)
    · walk_at "rd"
      refine ⟨b + 1, 9, rfl, h1, by lia, by lia, by lia, fun pn2 r2 h2 r2a r2b => ?_⟩
      walk_at "rd"
      refine ⟨b + 2, 9, rfl, h2, by lia, by lia, by lia, fun pn3 r3 h3 r3a r3b => ?_⟩
      walk_at "rd"
      exact ⟨_, rfl, q _ _ _ (n60_of (by lia)) (n60_of (by lia)) (h3.le (by lia))⟩
    · walk_at "rd"
      refine ⟨b + 1, rfl, h1, by lia, fun x pn2 hx h2 => ?_⟩
      walk_at "rd"
      refine ⟨b + 1 + 3, rfl, h2, by lia, fun y pn3 hy h3 => ?_⟩
      walk_at "rd"
      exact ⟨_, rfl, q x y _ hx hy (h3.le (by lia))⟩
theorem ok_mo (S : Src K mg "_law_move" sLMove) (T : Txt mg) (E_law_draw : Has P w K mg base 1 "_law_draw" ["_law_pen_here", "_law_many_here"] (spI K 0 pDraw)) (E_law_number : Has P w K mg base 2 "_law_number" ["_law_pen_here"] (spI K 0 pNu)) (E_law_growth : Has P w K mg base 2 "_law_growth" ["_law_told", "_law_way_here"] (spP K pLg)) : Has P w K mg base 3 "_law_move" ["_law_pen_here", "_law_told", "_law_many_here"] (spI K 0 pMo) := by
  refine has_I 0 S scLMove (fun _ _ _ _ _ _ us hl => match us, hl with | [_, _, _], _ => rfl) (fun ns ds R zq1 => by obtain ⟨_, _, _, _, _, e, _⟩ := zq1; rw [e]; rfl) fun f cdv A outer s H E hr => ⟨_, _, (vss_cons (vs_if (vt_cmp op_eq l_eq (ve_fnI E_law_draw hr (va_cons (ve_var 0 (pv 0)) (va_cons ve_int va_nil))) ve_int (nomark _)) (vss_one (vs_ret (ve_tup (va_cons (ve_fnI E_law_number hr (va_cons (ve_var 0 (pv 0)) va_nil)) (va_cons (ve_fnI E_law_number hr (va_cons (ve_var 0 (pv 0)) va_nil)) va_nil))))) vss_nil)
    (vss_cons (vs_set1 (i := 3) scLMove.nd rfl (Or.inl rfl) (ve_op op_sub l_rI0 ve_int (ve_op op_mul l_rI ve_int (ve_fnI E_law_draw hr (va_cons (ve_var 0 (pv 0)) (va_cons ve_int va_nil))))))
    (vss_cons (vs_set1 (i := 4) scLMove.nd rfl (Or.inl rfl) (ve_op op_mul l_rI (ve_ix rfl (ve_new (vn_lst (va_cons ve_int (va_cons ve_int (va_cons ve_int (va_cons ve_int (va_cons ve_int (va_cons ve_int va_nil)))))))) (ve_fnI E_law_draw hr (va_cons (ve_var 0 (pv 0)) (va_cons ve_int va_nil))) (fun _ _ => rfl)) (ve_op op_sub l_rI0 ve_int (ve_op op_mul l_rI ve_int (ve_fnI E_law_draw hr (va_cons (ve_var 0 (pv 0)) (va_cons ve_int va_nil)))))))
    (vss_cons (vs_set1 (i := 5) scLMove.nd rfl (Or.inl rfl) (ve_op op_mod l_rI (ve_var 2 (pv 2)) (ve_op op_pow l_rI ve_int ve_int)))
    (vss_cons (vs_set1 (i := 6) scLMove.nd rfl (Or.inl rfl) (ve_op op_sub l_rI0 (ve_op op_add l_rI0 (ve_op op_fdiv l_rI (ve_op op_mul l_rI (ve_op op_sub l_rI0 (ve_fnI E_law_draw hr (va_cons (ve_var 0 (pv 0)) (va_cons ve_int va_nil))) ve_int) (ve_op op_mod l_rI (ve_var 5 (pv 5)) ve_int)) ve_int) (ve_fnI E_law_draw hr (va_cons (ve_var 0 (pv 0)) (va_cons ve_int va_nil)))) ve_int))
    (vss_cons (vs_if (vt_cmp op_eq l_eq (ve_fnI E_law_draw hr (va_cons (ve_var 0 (pv 0)) (va_cons ve_int va_nil))) ve_int (nomark _)) (vss_cons (vs_set1 (i := 7) scLMove.nd rfl (Or.inl rfl) (ve_op op_sub l_rI0 (ve_op op_add l_rI0 (ve_op op_mulB l_rI (ve_fn E_law_growth hr (va_cons (ve_var 1 (pv 1)) (va_cons (ve_tup (va_cons (ve_var 4 (pv 4)) (va_cons (ve_var 3 (pv 3)) va_nil))) va_nil))) (ve_var 5 (pv 5))) (ve_fnI E_law_draw hr (va_cons (ve_var 0 (pv 0)) (va_cons ve_int va_nil)))) ve_int))
    (vss_one (vs_ret (ve_tup (va_cons (ve_flat (ve_var 6 (pv 6))) (va_cons (ve_op op_mul l_rI (ve_var 3 (pv 3)) (ve_op op_sub l_rI0 (ve_var 7 (pv 7)) (ve_op op_mul l_rI (ve_var 4 (pv 4)) (ve_var 6 (pv 6))))) va_nil)))))) vss_nil)
    (vss_cons (vs_set1 (i := 7) scLMove.nd rfl (Or.inl rfl) (ve_op op_sub l_rI0 (ve_op op_add l_rI0 (ve_op op_mulB l_rI (ve_fn E_law_growth hr (va_cons (ve_var 1 (pv 1)) (va_cons (ve_tup (va_cons (ve_var 3 (pv 3)) (va_cons (ve_var 4 (pv 4)) va_nil))) va_nil))) (ve_var 5 (pv 5))) (ve_fnI E_law_draw hr (va_cons (ve_var 0 (pv 0)) (va_cons ve_int va_nil)))) ve_int))
    (vss_one (vs_ret (ve_tup (va_cons (ve_op op_mul l_rI (ve_var 3 (pv 3)) (ve_op op_sub l_rI0 (ve_var 7 (pv 7)) (ve_op op_mul l_rI (ve_var 4 (pv 4)) (ve_var 6 (pv 6))))) (va_cons (ve_flat (ve_var 6 (pv 6))) va_nil)))))))))))), ?_⟩
  rintro a pn ds es R hl ⟨b, k, bo, st, m, e, hk, hbo, hm, m0, hpn, hb, q⟩
  obtain rfl : ds = [] := List.eq_nil_of_length_eq_zero hl
  obtain rfl : es = [rl k bo st, .int m] := e
  walk_at "sl"
  walk_at "rd"
  refine ⟨b, 4, rfl, hpn, by lia, by lia, by lia, fun pn1 r1 h1 r1a r1b => ?_⟩
  walk_at "rd"
  refine i_kIfd (fun c1 => ?_) (fun c1 => ?_)
  · walk_at "rd"
    refine ⟨b + 1, rfl, h1, by lia, fun x pn2 hx h2 => ?_⟩
    walk_at "rd"
    refine ⟨b + 1 + 3, rfl, h2, by lia, fun y pn3 hy h3 => ?_⟩
    walk_at "rd"
    exact ⟨_, rfl, q x y _ hx hy (h3.le (by lia))⟩
  · walk_at "rd"
    refine ⟨b + 1, 2, rfl, h1, by lia, by lia, by lia, fun pn2 r2 h2 r2a r2b => ?_⟩
    walk_at "rd"
    refine ⟨b + 2, 6, rfl, h2, by lia, by lia, by lia, fun pn3 r3 h3 r3a r3b => ?_⟩
    obtain ⟨u, eu, u1, u2⟩ : ∃ u : Int, atI [D.int 0, .int 1, .int 2, .int 2, .int 3, .int 4] r3 = some (.int u) ∧ 0 ≤ u ∧ u ≤ 4 := by
      rcases (by lia : r3 = 0 ∨ r3 = 1 ∨ r3 = 2 ∨ r3 = 3 ∨ r3 = 4 ∨ r3 = 5) with rfl | rfl | rfl | rfl | rfl | rfl
      · exact ⟨0, rfl, by lia, by lia⟩
      · exact ⟨1, rfl, by lia, by lia⟩
      · exact ⟨2, rfl, by lia, by lia⟩
      · exact ⟨2, rfl, by lia, by lia⟩
      · exact ⟨3, rfl, by lia, by lia⟩
      · exact ⟨4, rfl, by lia, by lia⟩
    refine j_ixL rfl rfl eu ?_
    walk_at "rd"
    refine ⟨b + 3, 2, rfl, h3, by lia, by lia, by lia, fun pn4 r4 h4 r4a r4b => ?_⟩
    walk_at "rd"
    obtain ⟨sl, esl, sl1, sl2⟩ : ∃ sl : Int, u * (1 - 2 * r4) = sl ∧ -4 ≤ sl ∧ sl ≤ 4 := by
      rcases (by lia : r4 = 0 ∨ r4 = 1) with rfl | rfl
      · exact ⟨_, rfl, by lia, by lia⟩
      · exact ⟨_, rfl, by lia, by lia⟩
    obtain ⟨sg, esg, hsg⟩ : ∃ sg : Int, 1 - 2 * r2 = sg ∧ (sg = 1 ∨ sg = -1) := ⟨_, rfl, by lia⟩
    have e50 : (10 ^ Int.toNat 50 : Int) = 100000000000000000000000000000000000000000000000000 := by decide
    rw [esl, esg, e50]
    obtain ⟨lg, elg, lg0, lg1⟩ : ∃ lg : Int, m % 100000000000000000000000000000000000000000000000000 = lg ∧ 0 ≤ lg ∧ lg < 100000000000000000000000000000000000000000000000000 := ⟨_, rfl, by lia, by lia⟩
    rw [elg]
    refine ⟨b + 4, 9, rfl, h4, by lia, by lia, by lia, fun pn5 r5 h5 r5a r5b => ?_⟩
    walk_at "rd"
    refine ⟨b + 5, 3, rfl, h5, by lia, by lia, by lia, fun pn6 r6 h6 r6a r6b => ?_⟩
    walk_at "rd"
    have hsd := sd_bd r5a r5b lg0 r6 r6a r6b
    generalize (r5 - 4) * (lg % 10) / 3 + r6 - 1 = side at hsd ⊢
    refine ⟨b + 6, 2, rfl, h6, by lia, by lia, by lia, fun pn7 r7 h7 r7a r7b => ?_⟩
    walk_at "rd"
    have wsl : Wd sl := wd_60 (Nat.le_trans (show sl.natAbs ≤ 4 by lia) (by decide))
    have wsg : Wd sg := wd_60 (Nat.le_trans (show sg.natAbs ≤ 4 by lia) (by decide))
    have wlg : Wd lg := (n60_of (x := lg) (by lia)).wd
    have g1 := (grw_bd (a := sl) (b := sg) (bo := bo) hk).2
    have g2 := (grw_bd (a := sg) (b := sl) (bo := bo) hk).2
    have w1 : Wd (grw k bo sl sg) := wd_60 (Nat.le_trans (show (grw k bo sl sg).natAbs ≤ 8 by lia) (by decide))
    have w2 : Wd (grw k bo sg sl) := wd_60 (Nat.le_trans (show (grw k bo sg sl).natAbs ≤ 8 by lia) (by decide))
    refine i_kIfd (fun c2 => ?_) (fun c2 => ?_)
    · walk_at "rd"
      refine ⟨k, bo, st, sl, sg, rfl, hk, hbo, wsl, wsg, ?_⟩
      walk_at "rd"
      refine ⟨b + 7, 3, rfl, h7, by lia, by lia, by lia, fun pn8 r8 h8 r8a r8b => ?_⟩
      walk_at "rd"
      exact ⟨_, rfl, q _ _ _ (n60_of (by lia)) (mv_bd (by lia) hsg sl1 sl2 hsd lg0 lg1 r8a r8b) (h8.le (by lia))⟩
    · walk_at "rd"
      refine ⟨k, bo, st, sg, sl, rfl, hk, hbo, wsg, wsl, ?_⟩
      walk_at "rd"
      refine ⟨b + 7, 3, rfl, h7, by lia, by lia, by lia, fun pn8 r8 h8 r8a r8b => ?_⟩
      walk_at "rd"
      exact ⟨_, rfl, q _ _ _ (mv_bd (by lia) hsg sl1 sl2 hsd lg0 lg1 r8a r8b) (n60_of (by lia)) (h8.le (by lia))⟩
end
end My


namespace My
open PySem L2 VL
def pSt : List D → (D → Prop) → Prop := fun ds R => ∃ k bo st m mv a b, ds = [rl k bo st, .int m, eT mv, eT [a, b]] ∧ Ok4 k bo m mv ∧ N60 a ∧ N60 b ∧ R (.bl (sh k bo m mv a b))
def Tf (k : Int) (bo : List Int) (m : Int) (mv : List Int) (d : D) : Prop := (d = .non ∧ ∀ i j : Nat, i < 9 → j < 9 → sh k bo m mv (-4 + (i : Int)) (-4 + (j : Int)) = false) ∨ ∃ i j : Nat, i < 9 ∧ j < 9 ∧ sh k bo m mv (-4 + (i : Int)) (-4 + (j : Int)) = true ∧ d = eT (wy i j)
def pTf : List D → (D → Prop) → Prop := fun ds R => ∃ k bo st m mv, ds = [rl k bo st, .int m, eT mv] ∧ Ok4 k bo m mv ∧ ∀ d, Tf k bo m mv d → R d
def badS (c : Addr) (ds : List D) (C : Addr) : Prop := ∃ r m mv a b, ds = [r, .int m, eT mv, eT [a, b]] ∧ Wc mv ∧ Wd m ∧ Wd a ∧ Wd b ∧ badL c [r] C
def badF (c : Addr) (ds : List D) (C : Addr) : Prop := ∃ r p1 p2, ds = [r, p1, p2] ∧ badL c [r] C
theorem n60_4 (i : Nat) (h : i < 9) : N60 (-4 + (i : Int)) := n60_of (by lia)
section
variable {P : Program} {w : World} {K : PySem.W.Frag} {mg : Str → Option Value} {base : Heap} {Pt : Addr}
theorem ok_st (S : Src K mg "shows_too_fast" sShowsTooFast) (T : Txt mg) (E_cell_height : Has P w K mg base 1 "cell_height" ["cell", "way"] (spP K pCh)) (E_growth : Has P w K mg base 6 "growth" ["rule", "way"] (spT K Pt qn pGrow)) : Has P w K mg base 7 "shows_too_fast" ["rule", "many", "move", "way"] (spT K Pt qn pSt) := by
  refine has_Tb S scShowsTooFast (fun _ _ _ _ _ _ us hl => match us, hl with | [_, _, _, _], _ => rfl) (fun ds R zq1 => by obtain ⟨_, _, _, _, _, _, _, e, _⟩ := zq1; rw [e]; rfl) fun f fd A outer s H E hr hT hmf hlk => ⟨_, _, (vss_one (vs_ret (ve_cmp op_gt l_rI0 (ve_fn E_cell_height hr (va_cons (ve_var 2 (pv 2)) (va_cons (ve_var 3 (pv 3)) va_nil))) (ve_op op_mulB l_rI (ve_var 1 (pv 1)) (ve_fnTb hT E_growth hr (va_cons (ve_var 0 (pv 0)) (va_cons (ve_var 3 (pv 3)) va_nil)))) (nomark _)))), ?_⟩
  rintro ds R ⟨k, bo, st, m, mv, a, b, rfl, ⟨hk, hbo, hm, x, y, rfl, hx, hy⟩, ha, hb, q⟩
  have wa := ha.wd
  have wb := hb.wd
  have wm := hm.wd
  have wg := grw_wd (bo := bo) hk ha hb
  walk_at "sl"
  walk_at "rd"
  refine ⟨[x, y], a, b, rfl, ⟨x, y, rfl, hx.wd, hy.wd⟩, wa, wb, ?_⟩
  walk_at "rd"
  refine ⟨k, bo, st, a, b, rfl, hk, hbo, wa, wb, ?_⟩
  walk_at "rd"
  exact q
theorem ok_stX {c_Loud : Addr} (S : Src K mg "shows_too_fast" sShowsTooFast) (T : Txt mg) (E_cell_height : Has P w K mg base 1 "cell_height" ["cell", "way"] (spP K pCh)) (EX_growth : HasX P w K mg base 6 "growth" ["rule", "way"] (badG c_Loud)) : HasX P w K mg base 7 "shows_too_fast" ["rule", "many", "move", "way"] (badS c_Loud) := by
  refine has_X S scShowsTooFast (fun _ _ _ _ _ _ us hl => match us, hl with | [_, _, _, _], _ => rfl) (fun ds C h => by obtain ⟨_, _, _, _, _, e, _⟩ := h; rw [e]; rfl) fun f cdv A outer s H E hr TH => ⟨_, _, (vx_ret (vxe_cmpR op_gt (ve_fn E_cell_height hr (va_cons (ve_var 2 (pv 2)) (va_cons (ve_var 3 (pv 3)) va_nil))) (vxe_opR op_mulB (ve_var 1 (pv 1)) (vxe_call TH.next EX_growth rfl hr (va_cons (ve_var 0 (pv 0)) (va_cons (ve_var 3 (pv 3)) va_nil)))) (nomark _))), ?_⟩
  rintro ds C ⟨r, m, mv, a, b, rfl, hv, wm, wa, wb, h⟩
  walk_at "sl"
  walk_at "rd"
  refine ⟨mv, a, b, rfl, hv, wa, wb, ?_⟩
  walk_at "rd"
  exact ⟨_, C, rfl, ⟨r, _, rfl, h⟩, rfl⟩
theorem ok_tf (S : Src K mg "too_fast" sTooFast) (T : Txt mg) (E_refuse_loud : Has P w K mg base 2 "refuse_loud" ["rule"] (spP K pLoud)) (E_shows_too_fast : Has P w K mg base 7 "shows_too_fast" ["rule", "many", "move", "way"] (spT K Pt qn pSt)) : Has P w K mg base 8 "too_fast" ["rule", "many", "move"] (spT K Pt qn pTf) := by
  refine has_Tb S scTooFast (fun _ _ _ _ _ _ us hl => match us, hl with | [_, _, _], _ => rfl) (fun ds R zq1 => by obtain ⟨_, _, _, _, _, e, _⟩ := zq1; rw [e]; rfl) fun f fd A outer s H E hr hT hmf hlk => ⟨_, _, (vss_cons (vs_expr (ve_fn E_refuse_loud hr (va_cons (ve_var 0 (pv 0)) va_nil)))
    (vss_cons (vs_for PassesOwn.never rfl (vi_range2 rfl T.range (va_cons (ve_un un_neg ve_int) (va_cons ve_int va_nil))) (vg_name (pg_name (i := 3) scTooFast.nd rfl (Or.inl rfl) (Or.inl rfl))) (vss_one (vs_for PassesOwn.never rfl (vi_range2 rfl T.range (va_cons (ve_un un_neg ve_int) (va_cons ve_int va_nil))) (vg_name (pg_name (i := 4) scTooFast.nd rfl (Or.inl rfl) (Or.inl rfl))) (vss_one (vs_if (vt_val (ve_fnTb hT E_shows_too_fast hr (va_cons (ve_var 0 (pv 0)) (va_cons (ve_var 1 (pv 1)) (va_cons (ve_var 2 (pv 2)) (va_cons (ve_tup (va_cons (ve_var 3 (pv 3)) (va_cons (ve_var 4 (pv 4)) va_nil))) va_nil)))))) (vss_one (vs_ret (ve_tup (va_cons (ve_flat (ve_var 3 (pv 3))) (va_cons (ve_flat (ve_var 4 (pv 4))) va_nil))))) vss_nil)))))
    (vss_one (vs_ret ve_non)))), ?_⟩
  rintro ds R ⟨k, bo, st, m, mv, rfl, ho, q⟩
  walk_at "sl"
  walk_at "rd"
  refine ⟨k, bo, st, rfl, ho.2.1.zero, ?_⟩
  walk_at "rd"
  refine i_kForR (fun i S => ∃ v3 v4, S = [.val (rl k bo st), .val (.int m), .val (eT mv), v3, v4] ∧ ∀ i' j : Nat, i' < i → j < 9 → sh k bo m mv (-4 + (i' : Int)) (-4 + (j : Int)) = false) ⟨_, _, rfl, fun i' j h => absurd h (Nat.not_lt_zero _)⟩ ?_ ?_
  · rintro i S2 hi ⟨v3, v4, rfl, g⟩
    have hi' : i < 9 := hi
    walk_at "rd"
    refine i_kForR (fun j S => ∃ v4, S = [.val (rl k bo st), .val (.int m), .val (eT mv), .val (.int (-4 + (i : Int))), v4] ∧ ∀ j' : Nat, j' < j → sh k bo m mv (-4 + (i : Int)) (-4 + (j' : Int)) = false) ⟨_, rfl, fun j' h => absurd h (Nat.not_lt_zero _)⟩ ?_ ?_
    · rintro j S3 hj ⟨v4, rfl, g2⟩
      have hj' : j < 9 := hj
      walk_at "rd"
      refine ⟨k, bo, st, m, mv, _, _, rfl, ho, n60_4 i hi', n60_4 j hj', ?_⟩
      cases hs : sh k bo m mv (-4 + (i : Int)) (-4 + (j : Int)) with
      | true =>
        walk_at "rc"
        exact q _ (.inr ⟨i, j, hi', hj', hs, rfl⟩)
      | false =>
        walk_at "rc"
        refine ⟨_, rfl, fun j' h => ?_⟩
        by_cases e : j' = j
        · rw [e]; exact hs
        · exact g2 j' (by lia)
    · rintro S3 ⟨v4, rfl, g2⟩
      refine ⟨_, _, rfl, fun i' j h hj => ?_⟩
      by_cases e : i' = i
      · rw [e]; exact g2 j hj
      · exact g i' j (by lia) hj
  · rintro S2 ⟨v3, v4, rfl, g⟩
    walk_at "rd"
    exact q _ (.inl ⟨rfl, fun i j hi hj => g i j hi hj⟩)
theorem ok_tfX {c_Loud : Addr} (S : Src K mg "too_fast" sTooFast) (T : Txt mg) (EX_refuse_loud : HasX P w K mg base 2 "refuse_loud" ["rule"] (badL c_Loud)) : HasX P w K mg base 8 "too_fast" ["rule", "many", "move"] (badF c_Loud) := by
  refine has_X S scTooFast (fun _ _ _ _ _ _ us hl => match us, hl with | [_, _, _], _ => rfl) (fun ds C h => by obtain ⟨_, _, _, e, _⟩ := h; rw [e]; rfl) fun f cdv A outer s H E hr TH => ⟨_, _, (vx_call TH EX_refuse_loud rfl hr (va_cons (ve_var 0 (pv 0)) va_nil)), ?_⟩
  rintro ds C ⟨r, p1, p2, rfl, h⟩
  walk_at "sl"
  walk_at "rd"
  exact ⟨_, C, rfl, h, rfl⟩
end
end My


namespace My
open PySem L2 VL
theorem j_neB {x y : Bool} {q : D → Prop} (h : q (.bl (!decide (x = y)))) : wNe (.bl x) (.bl y) q := ⟨.bl x, .bl y, rfl, rfl, rfl, by simpa using h⟩
def pFr : List D → (D → Prop) → Prop := fun ds R => ∃ k bo st m mv, ds = [rl k bo st, .int m, eT mv] ∧ Ok4 k bo m mv ∧ R (.bl true)
def Wy (d : D) : Prop := d = .non ∨ ∃ a b, d = eT [a, b] ∧ Wd a ∧ Wd b
def pRz (c : Addr) : List D → (D → Prop) → Prop := fun ds R => ∃ r m mv d, ds = [r, .int m, eT mv, d] ∧ Wc mv ∧ Wd m ∧ Wy d ∧ badL c [r] c ∧ R (.bl true)
def pSr : List D → (D → Prop) → Prop := fun ds R => ds = [] ∧ R (.bl true)
section
variable {P : Program} {w : World} {K : PySem.W.Frag} {mg : Str → Option Value} {base : Heap} {Pt : Addr}
theorem ok_fr (S : Src K mg "_law_found_right" sLFoundRight) (T : Txt mg) (E_too_fast : Has P w K mg base 8 "too_fast" ["rule", "many", "move"] (spT K Pt qn pTf)) (E_law_ways : Has P w K mg base 1 "_law_ways" [] (spP K pWys)) (E_law_shows : Has P w K mg base 3 "_law_shows" ["_law_told", "_law_many_here", "_law_move_here", "_law_way_here"] (spP K pLs)) (E_shows_too_fast : Has P w K mg base 7 "shows_too_fast" ["rule", "many", "move", "way"] (spT K Pt qn pSt)) : Has P w K mg base 9 "_law_found_right" ["_law_told", "_law_many_here", "_law_move_here"] (spT K Pt qn pFr) := by
  refine has_Tb S scLFoundRight (fun _ _ _ _ _ _ us hl => match us, hl with | [_, _, _], _ => rfl) (fun ds R zq1 => by obtain ⟨_, _, _, _, _, e, _⟩ := zq1; rw [e]; rfl) fun f fd A outer s H E hr hT hmf hlk => ⟨_, _, (vss_cons (vs_set1 (i := 3) scLFoundRight.nd rfl (Or.inl rfl) (ve_fnTb hT E_too_fast hr (va_cons (ve_var 0 (pv 0)) (va_cons (ve_var 1 (pv 1)) (va_cons (ve_var 2 (pv 2)) va_nil)))))
    (vss_cons (vs_compV (ii := 4) (tg := ["_law_way_here"]) (cs := ["_law_told", "_law_many_here", "_law_move_here"]) (ix := [0, 1, 2]) scLFoundRight.nd rfl (Or.inl rfl) (Or.inl rfl) (comp_scope (defScope sLFoundRight) ["_law_told", "_law_many_here", "_law_move_here", "_law_found", "_law_shown"] (by decide +kernel)) rfl (keeps_name (by decide)) (by decide) (vi_list rfl (ve_fn0 E_law_ways hr)) (fun _ _ _ _ => (vg_name (pg_name (i := 0) (show (["_law_way_here", "_law_told", "_law_many_here", "_law_move_here"] : List Str).Nodup by decide +kernel) rfl (Or.inl rfl) (by first | exact Or.inl rfl | exact Or.inr rfl)))) (fun _ _ _ _ => (vts_one (vt_val (ve_fn E_law_shows hr (va_cons (ve_var 1 (pv 1)) (va_cons (ve_var 2 (pv 2)) (va_cons (ve_var 3 (pv 3)) (va_cons (ve_var 0 (pv 0)) va_nil)))))))) (fun _ _ _ _ => (ve_flat (ve_var 0 (pv 0)))))
    (vss_cons (vs_if (vt_cmp (op_eqD (K := K) rfl hr.units) l_eqD (ve_var 4 (pv 4)) (ve_new (vn_lst va_nil)) (nomark _)) (vss_one (vs_ret (ve_cmp op_isN l_isN (ve_var 3 (pv 3)) ve_non (nomark _)))) vss_nil)
    (vss_cons (vs_if (vw_pt (vw_or (vt_not (vt_val (ve_callB (c_isi (K := K) rfl) l_isi (by rfl) T.isinstance_ bt_isinstance (va_cons (ve_var 3 (pv 3)) (va_cons (ve_pe (pe_bltn (v := .ty "tuple") (by rfl) T.tuple_ bt_tuple rfl) (fun _ _ => .ty _)) va_nil))))) (vw_or1 (vt_cmp (op_notInD (K := K) rfl hr.units) l_inD (ve_var 3 (pv 3)) (ve_var 4 (pv 4)) (by with_unfolding_all rfl))))) (vss_one (vs_ret ve_bl)) vss_nil)
    (vss_cons (vs_if (vt_cmp (op_neD (K := K) rfl hr.units) l_eqD (ve_new (vn_comp (tg := ["_law_n"]) (cs := []) (ix := []) (comp_scope (defScope sLFoundRight) ["_law_told", "_law_many_here", "_law_move_here", "_law_found", "_law_shown"] (by decide +kernel)) rfl (keeps_name (by decide)) (by decide) (vi_tup rfl (ve_var 3 (pv 3))) (fun _ _ _ _ => (vg_name (pg_name (i := 0) (show (["_law_n"] : List Str).Nodup by decide +kernel) rfl (Or.inl rfl) (by first | exact Or.inl rfl | exact Or.inr rfl)))) (fun _ _ _ _ => (vts_one (vw_pt (vw_or (vt_not (vt_val (ve_callB (c_isi (K := K) rfl) l_isi (by rfl) T.isinstance_ bt_isinstance (va_cons (ve_var 0 (pv 0)) (va_cons (ve_pe (pe_bltn (v := .ty "int") (by rfl) T.int_ bt_int rfl) (fun _ _ => .ty _)) va_nil))))) (vw_or1 (vt_val (ve_callB (c_isi (K := K) rfl) l_isi (by rfl) T.isinstance_ bt_isinstance (va_cons (ve_var 0 (pv 0)) (va_cons (ve_pe (pe_bltn (v := .ty "bool") (by rfl) T.bool_ bt_bool rfl) (fun _ _ => .ty _)) va_nil))))))))) (fun _ _ _ _ => (ve_flat (ve_var 0 (pv 0)))))) (ve_new (vn_lst va_nil)) (nomark _)) (vss_one (vs_ret ve_bl)) vss_nil)
    (vss_one (vs_ret (ve_cmp op_isB l_isB (ve_fnTb hT E_shows_too_fast hr (va_cons (ve_var 0 (pv 0)) (va_cons (ve_var 1 (pv 1)) (va_cons (ve_var 2 (pv 2)) (va_cons (ve_var 3 (pv 3)) va_nil))))) ve_bl (nomark _))))))))), ?_⟩
  rintro ds R ⟨k, bo, st, m, mv, rfl, ho, q⟩
  walk_at "sl"
  walk_at "rd"
  refine ⟨k, bo, st, m, mv, rfl, ho, fun d hd => ?_⟩
  walk_at "rd"
  refine ⟨rfl, ?_⟩
  walk_at "rd"
  have shw : ∀ c ∈ wys, ∃ i j : Nat, i < 9 ∧ j < 9 ∧ c = [-4 + (i : Int), -4 + (j : Int)] := fun c hc => by
    obtain ⟨i, j, hi, hj, rfl⟩ := wys_mem.mp hc
    exact ⟨i, j, hi, hj, rfl⟩
  refine comp_filter (xs := wys) (en := eT) (f := eT) (p := fun c => sh k bo m mv (c.getD 0 0) (c.getD 1 0)) (by decide) (fun c hc A B hA hB => ?_) ?_
  · obtain ⟨i, j, hi, hj, rfl⟩ := shw c hc
    dsimp only [capS, List.replicate, List.map_cons, List.map_nil, List.cons_append, List.nil_append]
    walk_at "rd"
    refine ⟨k, bo, st, m, mv, _, _, rfl, ho, n60_4 i hi, n60_4 j hj, ?_⟩
    cases hs : sh k bo m mv (-4 + (i : Int)) (-4 + (j : Int)) with
    | true => walk_at "rc"; exact hA _ rfl hs
    | false => walk_at "rc"; exact hB _ rfl hs
  generalize hsn : (wys.filter fun c => sh k bo m mv (c.getD 0 0) (c.getD 1 0)) = shn
  walk_at "rd"
  change wEqD false (eL shn) (eL []) _
  rcases hd with ⟨rfl, hn⟩ | ⟨i, j, hi, hj, hs, rfl⟩
  · have h0 : shn = [] := by
      rw [← hsn, List.filter_eq_nil_iff]
      intro c hc
      obtain ⟨i, j, hi, hj, rfl⟩ := shw c hc
      show ¬ sh k bo m mv (-4 + (i : Int)) (-4 + (j : Int)) = true
      rw [hn i j hi hj]
      simp
    refine i_eqT enc_eL h0 ?_
    walk_at "rc"
    exact q
  · have hm : wy i j ∈ shn := by rw [← hsn]; exact List.mem_filter.mpr ⟨wys_mem.mpr ⟨i, j, hi, hj, rfl⟩, hs⟩
    clear hsn
    refine i_eqF enc_eL (fun z => by rw [z] at hm; cases hm) ?_
    unfold wy at hm ⊢
    walk_at "rc"
    change wInD true (eT [-4 + (i : Int), -4 + (j : Int)]) (.lst (shn.map eT)) _
    refine i_niF enc_eT hm ?_
    walk_at "rc"
    refine comp_filter (xs := [-4 + (i : Int), -4 + (j : Int)]) (en := D.int) (f := D.int) (p := fun _ => false) (by simp) (fun n hn A B hA hB => ?_) ?_
    · dsimp only [capS, List.replicate, List.map_cons, List.map_nil, List.cons_append, List.nil_append]
      walk_at "rc"
      exact hB _ rfl rfl
    walk_at "rd"
    change wEqD true (eL []) (eL []) _
    refine i_neF enc_eL (x := []) (y := []) rfl ?_
    walk_at "rc"
    refine ⟨k, bo, st, m, mv, _, _, rfl, ho, n60_4 i hi, n60_4 j hj, ?_⟩
    rw [hs]
    walk_at "rc"
    exact q
theorem ok_isref {c_CellError c_Folded c_Loud c_NoLine c_NoName c_NoNumber c_NoRest c_NoRule c_NoSize c_NoText c_NoThing c_Outside c_TooWide : Addr} (S : Src K mg "_law_is_refused" sLIsRefused) (T : Txt mg) (EX_too_fast : HasX P w K mg base 8 "too_fast" ["rule", "many", "move"] (badF c_Loud)) (EX_shows_too_fast : HasX P w K mg base 7 "shows_too_fast" ["rule", "many", "move", "way"] (badS c_Loud))
    (g_CellError : mg "CellError" = some (.ref c_CellError)) (g_ValueError : mg "ValueError" = none) (g_Folded : mg "Folded" = some (.ref c_Folded)) (g_Loud : mg "Loud" = some (.ref c_Loud)) (g_NoLine : mg "NoLine" = some (.ref c_NoLine)) (g_NoName : mg "NoName" = some (.ref c_NoName)) (g_NoNumber : mg "NoNumber" = some (.ref c_NoNumber))
    (g_NoRest : mg "NoRest" = some (.ref c_NoRest)) (g_NoRule : mg "NoRule" = some (.ref c_NoRule)) (g_NoSize : mg "NoSize" = some (.ref c_NoSize)) (g_NoText : mg "NoText" = some (.ref c_NoText)) (g_NoThing : mg "NoThing" = some (.ref c_NoThing)) (g_Outside : mg "Outside" = some (.ref c_Outside)) (g_TooWide : mg "TooWide" = some (.ref c_TooWide))
    (y1 : PySem.W.exmOne K (.ref c_Loud) (.ref c_CellError) = some true) (y2 : excOk K c_Loud = true) (y3 : PySem.W.kitOne K (.ref c_Loud) (.ref c_Loud) = some true) (y4 : PySem.W.kitOne K (.ref c_Loud) (.type "ValueError") = some true)
    (y5 : PySem.W.kitAny K (.ref c_Loud) [.ref c_Folded, .ref c_NoLine, .ref c_NoName, .ref c_NoNumber, .ref c_NoRest, .ref c_NoRule, .ref c_NoSize, .ref c_NoText, .ref c_NoThing, .ref c_Outside] = some false) (y6 : PySem.W.kitOne K (.ref c_Loud) (.ref c_TooWide) = some false) : Has P w K mg base 9 "_law_is_refused" ["_law_told", "_law_many_here", "_law_move_here", "_law_way_here"] (spP K (pRz c_Loud)) := by
  refine has_P S scLIsRefused (fun _ _ _ _ _ _ us hl => match us, hl with | [_, _, _, _], _ => rfl) (fun ds R zq1 => by obtain ⟨_, _, _, _, e, _⟩ := zq1; rw [e]; rfl) fun f cdv A outer s H E hr => ⟨_, _, (vss_cons (vs_set1 (i := 4) scLIsRefused.nd rfl (Or.inl rfl) (ve_tup va_nil))
    (vss_cons (vs_alt (vs_tryN (vss_one (vs_if (vt_cmp op_isN l_isN (ve_var 3 (pv 3)) ve_non (nomark _)) vss_never vss_never)) (fun _ _ h => h)) (vs_tryX (i := 5) (fun _ _ _ _ TH => (vx_ifE (vt_cmp op_isN l_isN (ve_var 3 (pv 3)) ve_non (nomark _)) (vx_exprE (vxe_call TH EX_too_fast rfl hr (va_cons (ve_var 0 (pv 0)) (va_cons (ve_var 1 (pv 1)) (va_cons (ve_var 2 (pv 2)) va_nil))))) (vx_exprE (vxe_call TH EX_shows_too_fast rfl hr (va_cons (ve_var 0 (pv 0)) (va_cons (ve_var 1 (pv 1)) (va_cons (ve_var 2 (pv 2)) (va_cons (ve_var 3 (pv 3)) va_nil)))))))) rfl g_CellError (fun y => (vss_cons (vs_set1 (i := 6) scLIsRefused.nd rfl (Or.inl rfl) (ve_isiT (i := 5) rfl (pa_refs g_Folded (pa_refs g_NoLine (pa_refs g_NoName (pa_refs g_NoNumber (pa_refs g_NoRest (pa_refs g_NoRule (pa_refs g_NoSize (pa_refs g_NoText (pa_refs g_NoThing (pa_refs g_Outside pa_refs0)))))))))) (by simp) rfl (Or.inl rfl) (by rfl) T.isinstance_))
    (vss_one (vs_set1 (i := 4) scLIsRefused.nd rfl (Or.inl rfl) (ve_tup (va_cons (ve_isiE (i := 5) (c := .ref c_Loud) rfl rfl (pe_glob (by rfl) g_Loud rfl) rfl (Or.inl rfl) (by rfl) T.isinstance_) (va_cons (ve_isiE (i := 5) (c := .type "ValueError") rfl rfl (pe_bltn (by rfl) g_ValueError PyProof.Rows.Boot.«ValueError» rfl) rfl (Or.inl rfl) (by rfl) T.isinstance_) (va_cons (ve_or (ve_var 6 (pv 6)) (ve_one (ve_isiE (i := 5) (c := .ref c_TooWide) rfl rfl (pe_glob (by rfl) g_TooWide rfl) rfl (Or.inl rfl) (by rfl) T.isinstance_))) va_nil)))))))) (fun _ _ h => h) rfl rfl rfl scLIsRefused.nd rfl rfl))
    (vss_one (vs_ret (ve_cmp (op_eqD (K := K) rfl hr.units) l_eqD (ve_var 4 (pv 4)) (ve_tup (va_cons ve_bl (va_cons ve_bl (va_cons ve_bl va_nil)))) (nomark _)))))), ?_⟩
  rintro ds R ⟨r, m, mv, d, rfl, hv, wm, hd, h, q⟩
  walk_at "sl"
  walk_at "rd"
  refine .inr (j_tryX c_Loud (Nat.le_of_ble_eq_true rfl) y1 (fun Wc hW => ?_) ?_)
  · show vTest _ [.val r, .val (.int m), .val (eT mv), .val d, .val (D.tup []), .no, .no] _
    walk_at "rd"
    rcases hd with rfl | ⟨a, b, rfl, wa, wb⟩
    · refine iteT ?_
      walk_at "rd"
      exact ⟨_, _, rfl, ⟨r, _, _, rfl, h⟩, hW⟩
    · refine iteF ?_
      walk_at "rd"
      exact ⟨_, _, rfl, ⟨r, m, mv, a, b, rfl, hv, wm, wa, wb, h⟩, hW⟩
  · show vSeq _ _ _ [.no, .no, .no, .no, .no, .val (.exc (.ref c_Loud)), .no]
    walk_at "rd"
    refine j_isiT rfl y2 y5 ?_
    walk_at "rc"
    refine j_isiE rfl y2 y3 ?_
    walk_at "rc"
    refine j_isiE rfl y2 y4 ?_
    walk_at "rc"
    refine j_isiE rfl y2 y6 ?_
    walk_at "rc"
    refine ⟨Nat.le_of_ble_eq_true rfl, ?_⟩
    dsimp only [List.set]
    walk_at "rd"
    refine i_eqT enc_eB3 (x := [true, true, false]) (y := [true, true, false]) rfl ?_
    walk_at "rc"
    exact q
theorem ok_sr (S : Src K mg "_law_some_right" sLSomeRight) (T : Txt mg) (E_law_found_right : Has P w K mg base 9 "_law_found_right" ["_law_told", "_law_many_here", "_law_move_here"] (spT K Pt qn pFr)) : Has P w K mg base 10 "_law_some_right" [] (spT K Pt qn pSr) := by
  refine has_Tb S scLSomeRight (fun _ _ _ _ _ _ us hl => match us, hl with | [], _ => rfl) (fun ds R zq1 => by obtain ⟨e, _⟩ := zq1; rw [e]; rfl) fun f fd A outer s H E hr hT hmf hlk => ⟨_, _, (vss_cons (vs_set1 (i := 0) scLSomeRight.nd rfl (Or.inl rfl) (ve_tup (va_cons ve_int (va_cons (ve_tup (va_cons ve_int va_nil)) (va_cons (ve_tup (va_cons ve_int (va_cons ve_int va_nil))) va_nil)))))
    (vss_cons (vs_set1 (i := 1) scLSomeRight.nd rfl (Or.inl rfl) (ve_tup (va_cons ve_int (va_cons (ve_tup (va_cons ve_int va_nil)) (va_cons (ve_tup va_nil) va_nil)))))
    (vss_cons (vs_set1 (i := 2) scLSomeRight.nd rfl (Or.inl rfl) (ve_new (vn_lst (va_cons (ve_tup (va_cons (ve_flat (ve_var 0 (pv 0))) (va_cons ve_int (va_cons (ve_tup (va_cons ve_int (va_cons ve_int va_nil))) va_nil)))) (va_cons (ve_tup (va_cons (ve_flat (ve_var 0 (pv 0))) (va_cons ve_int (va_cons (ve_tup (va_cons ve_int (va_cons ve_int va_nil))) va_nil)))) (va_cons (ve_tup (va_cons (ve_flat (ve_var 0 (pv 0))) (va_cons ve_int (va_cons (ve_tup (va_cons ve_int (va_cons ve_int va_nil))) va_nil)))) (va_cons (ve_tup (va_cons (ve_flat (ve_var 0 (pv 0))) (va_cons ve_int (va_cons (ve_tup (va_cons ve_int (va_cons ve_int va_nil))) va_nil)))) va_nil)))))))
    (vss_cons (vs_for PassesOwn.never rfl (vi_list rfl (ve_new (vn_catV rfl (ve_var 2 (pv 2)) (vn_lst (va_cons (ve_tup (va_cons (ve_flat (ve_var 1 (pv 1))) (va_cons ve_int (va_cons (ve_tup (va_cons ve_int (va_cons ve_int va_nil))) va_nil)))) (va_cons (ve_tup (va_cons (ve_flat (ve_var 1 (pv 1))) (va_cons ve_int (va_cons (ve_tup (va_cons ve_int (va_cons ve_int va_nil))) va_nil)))) (va_cons (ve_tup (va_cons (ve_flat (ve_var 1 (pv 1))) (va_cons ve_int (va_cons (ve_tup (va_cons (ve_un un_neg ve_int) (va_cons (ve_un un_neg ve_int) va_nil))) va_nil)))) va_nil))))))) (vg_tup (n := 3) rfl rfl (vgs_cons (vg_name (pg_name (i := 3) scLSomeRight.nd rfl (Or.inl rfl) (Or.inl rfl))) (vgs_cons (vg_name (pg_name (i := 4) scLSomeRight.nd rfl (Or.inl rfl) (Or.inl rfl))) (vgs_cons (vg_name (pg_name (i := 5) scLSomeRight.nd rfl (Or.inl rfl) (Or.inl rfl))) vgs_nil)))) (vss_one (vs_if (vt_not (vt_val (ve_fnTb hT E_law_found_right hr (va_cons (ve_var 3 (pv 3)) (va_cons (ve_var 4 (pv 4)) (va_cons (ve_var 5 (pv 5)) va_nil)))))) (vss_one (vs_ret ve_bl)) vss_nil)))
    (vss_one (vs_ret ve_bl)))))), ?_⟩
  rintro ds R ⟨rfl, q⟩
  walk_at "sl"
  walk_at "rd"
  refine j_kCV2 rfl rfl (by decide) ?_
  simp only [List.cons_append, List.nil_append]
  walk_at "rd"
  refine i_kForU ?_
  have o8 : ∀ x y : Int, x.natAbs ≤ 10 → y.natAbs ≤ 10 → Ok4 8 [3] 4 [x, y] := fun x y hx hy => ⟨.inr (.inr rfl), ⟨by decide, by decide⟩, n60_of (by decide), x, y, rfl, n60_of (by lia), n60_of (by lia)⟩
  have o6 : ∀ x y : Int, x.natAbs ≤ 10 → y.natAbs ≤ 10 → Ok4 6 [2] 4 [x, y] := fun x y hx hy => ⟨.inr (.inl rfl), ⟨by decide, by decide⟩, n60_of (by decide), x, y, rfl, n60_of (by lia), n60_of (by lia)⟩
  walk_at "rc"
  refine ⟨8, [3], [2, 3], 4, [0, 3], rfl, o8 _ _ (by decide) (by decide), ?_⟩
  walk_at "rc"
  refine ⟨8, [3], [2, 3], 4, [2, 2], rfl, o8 _ _ (by decide) (by decide), ?_⟩
  walk_at "rc"
  refine ⟨8, [3], [2, 3], 4, [1, 1], rfl, o8 _ _ (by decide) (by decide), ?_⟩
  walk_at "rc"
  refine ⟨8, [3], [2, 3], 4, [2, 0], rfl, o8 _ _ (by decide) (by decide), ?_⟩
  walk_at "rc"
  refine ⟨6, [2], [], 4, [3, 1], rfl, o6 _ _ (by decide) (by decide), ?_⟩
  walk_at "rc"
  refine ⟨6, [2], [], 4, [1, 3], rfl, o6 _ _ (by decide) (by decide), ?_⟩
  walk_at "rc"
  refine ⟨6, [2], [], 4, [-3, -1], rfl, o6 _ _ (by decide) (by decide), ?_⟩
  walk_at "rc"
  exact q
theorem ok_law {c_Loud : Addr} (S : Src K mg "law" sLaw) (T : Txt mg) (E_law_some_right : Has P w K mg base 10 "_law_some_right" [] (spT K Pt qn pSr)) (E_law_pen : Has P w K mg base 1 "_law_pen" ["_law_script", "_law_k"] (spP K pPen)) (E_law_rule : Has P w K mg base 2 "_law_rule" ["_law_pen_here"] (spI K 0 pRu)) (E_law_many : Has P w K mg base 2 "_law_many" ["_law_pen_here"] (spI K 0 pMa)) (E_law_move : Has P w K mg base 3 "_law_move" ["_law_pen_here", "_law_told", "_law_many_here"] (spI K 0 pMo)) (E_law_found_right : Has P w K mg base 9 "_law_found_right" ["_law_told", "_law_many_here", "_law_move_here"] (spT K Pt qn pFr)) (E_law_way : Has P w K mg base 3 "_law_way" ["_law_pen_here"] (spI K 0 pWz)) (E_shows_too_fast : Has P w K mg base 7 "shows_too_fast" ["rule", "many", "move", "way"] (spT K Pt qn pSt)) (E_law_shows : Has P w K mg base 3 "_law_shows" ["_law_told", "_law_many_here", "_law_move_here", "_law_way_here"] (spP K pLs)) (E_law_is_refused : Has P w K mg base 9 "_law_is_refused" ["_law_told", "_law_many_here", "_law_move_here", "_law_way_here"] (spP K (pRz c_Loud))) : Has P w K mg base 11 "law" ["_law_script"] (spT K Pt qn pLaw) := by
  refine has_Tb S scLaw (fun _ _ _ _ _ _ us hl => match us, hl with | [_], _ => rfl) (fun ds R zq1 => by obtain ⟨_, e, _⟩ := zq1; rw [e]; rfl) fun f fd A outer s H E hr hT hmf hlk => ⟨_, _, (vss_cons (vs_if (vt_not (vt_val (ve_fnTb0 hT E_law_some_right hr))) (vss_one (vs_ret ve_bl)) vss_nil)
    (vss_cons (vs_for PassesOwn.never rfl (vi_range1 rfl T.range (va_cons ve_int va_nil)) (vg_name (pg_name (i := 1) scLaw.nd rfl (Or.inl rfl) (Or.inl rfl))) (vss_cons (vs_setP (fun _ h => ps_set (i := 2) scLaw.nd rfl (Or.inl rfl) h) (vn_fn E_law_pen hr (va_cons (ve_var 0 (pv 0)) (va_cons (ve_var 1 (pv 1)) va_nil))))
    (vss_cons (vs_set1 (i := 3) scLaw.nd rfl (Or.inl rfl) (ve_fnI E_law_rule hr (va_cons (ve_var 2 (pv 2)) va_nil)))
    (vss_one (vs_for PassesOwn.never rfl (vi_range1 rfl T.range (va_cons ve_int va_nil)) (vg_name (pg_name (i := 4) scLaw.nd rfl (Or.inl rfl) (Or.inl rfl))) (vss_cons (vs_set1 (i := 5) scLaw.nd rfl (Or.inl rfl) (ve_fnI E_law_many hr (va_cons (ve_var 2 (pv 2)) va_nil)))
    (vss_cons (vs_set1 (i := 6) scLaw.nd rfl (Or.inl rfl) (ve_fnI E_law_move hr (va_cons (ve_var 2 (pv 2)) (va_cons (ve_var 3 (pv 3)) (va_cons (ve_var 5 (pv 5)) va_nil)))))
    (vss_cons (vs_if (vt_not (vt_val (ve_fnTb hT E_law_found_right hr (va_cons (ve_var 3 (pv 3)) (va_cons (ve_var 5 (pv 5)) (va_cons (ve_var 6 (pv 6)) va_nil)))))) (vss_one (vs_ret ve_bl)) vss_nil)
    (vss_cons (vs_for PassesOwn.never rfl (vi_list rfl (ve_new (vn_lst (va_cons (ve_fnI E_law_way hr (va_cons (ve_var 2 (pv 2)) va_nil)) (va_cons (ve_fnI E_law_way hr (va_cons (ve_var 2 (pv 2)) va_nil)) va_nil))))) (vg_name (pg_name (i := 7) scLaw.nd rfl (Or.inl rfl) (Or.inl rfl))) (vss_cons (vs_set1 (i := 8) scLaw.nd rfl (Or.inl rfl) (ve_fnTb hT E_shows_too_fast hr (va_cons (ve_var 3 (pv 3)) (va_cons (ve_var 5 (pv 5)) (va_cons (ve_var 6 (pv 6)) (va_cons (ve_var 7 (pv 7)) va_nil))))))
    (vss_one (vs_if (vw_pt (vw_or (vt_not (vt_val (ve_callB (c_isi (K := K) rfl) l_isi (by rfl) T.isinstance_ bt_isinstance (va_cons (ve_var 8 (pv 8)) (va_cons (ve_pe (pe_bltn (v := .ty "bool") (by rfl) T.bool_ bt_bool rfl) (fun _ _ => .ty _)) va_nil))))) (vw_or1 (vt_cmp op_ne l_ne (ve_var 8 (pv 8)) (ve_fn E_law_shows hr (va_cons (ve_var 3 (pv 3)) (va_cons (ve_var 5 (pv 5)) (va_cons (ve_var 6 (pv 6)) (va_cons (ve_var 7 (pv 7)) va_nil))))) (nomark _))))) (vss_one (vs_ret ve_bl)) vss_nil))))
    (vss_cons (vs_set1 (i := 9) scLaw.nd rfl (Or.inl rfl) (ve_tup (va_cons (ve_ix rfl (ve_var 3 (pv 3)) ve_int (fun _ _ => rfl)) (va_cons (ve_catE rfl (ve_tup (va_cons ve_int va_nil)) (ve_ix rfl (ve_var 3 (pv 3)) ve_int (fun _ _ => rfl))) (va_cons (ve_ix rfl (ve_var 3 (pv 3)) ve_int (fun _ _ => rfl)) va_nil)))))
    (vss_one (vs_for PassesOwn.never rfl (vi_list rfl (ve_new (vn_lst (va_cons ve_non (va_cons (ve_tup (va_cons ve_int (va_cons ve_int va_nil))) (va_cons (ve_tup (va_cons ve_int (va_cons (ve_un un_neg ve_int) va_nil))) va_nil)))))) (vg_name (pg_name (i := 7) scLaw.nd rfl (Or.inl rfl) (Or.inl rfl))) (vss_one (vs_if (vw_pt (vw_or (vt_not (vt_val (ve_fn E_law_is_refused hr (va_cons (ve_var 9 (pv 9)) (va_cons (ve_var 5 (pv 5)) (va_cons (ve_var 6 (pv 6)) (va_cons (ve_var 7 (pv 7)) va_nil))))))) (vw_or1 (vt_not (vt_val (ve_fn E_law_is_refused hr (va_cons (ve_var 9 (pv 9)) (va_cons ve_int (va_cons (ve_tup (va_cons ve_int (va_cons ve_int va_nil))) (va_cons (ve_var 7 (pv 7)) va_nil)))))))))) (vss_one (vs_ret ve_bl)) vss_nil))))))))))))))
    (vss_one (vs_ret ve_bl)))), ?_⟩
  rintro ds R ⟨ns, rfl, hn, q⟩
  walk_at "sl"
  walk_at "rd"
  refine ⟨rfl, ?_⟩
  walk_at "rc"
  refine i_kForR (fun i S => ∃ v1 v2 v3 v4 v5 v6 v7 v8 v9, S = [.val (.lst (ns.map .int)), v1, v2, v3, v4, v5, v6, v7, v8, v9]) ⟨_, _, _, _, _, _, _, _, _, rfl⟩ ?_ ?_
  · rintro i S2 hi ⟨v1, v2, v3, v4, v5, v6, v7, v8, v9, rfl⟩
    have hi' : i < 3 := hi
    walk_at "rd"
    rw [Int.zero_add]
    refine ⟨ns, i, rfl, by lia, fun x y => ⟨_, rfl, rfl, ?_⟩⟩
    refine i_kSetP (ns := [x, y, 0]) rfl ?_
    walk_at "rd"
    refine ⟨0, rfl, ⟨x, y, 0, rfl, by lia, by lia⟩, by lia, fun k bo sy pn1 hk hbo hsy h1 => ?_⟩
    walk_at "rd"
    refine i_kForR (fun j S => ∃ pn w4 w5 w6 w7 w8 w9, S = [.val (.lst (ns.map .int)), .val (.int i), .pen none pn, .val (rl k bo sy), w4, w5, w6, w7, w8, w9] ∧ Pn (0 + 30 + 100 * j) pn) ⟨pn1, _, _, _, _, _, _, rfl, h1⟩ ?_ ?_
    · rintro j S3 hj ⟨pn, w4, w5, w6, w7, w8, w9, rfl, g1⟩
      have hj' : j < 2 := hj
      walk_at "rd"
      refine ⟨_, rfl, g1, by lia, fun m pn2 hm m0 g2 => ?_⟩
      walk_at "rd"
      refine ⟨_, k, bo, sy, m, rfl, hk, hbo, hm, m0, g2, by lia, fun mx my pn3 hx hy g3 => ?_⟩
      have ho : Ok4 k bo m [mx, my] := ⟨hk, hbo, hm, mx, my, rfl, hx, hy⟩
      walk_at "rd"
      refine ⟨k, bo, sy, m, [mx, my], rfl, ho, ?_⟩
      walk_at "rc"
      refine ⟨_, rfl, g3, by lia, fun a b pn4 ha hb g4 => ?_⟩
      walk_at "rc"
      refine ⟨_, rfl, g4, by lia, fun a' b' pn5 ha' hb' g5 => ?_⟩
      walk_at "rc"
      dsimp only [List.set_cons_zero, List.set_cons_succ]
      refine i_kForU ?_
      walk_at "rc"
      refine ⟨k, bo, sy, m, [mx, my], a, b, rfl, ho, ha, hb, ?_⟩
      walk_at "rc"
      refine ⟨k, bo, sy, m, [mx, my], a, b, rfl, ho, ha, hb, ?_⟩
      generalize sh k bo m [mx, my] a b = b1
      walk_at "rd"
      refine j_neB ?_
      rw [show (!decide (b1 = b1)) = false by simp]
      walk_at "rc"
      refine ⟨k, bo, sy, m, [mx, my], a', b', rfl, ho, ha', hb', ?_⟩
      walk_at "rc"
      refine ⟨k, bo, sy, m, [mx, my], a', b', rfl, ho, ha', hb', ?_⟩
      generalize sh k bo m [mx, my] a' b' = b2
      walk_at "rd"
      refine j_neB ?_
      rw [show (!decide (b2 = b2)) = false by simp]
      unfold rl
      walk_at "rc"
      refine j_kCatE2 (by simp) (by rw [List.length_map]; show 1 + _ ≤ _; have := hbo.2; lia) ?_
      walk_at "rc"
      have wv : Wc [mx, my] := ⟨mx, my, rfl, hx.wd, hy.wd⟩
      have w00 : Wc [0, 0] := ⟨0, 0, rfl, wd_small (by decide) (by decide), wd_small (by decide) (by decide)⟩
      have w1 : Wd 1 := wd_small (by decide) (by decide)
      have hl : badL c_Loud [D.tup [D.int k, D.tup ((0 :: bo).map .int), D.tup (sy.map .int)]] c_Loud := ⟨rfl, k, 0 :: bo, sy, rfl, List.mem_cons_self⟩
      have d1 : Wy .non := .inl rfl
      have d2 : Wy (eT [0, 0]) := .inr ⟨0, 0, rfl, wd_small (by decide) (by decide), wd_small (by decide) (by decide)⟩
      have d3 : Wy (eT [1, -3]) := .inr ⟨1, -3, rfl, w1, wd_60 (Nat.le_trans (show (-3 : Int).natAbs ≤ 3 by decide) (by decide))⟩
      refine i_kForU ?_
      walk_at "rc"
      refine ⟨_, m, [mx, my], _, rfl, wv, hm.wd, d1, hl, ?_⟩
      walk_at "rc"
      refine ⟨_, 1, [0, 0], _, rfl, w00, w1, d1, hl, ?_⟩
      walk_at "rc"
      refine ⟨_, m, [mx, my], _, rfl, wv, hm.wd, d2, hl, ?_⟩
      walk_at "rc"
      refine ⟨_, 1, [0, 0], _, rfl, w00, w1, d2, hl, ?_⟩
      walk_at "rc"
      refine ⟨_, m, [mx, my], _, rfl, wv, hm.wd, d3, hl, ?_⟩
      walk_at "rc"
      refine ⟨_, 1, [0, 0], _, rfl, w00, w1, d3, hl, ?_⟩
      walk_at "rc"
      exact ⟨_, _, _, _, _, _, _, rfl, g5.le (by lia)⟩
    · rintro S3 ⟨pn, w4, w5, w6, w7, w8, w9, rfl, g1⟩
      walk_at "rd"
      exact ⟨_, _, _, _, _, _, _, _, _, rfl⟩
  · rintro S2 ⟨v1, v2, v3, v4, v5, v6, v7, v8, v9, rfl⟩
    walk_at "rd"
    exact q
end
end My
namespace My
open PySem L2 VL
theorem all_ok {l : PySem.W.OpenLaw} {w : World} {K : PySem.W.Frag} {h : Heap} {mg : Str → Option Value} {fa c Pt : Addr} {a_OFFSETS : Addr} {c_Loud : Addr}  {c_CellError : Addr}  {c_Folded : Addr}  {c_NoLine : Addr}  {c_NoName : Addr}  {c_NoNumber : Addr}  {c_NoRest : Addr}  {c_NoRule : Addr}  {c_NoSize : Addr}  {c_NoText : Addr}  {c_NoThing : Addr}  {c_Outside : Addr}  {c_TooWide : Addr} (X : K.In h) (G : h.Ns mainGlobals mg) (hfa : mg "law" = some (.ref fa))
    (S0 : Src K mg "_law_pen" sLPen) (S1 : Src K mg "_law_draw" sLDraw) (S2 : Src K mg "offsets" sOffsets) (S3 : Src K mg "is_quiet" sIsQuiet) (S4 : Src K mg "refuse_loud" sRefuseLoud) (S5 : Src K mg "refuse_loud" sRefuseLoud) (S6 : Src K mg "cell_height" sCellHeight) (S7 : Src K mg "height" sHeight) (S8 : Src K mg "lowest_parents" sLowestParents) (S9 : Src K mg "growth" sGrowth) (S10 : Src K mg "growth" sGrowth) (S11 : Src K mg "shows_too_fast" sShowsTooFast) (S12 : Src K mg "shows_too_fast" sShowsTooFast) (S13 : Src K mg "too_fast" sTooFast) (S14 : Src K mg "too_fast" sTooFast) (S15 : Src K mg "_law_number" sLNumber) (S16 : Src K mg "_law_rule" sLRule) (S17 : Src K mg "_law_steps" sLSteps) (S18 : Src K mg "_law_growth" sLGrowth) (S19 : Src K mg "_law_shows" sLShows) (S20 : Src K mg "_law_ways" sLWays) (S21 : Src K mg "_law_many" sLMany) (S22 : Src K mg "_law_move" sLMove) (S23 : Src K mg "_law_way" sLWay) (S24 : Src K mg "_law_found_right" sLFoundRight) (S25 : Src K mg "_law_is_refused" sLIsRefused) (S26 : Src K mg "_law_some_right" sLSomeRight) (S27 : Src K mg "law" sLaw)
    (n_OFFSETS : PySem.W.nsIn K mainGlobals "OFFSETS" = some (some (.ref a_OFFSETS))) (k_OFFSETS : okD K a_OFFSETS rows = true) (h_Loud : PySem.W.nsIn K mainGlobals "Loud" = some (some (.ref c_Loud)))  (h_CellError : PySem.W.nsIn K mainGlobals "CellError" = some (some (.ref c_CellError)))  (h_Folded : PySem.W.nsIn K mainGlobals "Folded" = some (some (.ref c_Folded)))  (h_NoLine : PySem.W.nsIn K mainGlobals "NoLine" = some (some (.ref c_NoLine)))  (h_NoName : PySem.W.nsIn K mainGlobals "NoName" = some (some (.ref c_NoName)))  (h_NoNumber : PySem.W.nsIn K mainGlobals "NoNumber" = some (some (.ref c_NoNumber)))  (h_NoRest : PySem.W.nsIn K mainGlobals "NoRest" = some (some (.ref c_NoRest)))  (h_NoRule : PySem.W.nsIn K mainGlobals "NoRule" = some (some (.ref c_NoRule)))  (h_NoSize : PySem.W.nsIn K mainGlobals "NoSize" = some (some (.ref c_NoSize)))  (h_NoText : PySem.W.nsIn K mainGlobals "NoText" = some (some (.ref c_NoText)))  (h_NoThing : PySem.W.nsIn K mainGlobals "NoThing" = some (some (.ref c_NoThing)))  (h_Outside : PySem.W.nsIn K mainGlobals "Outside" = some (some (.ref c_Outside)))  (h_TooWide : PySem.W.nsIn K mainGlobals "TooWide" = some (some (.ref c_TooWide))) (y0 : PySem.W.nsIn K mainGlobals "ValueError" = some none) (y1 : PySem.W.excIn K c_Loud [.type "ValueError", .type "Exception", .type "BaseException", .type "object"] "ValueError.__new__" = true) (y2 : PySem.W.exmOne K (.ref c_Loud) (.ref c_CellError) = some true) (y3 : excOk K c_Loud = true) (y4 : PySem.W.kitOne K (.ref c_Loud) (.ref c_Loud) = some true) (y5 : PySem.W.kitOne K (.ref c_Loud) (.type "ValueError") = some true) (y6 : PySem.W.kitAny K (.ref c_Loud) [.ref c_Folded, .ref c_NoLine, .ref c_NoName, .ref c_NoNumber, .ref c_NoRest, .ref c_NoRule, .ref c_NoSize, .ref c_NoText, .ref c_NoThing, .ref c_Outside] = some false) (y7 : PySem.W.kitOne K (.ref c_Loud) (.ref c_TooWide) = some false)
    (z0 : PySem.W.nsIn K mainGlobals "len" = some none) (z1 : PySem.W.nsIn K mainGlobals "range" = some none) (z2 : PySem.W.nsIn K mainGlobals "abs" = some none) (z3 : PySem.W.nsIn K mainGlobals "isinstance" = some none) (z4 : PySem.W.nsIn K mainGlobals "int" = some none) (z5 : PySem.W.nsIn K mainGlobals "bool" = some none) (z6 : PySem.W.nsIn K mainGlobals "list" = some none) (z7 : PySem.W.nsIn K mainGlobals "tuple" = some none) (z8 : PySem.W.nsIn K mainGlobals "sorted" = some none) (z9 : PySem.W.nsIn K mainGlobals "max" = some none) (z10 : PySem.W.nsIn K mainGlobals "min" = some none) (z11 : PySem.W.nsIn K mainGlobals "all" = some none) (z12 : PySem.W.nsIn K mainGlobals "any" = some none) (z13 : PySem.W.nsIn K mainGlobals "set" = some none) (z14 : PySem.W.nsIn K mainGlobals "sum" = some none) (z15 : PySem.W.nsIn K mainGlobals "str" = some none)
    (hC : PySem.W.codeHdIn K c Pt = true) (hTab : PySem.W.tabIn K "lowest_parents" = some (c, Pt)) :
    ∃ fd : FuncData, (∀ (s : Shared) (v : Value), BindsTo s fd ⟨[v], []⟩ [("_law_script", v)]) ∧ ∀ base : Heap, Bmod mg base → FnOk l.prog w K mg base CX0 11 fa fd ["_law_script"] (spT K Pt qn pLaw) := by
  have no := fun {n : Str} (z : PySem.W.nsIn K mainGlobals n = some none) => PySem.W.mg_none_of X G z
  have T : Txt mg := ⟨no z0, no z1, no z2, no z3, no z4, no z5, no z6, no z7, no z8, no z9, no z10, no z11, no z12, no z13, no z14, no z15⟩
  have hcd : ∀ f fd, mg "lowest_parents" = some (.ref f) → (∃ oc od osl, K.lookup f = some ⟨oc, od, .func fd, osl⟩) → fd.code = .ref c := fun f fd hm ⟨oc, od, osl, lk⟩ => PySem.W.law_code X G hTab hm (X _ _ lk) rfl
  refine law_hasT S27 hfa (fun _ _ _ _ _ _ _ => rfl) fun base hB => ?_
  have E_law_pen := ok_pen (P := l.prog) (w := w) (base := base) S0 T  
  have E_law_draw := ok_draw (P := l.prog) (w := w) (base := base) S1 T  
  have E_offsets := ok_off (P := l.prog) (w := w) (base := base) S2 T  (PySem.W.mg_of X G n_OFFSETS) k_OFFSETS
  have E_is_quiet := ok_quiet (P := l.prog) (w := w) (base := base) S3 T  
  have E_refuse_loud := ok_loud (P := l.prog) (w := w) (base := base) S4 T E_is_quiet 
  have E_loudX := ok_loudX (P := l.prog) (w := w) (base := base) S5 T E_is_quiet (PySem.W.mg_of X G h_Loud) y1
  have E_cell_height := ok_ch (P := l.prog) (w := w) (base := base) S6 T  
  have E_height := ok_ht (P := l.prog) (w := w) (base := base) S7 T E_cell_height 
  have E_lowest_parents := ok_lp (P := l.prog) (w := w) (base := base) S8 T E_offsets E_cell_height hC hB hcd
  have E_growth := ok_grow (P := l.prog) (w := w) (base := base) S9 T E_refuse_loud E_lowest_parents E_height 
  have E_growX := ok_growX (P := l.prog) (w := w) (base := base) S10 T E_loudX 
  have E_shows_too_fast := ok_st (P := l.prog) (w := w) (base := base) S11 T E_cell_height E_growth 
  have E_stX := ok_stX (P := l.prog) (w := w) (base := base) S12 T E_cell_height E_growX 
  have E_too_fast := ok_tf (P := l.prog) (w := w) (base := base) S13 T E_refuse_loud E_shows_too_fast 
  have E_tfX := ok_tfX (P := l.prog) (w := w) (base := base) S14 T E_loudX 
  have E_law_number := ok_nu (P := l.prog) (w := w) (base := base) S15 T E_law_draw 
  have E_law_rule := ok_ru (P := l.prog) (w := w) (base := base) S16 T E_law_draw 
  have E_law_steps := ok_steps (P := l.prog) (w := w) (base := base) S17 T  
  have E_law_growth := ok_lg (P := l.prog) (w := w) (base := base) S18 T E_law_steps 
  have E_law_shows := ok_ls (P := l.prog) (w := w) (base := base) S19 T E_law_growth 
  have E_law_ways := ok_wys (P := l.prog) (w := w) (base := base) S20 T  
  have E_law_many := ok_ma (P := l.prog) (w := w) (base := base) S21 T E_law_draw 
  have E_law_move := ok_mo (P := l.prog) (w := w) (base := base) S22 T E_law_draw E_law_number E_law_growth 
  have E_law_way := ok_wz (P := l.prog) (w := w) (base := base) S23 T E_law_draw E_law_number 
  have E_law_found_right := ok_fr (P := l.prog) (w := w) (base := base) S24 T E_too_fast E_law_ways E_law_shows E_shows_too_fast 
  have E_law_is_refused := ok_isref (P := l.prog) (w := w) (base := base) S25 T E_tfX E_stX (PySem.W.mg_of X G h_CellError) (no y0) (PySem.W.mg_of X G h_Folded) (PySem.W.mg_of X G h_Loud) (PySem.W.mg_of X G h_NoLine) (PySem.W.mg_of X G h_NoName) (PySem.W.mg_of X G h_NoNumber) (PySem.W.mg_of X G h_NoRest) (PySem.W.mg_of X G h_NoRule) (PySem.W.mg_of X G h_NoSize) (PySem.W.mg_of X G h_NoText) (PySem.W.mg_of X G h_NoThing) (PySem.W.mg_of X G h_Outside) (PySem.W.mg_of X G h_TooWide) y2 y3 y4 y5 y6 y7
  have E_law_some_right := ok_sr (P := l.prog) (w := w) (base := base) S26 T E_law_found_right 
  exact ok_law (P := l.prog) (w := w) (base := base) S27 T E_law_some_right E_law_pen E_law_rule E_law_many E_law_move E_law_found_right E_law_way E_shows_too_fast E_law_shows E_law_is_refused 
theorem walk {l : PySem.W.OpenLaw} {q : Program} {loose : List Str} {XP : (Str → Option Value) → Heap → Prop} {YP : World → Heap → Prop} {d : DefRec} {K : Params → PySem.W.Frag} {c Pt : Addr} (hn : l.most = some 63) (hdf : d.params.defaults = [])
    (hY : ∀ (w : World) (h : Heap), YP w h → (K w.params).In h) (hTb : ∀ (w : World) (h : Heap), YP w h → h.get? Pt = some (PySem.W.tabObj #[])) (hC : ∀ w : World, PySem.W.codeHdIn (K w.params) c Pt = true) (hKP : ∀ w : World, (K w.params).lookup Pt = none)
    (F : ∀ (w : World) (mg : Str → Option Value) (fa : Addr) (h : Heap), (K w.params).In h → h.Ns mainGlobals mg → mg d.name = some (.ref fa) →
      ∃ fd : FuncData, (∀ (s : Shared) (u : Value), BindsTo s fd ⟨[u], []⟩ [("_law_script", u)]) ∧ ∀ base : Heap, Bmod mg base → FnOk l.prog w (K w.params) mg base CX0 11 fa fd ["_law_script"] (spT (K w.params) Pt qn pLaw)) :
    PySem.W.WalkO q loose XP YP l.row.toRowW d [] (fun f vs => PySem.call f vs) :=
  L2.walk_ofT (n := 63) (k := 11) (x := "_law_script") (sp := fun w => spT (K w.params) Pt qn pLaw) hn (by decide) hdf ⟨rfl, by decide, by decide, rfl⟩ hY hTb hC hKP F
    (fun _ _ a ns hl hT hS => ⟨hT, _, fun d => d = .bl true, .cons (Rep.of_sqL hS trivial (fun _ => trivial) Reps.ints) .nil, ⟨ns, rfl, hl, rfl⟩, fun d v H' e _ r => by subst e; cases r; rfl⟩)
end My
def PySem.W.Fast.tw16956605153592228341 : Unit := ()
def PySem.W.Fast.tw108885070333257654 : Unit := ()
def PySem.W.Fast.tw11243167273113943759 : Unit := ()
def PySem.W.Fast.tw11093732051394229999 : Unit := ()
def PySem.W.Fast.tw1607534318426666907 : Unit := ()
def PySem.W.Fast.tw7697528063490544856 : Unit := ()
def PySem.W.Fast.tw11590266368637901147 : Unit := ()
def PySem.W.Fast.tw6509493603625307395 : Unit := ()
def PySem.W.Fast.tw11605095378719268353 : Unit := ()
def PySem.W.Fast.tw14286844773789662244 : Unit := ()
def PySem.W.Fast.tw8596007024405423270 : Unit := ()
def PySem.W.Fast.tw10590452415154808892 : Unit := ()
def PySem.W.Fast.tw12099103381445903173 : Unit := ()
def PySem.W.Fast.tw4005080182437050380 : Unit := ()
def PySem.W.Fast.tw8504312780211733912 : Unit := ()
def PySem.W.Fast.tw11598996051612127048 : Unit := ()
def PySem.W.Fast.tw2061210176964104586 : Unit := ()
def PySem.W.Fast.tw12771799267512373822 : Unit := ()
def PySem.W.Fast.tw1920048445689450754 : Unit := ()
def PySem.W.Fast.tw10433725766215517822 : Unit := ()
def PySem.W.Fast.tw10711966802005239916 : Unit := ()
open PySem PySem.W PyProof.Rows
set_option maxRecDepth 100000 in
set_option maxHeartbeats 0 in
theorem PySem.Challenge.cw_cellships_k29_too_fast_holds : PySem.Challenge.rw_cellships_k29_too_fast.Holds := by
  w_on; o_law; k_head; (case hw => w_witness2)
  k_fill
  refine My.walk (l := PySem.Challenge.rw_cellships_k29_too_fast) (c := 232) (Pt := 228) rfl rfl (fun w h Y => PySem.W.km_in_of Y) (fun w h Y => PySem.W.km_tabs_of Y _ (List.mem_cons_self ..)) (fun w => by kernel_rfl) (fun w => by kernel_rfl) ?F
  case F =>
    intro w mg fa h KX G hmg
    refine' My.all_ok (c := 232) (Pt := 228) KX G hmg (L2.src_mk KX G ?a0 ?l0 ?c0 ?k0) (L2.src_mk KX G ?a1 ?l1 ?c1 ?k1) (L2.src_mk KX G ?a2 ?l2 ?c2 ?k2) (L2.src_mk KX G ?a3 ?l3 ?c3 ?k3) (L2.src_mk KX G ?a4 ?l4 ?c4 ?k4) (L2.src_mk KX G ?a5 ?l5 ?c5 ?k5) (L2.src_mk KX G ?a6 ?l6 ?c6 ?k6) (L2.src_mk KX G ?a7 ?l7 ?c7 ?k7) (L2.src_mk KX G ?a8 ?l8 ?c8 ?k8) (L2.src_mk KX G ?a9 ?l9 ?c9 ?k9) (L2.src_mk KX G ?a10 ?l10 ?c10 ?k10) (L2.src_mk KX G ?a11 ?l11 ?c11 ?k11) (L2.src_mk KX G ?a12 ?l12 ?c12 ?k12) (L2.src_mk KX G ?a13 ?l13 ?c13 ?k13) (L2.src_mk KX G ?a14 ?l14 ?c14 ?k14) (L2.src_mk KX G ?a15 ?l15 ?c15 ?k15) (L2.src_mk KX G ?a16 ?l16 ?c16 ?k16) (L2.src_mk KX G ?a17 ?l17 ?c17 ?k17) (L2.src_mk KX G ?a18 ?l18 ?c18 ?k18) (L2.src_mk KX G ?a19 ?l19 ?c19 ?k19) (L2.src_mk KX G ?a20 ?l20 ?c20 ?k20) (L2.src_mk KX G ?a21 ?l21 ?c21 ?k21) (L2.src_mk KX G ?a22 ?l22 ?c22 ?k22) (L2.src_mk KX G ?a23 ?l23 ?c23 ?k23) (L2.src_mk KX G ?a24 ?l24 ?c24 ?k24) (L2.src_mk KX G ?a25 ?l25 ?c25 ?k25) (L2.src_mk KX G ?a26 ?l26 ?c26 ?k26) (L2.src_mk KX G ?a27 ?l27 ?c27 ?k27) ?n0 ?m0 ?h0 ?h1 ?h2 ?h3 ?h4 ?h5 ?h6 ?h7 ?h8 ?h9 ?h10 ?h11 ?h12 ?y0 ?y1 ?y2 ?y3 ?y4 ?y5 ?y6 ?y7 ?z0 ?z1 ?z2 ?z3 ?z4 ?z5 ?z6 ?z7 ?z8 ?z9 ?z10 ?z11 ?z12 ?z13 ?z14 ?z15 ?tc ?tt
    (case a0 => k_is); (case l0 => k_is); (case c0 => k_is); (case k0 => k_is)
    (case a1 => k_is); (case l1 => k_is); (case c1 => k_is); (case k1 => k_is)
    (case a2 => k_is); (case l2 => k_is); (case c2 => k_is); (case k2 => k_is)
    (case a3 => k_is); (case l3 => k_is); (case c3 => k_is); (case k3 => k_is)
    (case a4 => k_is); (case l4 => k_is); (case c4 => k_is); (case k4 => k_is)
    (case a5 => k_is); (case l5 => k_is); (case c5 => k_is); (case k5 => k_is)
    (case a6 => k_is); (case l6 => k_is); (case c6 => k_is); (case k6 => k_is)
    (case a7 => k_is); (case l7 => k_is); (case c7 => k_is); (case k7 => k_is)
    (case a8 => k_is); (case l8 => k_is); (case c8 => k_is); (case k8 => k_is)
    (case a9 => k_is); (case l9 => k_is); (case c9 => k_is); (case k9 => k_is)
    (case a10 => k_is); (case l10 => k_is); (case c10 => k_is); (case k10 => k_is)
    (case a11 => k_is); (case l11 => k_is); (case c11 => k_is); (case k11 => k_is)
    (case a12 => k_is); (case l12 => k_is); (case c12 => k_is); (case k12 => k_is)
    (case a13 => k_is); (case l13 => k_is); (case c13 => k_is); (case k13 => k_is)
    (case a14 => k_is); (case l14 => k_is); (case c14 => k_is); (case k14 => k_is)
    (case a15 => k_is); (case l15 => k_is); (case c15 => k_is); (case k15 => k_is)
    (case a16 => k_is); (case l16 => k_is); (case c16 => k_is); (case k16 => k_is)
    (case a17 => k_is); (case l17 => k_is); (case c17 => k_is); (case k17 => k_is)
    (case a18 => k_is); (case l18 => k_is); (case c18 => k_is); (case k18 => k_is)
    (case a19 => k_is); (case l19 => k_is); (case c19 => k_is); (case k19 => k_is)
    (case a20 => k_is); (case l20 => k_is); (case c20 => k_is); (case k20 => k_is)
    (case a21 => k_is); (case l21 => k_is); (case c21 => k_is); (case k21 => k_is)
    (case a22 => k_is); (case l22 => k_is); (case c22 => k_is); (case k22 => k_is)
    (case a23 => k_is); (case l23 => k_is); (case c23 => k_is); (case k23 => k_is)
    (case a24 => k_is); (case l24 => k_is); (case c24 => k_is); (case k24 => k_is)
    (case a25 => k_is); (case l25 => k_is); (case c25 => k_is); (case k25 => k_is)
    (case a26 => k_is); (case l26 => k_is); (case c26 => k_is); (case k26 => k_is)
    (case a27 => k_is); (case l27 => k_is); (case c27 => k_is); (case k27 => k_is)
    (case n0 => k_is); (case m0 => kernel_rfl)
    (case h0 => k_is)
    (case h1 => k_is)
    (case h2 => k_is)
    (case h3 => k_is)
    (case h4 => k_is)
    (case h5 => k_is)
    (case h6 => k_is)
    (case h7 => k_is)
    (case h8 => k_is)
    (case h9 => k_is)
    (case h10 => k_is)
    (case h11 => k_is)
    (case h12 => k_is)
    (case y0 => first | kernel_rfl | k_is)
    (case y1 => first | kernel_rfl | k_is)
    (case y2 => first | kernel_rfl | k_is)
    (case y3 => first | kernel_rfl | k_is)
    (case y4 => first | kernel_rfl | k_is)
    (case y5 => first | kernel_rfl | k_is)
    (case y6 => first | kernel_rfl | k_is)
    (case y7 => first | kernel_rfl | k_is)
    (case z0 => k_is); (case z1 => k_is); (case z2 => k_is); (case z3 => k_is); (case z4 => k_is); (case z5 => k_is); (case z6 => k_is); (case z7 => k_is); (case z8 => k_is); (case z9 => k_is); (case z10 => k_is); (case z11 => k_is); (case z12 => k_is); (case z13 => k_is); (case z14 => k_is); (case z15 => k_is)
    (case tc => kernel_rfl); (case tt => kernel_rfl)
#print axioms PySem.Challenge.cw_cellships_k29_too_fast_holds

