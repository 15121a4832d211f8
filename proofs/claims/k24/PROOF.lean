import PyProof.Rows.All
import Wide.All
import OpenK.AllK
import Wide.FinOn
import Lean
import PyProof.EqAt
import PyProof.EqKinds
import PyProof.TupleCall
import PyProof.NeData
import PyProof.P3In
import PyProof.ListRange
import PyProof.TupleOfStr
import PyProof.Rows.SumAny
import PyProof.Rows.Range3
import PyProof.StrCalls
import PyProof.Rows.SetFrom
import PyProof.WalksMore
import PyProof.TupleOfSeq
import KE.KRevSl
import KE.KLam
import KE.KSortKey
import KE.KNestM
import OpenK.KOwn
import KE.KIsNot
import KE.KTryMore
import PyProof.DictTable
import PyProof.Rows.TupDisplay
import PyProof.ReprLen
import PyProof.ReprRoads
import KE.KDictOf
import PyProof.AttrMissHeap
import PyProof.NeKinds
import PyProof.ZipIter
import PyProof.DictCompW
import PyProof.DictItems
import PyProof.DictWalks
import PyProof.DictDisplay
import PyProof.ExcAttrAll.ValueError
import PyProof.TupleKey
import PyProof.IsRules
import KE.KDictList
import KE.KDictSum
import PyProof.FactsAll.set_1
import PyProof.FactsAll.set_2
import PySem.Challenge.RW_cellships_k24_glides
set_option Elab.async false
set_option linter.all false
set_option bootstrap.genMatcherCode false
set_option genSizeOf false
set_option maxRecDepth 100000
set_option maxHeartbeats 4000000
namespace L2
open PySem PySem.Spec PyProof.Rows
noncomputable abbrev Key:=Sum Int Str
noncomputable def x5:Key->Value->Bool
 | .inl k,v=>Value.isInt k v
 | .inr x,v=>Value.isStrOf x v
noncomputable def Ew (w:World):Key->Int
 | .inl k=>hashInt k
 | .inr x=>hashStr w x
theorem bu:∀{k:Key} {v:Value},x5 k v=true->(∃i t,k=Sum.inl i/\v=Value.int i t)\/(∃x t,k=Sum.inr x/\v=Value.str x t)
 | .inl i,v,h=>by
  obtain ⟨t,e⟩:=Value.isInt_shape (k:=i) (v:=v) h
  exact .inl ⟨i,t,rfl,e⟩
 | .inr x,v,h=>by
  obtain ⟨t,e⟩:=Value.isStrOf_shape (x:=x) (v:=v) h
  exact .inr ⟨x,t,rfl,e⟩
theorem zj (a b:Int):decide ((Sum.inl a:Key)=Sum.inl b)=(a==b):=by
 by_cases e:a=b
 ·subst e;simp
 ·have h:¬ (Sum.inl a:Key)=Sum.inl b:=fun q=>e (Sum.inl.inj q)
  rw [decide_eq_false h]
  exact (beq_eq_false_iff_ne.mpr e).symm
theorem zk (a b:Str):decide ((Sum.inr a:Key)=Sum.inr b)=decide (a=b):=by
 by_cases e:a=b
 ·subst e;simp
 ·have h:¬ (Sum.inr a:Key)=Sum.inr b:=fun q=>e (Sum.inr.inj q)
  rw [decide_eq_false h,decide_eq_false e]
theorem zm (a:Int) (b:Str):decide ((Sum.inl a:Key)=Sum.inr b)=false:=decide_eq_false (fun q=>nomatch q)
theorem zo (a:Str) (b:Int):decide ((Sum.inr a:Key)=Sum.inl b)=false:=decide_eq_false (fun q=>nomatch q)
noncomputable def ko (prog:Program) (w:World):PySem.KeyKind prog w Key where
 is:=x5
 hash:=Ew w
 inj:=fun v a b ha hb=>by
  rcases bu ha with ⟨i,t,rfl,rfl⟩ | ⟨x,t,rfl,rfl⟩
  ·rcases bu hb with ⟨j,u,rfl,e⟩ | ⟨y,u,rfl,e⟩
   ·injection e with e1 _;rw [e1]
   ·exact nomatch e
  ·rcases bu hb with ⟨j,u,rfl,e⟩ | ⟨y,u,rfl,e⟩
   ·exact nomatch e
   ·injection e with e1 _;rw [e1]
 byValue:=fun k v h=>by
  rcases bu h with ⟨i,t,rfl,rfl⟩ | ⟨x,t,rfl,rfl⟩ <;> rfl
 pyHash:=fun hv h=>by
  rcases bu hv with ⟨i,t,rfl,rfl⟩ | ⟨x,t,rfl,rfl⟩
  ·exact wpAny_pyHash_int h
  ·exact wpAny_pyHash_str h
 eqBool:=fun hu hv h=>by
  rcases bu hu with ⟨i,t,rfl,rfl⟩ | ⟨x,t,rfl,rfl⟩
  ·rcases bu hv with ⟨j,u,rfl,rfl⟩ | ⟨y,u,rfl,rfl⟩
   ·rw [zj] at h;exact wpAny_eqBool_int h
   ·rw [zm] at h;exact SeqAt.EqAt.int_str i t y u _ _ _ _ h
  ·rcases bu hv with ⟨j,u,rfl,rfl⟩ | ⟨y,u,rfl,rfl⟩
   ·rw [zo] at h;exact SeqAt.EqAt.str_int x t j u _ _ _ _ h
   ·rw [zk] at h;exact wpAny_eqBool_str h
 «strs»:=fun k x t v h=>by
  rcases bu h with ⟨i,u,rfl,e⟩ | ⟨y,u,rfl,e⟩
  ·exact nomatch e
  ·injection e with e1 _
   subst e1
   cases v <;> rfl
end L2
namespace L2
open PySem PySem.Spec PyProof.Rows
inductive V where
 | non | bl (b:Bool) | int (i:Int) | str (x:Str) | byt (b:Array UInt8) | flt (b:UInt64) | ref (a:Addr) | ty (n:String)
 deriving DecidableEq
noncomputable def RelV:V->Value->Prop
 | .non,u=>u=Value.none
 | .bl b,u=>u=Value.bool b
 | .int i,u=>∃t,u=Value.int i t
 | .str x,u=>∃t,u=Value.str x t
 | .byt b,u=>∃t,u=Value.bytes b t
 | .flt b,u=>∃t,u=Value.float b t
 | .ref a,u=>u=Value.ref a
 | .ty n,u=>u=Value.type n
noncomputable abbrev Vals:List V->List Value->Prop:=Paired RelV
theorem Vals.length {xs:List V} {us:List Value} (r:Vals xs us):xs.length=us.length:=Paired.length r
theorem Vals.get:∀{xs:List V} {us:List Value} {i:Nat} {x:V},Vals xs us->xs[i]?=some x->∃u,us[i]?=some u/\RelV x u
 | _,_,_,_,.nil,e=>by simp at e
 | _,_,0,_,.cons r _,e=>by simp at e;subst e;exact ⟨_,rfl,r⟩
 | _,_,i+1,x,.cons _ t,e=>by
  obtain ⟨u,h1,h2⟩:=Vals.get (i:=i) (x:=x) t (by simpa using e)
  exact ⟨u,by simpa using h1,h2⟩
theorem Vals.set {x:V} {u:Value} (r:RelV x u):∀{xs:List V} {us:List Value} (i:Nat),Vals xs us->Vals (xs.set i x) (us.set i u)
 | _,_,_,.nil=>.nil
 | _,_,0,.cons _ t=>.cons r t
 | _,_,i+1,.cons q t=>.cons q (Vals.set r i t)
theorem Vals.append:∀{xs ys:List V} {us ws:List Value},Vals xs us->Vals ys ws->Vals (xs++ys) (us++ws)
 | _,_,_,_,.nil,s=>s
 | _,_,_,_,.cons r t,s=>.cons r (Vals.append t s)
theorem Vals.take:∀{xs:List V} {us:List Value} (n:Nat),Vals xs us->Vals (xs.take n) (us.take n)
 | _,_,0,_=>.nil
 | _,_,_+1,.nil=>.nil
 | _,_,n+1,.cons r t=>.cons r (Vals.take n t)
theorem Vals.drop:∀{xs:List V} {us:List Value} (n:Nat),Vals xs us->Vals (xs.drop n) (us.drop n)
 | _,_,0,r=>r
 | _,_,_+1,.nil=>.nil
 | _,_,n+1,.cons _ t=>Vals.drop n t
noncomputable def RelO:Option V->Option Value->Prop
 | some v,some u=>RelV v u
 | none,none=>True
 | _,_=>False
noncomputable def KV {κ:Type}:List (κ×V)->List (κ×Value)->Prop:=Paired fun (p:κ×V) (q:κ×Value)=>p.1=q.1/\RelV p.2 q.2
noncomputable def kV:Key->V
 | .inl i=>.int i
 | .inr x=>.str x
inductive HO where
 /-- a list -/
 | lst (xs:List V)
 /-- a tuple (never changes) -/
 | tup (xs:List V)
 /-- a dict whose keys are ints and texts;one whose keys are tuples of ints and texts (the empty one is both) -/
 | dK (kvs:List (Key×V)) | dT (kvs:List (List Key×V))
 /-- a set of ints: its members,its size -/
 | set (S:Int->Bool) (n:Nat)
 /-- an instance of the class at C,its dict at dx,its attributes -/
 | ins (C dx:Addr) (fs:List (Str×V))
 /-- the dict of the instance at x -/
 | own (x:Addr)
 /-- the dict of an exception -/
 | xd (fs:List (Str×V))
 /-- a bound method,f of x -/
 | met (f x:Addr)
 /-- a range object lo,lo+1,.. below hi -/
 | rng (lo hi:Int)
 /-- a thing that is known to the object (the script;a dict while a loop walks it): read,never written while it is so -/
 | frz (o:Obj) (u:HO)
 /-- a code object's table -/
 | tbl (ps:Array Value)
 /-- any other thing,by what is true of its one object (a def of one's own: SetO a S n:=HO.ext fun h=>..) -/
 | ext (φ:Heap->Prop)
noncomputable abbrev Hp:=Addr->Option HO
noncomputable def upd (H:Hp) (a:Addr) (o:HO):Hp:=fun b=>if b=a then some o else H b
theorem aH {H:Hp} {a:Addr} {o:HO}:upd H a o a=some o:=by unfold upd;rw [if_pos rfl]
theorem aD {H:Hp} {a b:Addr} {o:HO} (h:b≠a):upd H a o b=H b:=by unfold upd;rw [if_neg h]
theorem aZ {H:Hp} {a b:Addr} {o:HO} (h:H a=some o) (h':H b=none):a≠b:=by
 intro e;subst e;rw [h] at h';cases h'
section
variable (P:Program) (w:World)
noncomputable def bq (H:Hp) (h:Heap) (a:Addr):HO->Prop
 | .lst xs=>xs.length<=sizeLine/\∃(its:List Value) (n:Nat),Vals xs its/\h.get? a=some { cls:=.type "list",data:=.seq its.toArray n }
 | .tup xs=>xs.length<=sizeLine/\∃its:List Value,Vals xs its/\IsTup h a its.toArray
 | .dK kvs=>kvs.length<=sizeLine/\(a==sysModules)=false/\∃vs,KV kvs vs/\h.DictOf (ko P w) a vs
 | .dT kvs=>kvs.length<=sizeLine/\(a==sysModules)=false/\∃xs:List (List Key×Addr×Value),
   Paired (fun (p:List Key×V) (q:List Key×Addr×Value)=>p.1=q.1/\H q.2.1=some (.tup (p.1.map kV))/\RelV p.2 q.2.2) kvs xs /\
   ∃o es ep,h.get? a=some o/\o.ExactDict/\o.data=.dict es ep/\es.toList=xs.map (entryOfKey (tupleKind (ko P w)))/\(xs.map (·.1)).Nodup
 | .set S n=>h.SetOf (intKind P w) a S n
 | .ins C dx fs=>H dx=some (.own a)/\fs.length<=1000/\dx≠a/\h.get? a=some (PySem.W.instObj C dx) /\
   ∃mA,h.Ns1 dx mA/\(∀f,RelO (fs.lookup f) (mA f))/\PySem.Within mA (fs.map (·.1))
 | .own _=>∃o,h.get? a=some o
 | .xd fs=>∃mA,h.Ns1 a mA/\∀f,RelO (fs.lookup f) (mA f)
 | .rng lo hi=>∃t u v,h.get? a=some { cls:=.type "range",data:=.fields #[.int lo t,.int hi u,.int 1 v] }
 | .frz o u=>h.get? a=some o/\bq H h a u
 | .tbl ps=>∃qs,h.get? a=some { cls:=.none,data:=.fields qs }/\TriplesOk qs.toList/\∀pos cv,codeAmong pos qs.toList=some cv->∃c q t,cv=.ref c/\H c=some (.own a)/\ps[0]?=some (.str q t)/\h.CodeRec cv q
 | .met f x=>h.get? a=some (PySem.W.methodObj (.ref f) (.ref x))
 | .ext φ=>φ h/\(∃o,h.get? a=some o)/\∀h1 h2:Heap,φ h1->(∀o,h1.get? a=some o->h2.get? a=some o)->φ h2
noncomputable def HOk (H:Hp) (h:Heap):Prop:=∀a o,H a=some o->bq P w H h a o
end
section
variable {P:Program} {w:World} {H H':Hp} {h h':Heap} {a:Addr} {o:HO}
theorem bq.lt (x:bq P w H h a o):a < h.objs.size:=by
 cases o with
 | lst xs=>obtain ⟨_,_,_,_,e⟩:=x;exact Heap.lt_size e
 | tup xs=>obtain ⟨_,_,_,p⟩:=x;exact p.lt
 | dK kvs=>obtain ⟨_,_,_,_,o,_,_,e,_⟩:=x;exact Heap.lt_size e
 | dT kvs=>obtain ⟨_,_,_,_,o,_,_,e,_⟩:=x;exact Heap.lt_size e
 | set S n=>obtain ⟨o,_,_,_,e,_⟩:=x;exact Heap.lt_size e
 | ins C dx fs=>obtain ⟨_,_,_,e,_⟩:=x;exact Heap.lt_size e
 | own y=>obtain ⟨_,e⟩:=x;exact Heap.lt_size e
 | xd fs=>obtain ⟨_,⟨_,_,_,e,_⟩,_⟩:=x;exact Heap.lt_size e
 | rng lo hi=>obtain ⟨_,_,_,e⟩:=x;exact Heap.lt_size e
 | frz ob u=>obtain ⟨e,_⟩:=x;exact Heap.lt_size e
 | tbl ps=>obtain ⟨_,e,_⟩:=x;exact Heap.lt_size e
 | met f y=>exact Heap.lt_size (show h.get? a=some _ from x)
 | ext φ=>obtain ⟨_,⟨_,e⟩,_⟩:=x;exact Heap.lt_size e
theorem Paired.mapP {α β:Type} {F G:α->β->Prop}:∀{l₁:List α} {l₂:List β},Paired F l₁ l₂->(∀a b,F a b->G a b)->Paired G l₁ l₂
 | _,_,.nil,_=>.nil
 | _,_,.cons r t,f=>.cons (f _ _ r) (Paired.mapP t f)
theorem bq.stay (x:bq P w H h a o) (k:∀b u,(b=a\/H b=some (.own a))->h.get? b=some u->h'.get? b=some u)
  (ho:∀b,H b=some (.own a)->H' b=some (.own a)) (ht:∀b xs,H b=some (.tup xs)->H' b=some (.tup xs)):bq P w H' h' a o:=by
 induction o with
 | lst xs=>obtain ⟨z,its,n,r,e⟩:=x;exact ⟨z,its,n,r,k _ _ (.inl rfl) e⟩
 | tup xs=>obtain ⟨z,its,r,ob,e,c⟩:=x;exact ⟨z,its,r,ob,k _ _ (.inl rfl) e,c⟩
 | dK kvs=>obtain ⟨z,y,vs,r,ob,es,ep,e,c⟩:=x;exact ⟨z,y,vs,r,ob,es,ep,k _ _ (.inl rfl) e,c⟩
 | dT kvs=>
  obtain ⟨z,y,xs,r,ob,es,ep,e,c⟩:=x
  exact ⟨z,y,xs,Paired.mapP r fun p q z=>⟨z.1,ht _ _ z.2.1,z.2.2⟩,ob,es,ep,k _ _ (.inl rfl) e,c⟩
 | set S n=>obtain ⟨ob,es,ep,t,e,c⟩:=x;exact ⟨ob,es,ep,t,k _ _ (.inl rfl) e,c⟩
 | ins C dx fs=>
  obtain ⟨d,z,ne,e,mA,⟨od,es,ep,e2,c⟩,r⟩:=x
  exact ⟨ho _ d,z,ne,k _ _ (.inl rfl) e,mA,⟨od,es,ep,k _ _ (.inr d) e2,c⟩,r⟩
 | own y=>obtain ⟨ob,e⟩:=x;exact ⟨ob,k _ _ (.inl rfl) e⟩
 | xd fs=>obtain ⟨mA,⟨od,es,ep,e,c⟩,r⟩:=x;exact ⟨mA,⟨od,es,ep,k _ _ (.inl rfl) e,c⟩,r⟩
 | rng lo hi=>obtain ⟨t,u,v,e⟩:=x;exact ⟨t,u,v,k _ _ (.inl rfl) e⟩
 | frz ob u ih=>obtain ⟨e,q⟩:=x;exact ⟨k _ _ (.inl rfl) e,ih q⟩
 | tbl ps=>
  obtain ⟨qs,e,t,f⟩:=x
  refine ⟨qs,k _ _ (.inl rfl) e,t,fun pos cv hc=>?_⟩
  obtain ⟨c,q,tk,rfl,ho',hq,c2,oc,vs,tq,ec,e1,r⟩:=f pos cv hc
  cases ec
  exact ⟨c,q,tk,rfl,ho _ ho',hq,c,oc,vs,tq,rfl,k _ _ (.inr ho') e1,r⟩
 | met f y=>
  have e:h.get? a=some (PySem.W.methodObj (.ref f) (.ref y)):=x
  show h'.get? a=some (PySem.W.methodObj (.ref f) (.ref y))
  exact k a _ (.inl rfl) e
 | ext φ=>obtain ⟨p,⟨o,e⟩,st⟩:=x;exact ⟨st _ _ p fun o q=>k _ _ (.inl rfl) q,⟨o,k _ _ (.inl rfl) e⟩,st⟩
theorem HOk.lt (x:HOk P w H h) (e:H a=some o):a < h.objs.size:=(x a o e).lt
theorem HOk.fresh (x:HOk P w H h) (e:h.objs.size<=a):H a=none:=by
 cases q:H a with
 | none=>rfl
 | some u=>exact absurd (Nat.lt_of_lt_of_le (x.lt q) e) (Nat.lt_irrefl _)
theorem HOk.kept (x:HOk P w H h) (k:∀b u,h.get? b=some u->h'.get? b=some u):HOk P w H h':=fun a o e=>
 (x a o e).stay (fun b u _ q=>k b u q) (fun _ q=>q) fun _ _ q=>q
theorem HOk.laid (x:HOk P w H h) (k:∀b u,h.get? b=some u->h'.get? b=some u) (hp:h.objs.size<=a) (new:bq P w (upd H a o) h' a o):HOk P w (upd H a o) h':=fun b u e=>by
 have hn:=x.fresh hp
 by_cases hb:b=a
 ·subst hb;rw [aH] at e;cases e;exact new
 ·rw [aD hb] at e
  exact (x b u e).stay (fun c v _ q=>k c v q) (fun c q=>by rw [aD (aZ q hn)];exact q) fun c xs q=>by rw [aD (aZ q hn)];exact q
end
noncomputable def Rd (H:Hp) (a:Addr) (u:HO):Prop:=H a=some u\/∃o,H a=some (.frz o u)
theorem Rd.ok {P:Program} {w:World} {H:Hp} {h:Heap} {a:Addr} {u:HO} (r:Rd H a u) (x:HOk P w H h):bq P w H h a u:=by
 rcases r with r | ⟨o,r⟩
 ·exact x a u r
 ·obtain ⟨_,q⟩:=x a _ r
  exact q
noncomputable def Mut:Option HO->Prop
 | some (.lst _)=>True
 | some (.dK _)=>True
 | some (.dT _)=>True
 | some (.set _ _)=>True
 | some (.ins _ _ _)=>True
 | some (.ext _)=>True
 | _=>False
section
variable {P:Program} {w:World} {H:Hp} {h h':Heap} {x e:Addr} {o':HO}
theorem HOk.write (ok:HOk P w H h) (mu:Mut (H x)) (he:e=x\/H e=some (.own x)) (k:∀b u,b≠e->h.get? b=some u->h'.get? b=some u) (heo:∃u,h'.get? e=some u)
  (new:bq P w (upd H x o') h' x o'):HOk P w (upd H x o') h':=fun b u q=>by
 have nown:∀c y,H c=some (.own y)->c≠x:=fun c y r z=>by subst z;rw [r] at mu;exact mu
 have ntup:∀c xs,H c=some (.tup xs)->c≠x:=fun c xs r z=>by subst z;rw [r] at mu;exact mu
 by_cases hb:b=x
 ·subst hb;rw [aH] at q;cases q;exact new
 ·rw [aD hb] at q
  by_cases hbe:b=e
  ·have q':H b=some (.own x):=by
    rcases he with z | z
    ·exact absurd (hbe.trans z) hb
    ·rw [hbe];exact z
   rw [q] at q';cases q'
   obtain ⟨v,hv⟩:=heo
   exact ⟨v,by rw [hbe];exact hv⟩
  ·refine (ok b u q).stay (fun c v hc r=>k c v ?_ r) (fun c r=>by rw [aD (nown c b r)];exact r) fun c xs r=>by rw [aD (ntup c xs r)];exact r
   rcases hc with rfl | hc
   ·exact hbe
   ·rintro rfl
    rcases he with z | z
    ·exact nown c b hc z
    ·rw [hc] at z;cases z;exact hb rfl
end
structure Un (fs ex:List Addr) (H H':Hp) (h h':Heap):Prop where
 keep:∀b o,h.get? b=some o->H b=none->b∉fs->b∉ex->h'.get? b=some o
 slot:∀b o,h.get? b=some o->H b=none->b∈fs->b∉ex->∃sl,h'.get? b=some { o with slots:=sl }
 free:∀b o,h.get? b=some o->H b=none->b∉ex->H' b=none
 there:∀b o,h.get? b=some o->b∉ex->∃o',h'.get? b=some o'
 tups:∀b xs,H b=some (.tup xs)->H' b=some (.tup xs)
 frzs:∀b o u,H b=some (.frz o u)->H' b=some (.frz o u)
 tbls:∀b ps,H b=some (.tbl ps)->∃more,H' b=some (.tbl (ps++more))
section
variable {fs fs' ex ex':List Addr} {H H1 H2:Hp} {h h1 h2 h':Heap} {a x e:Addr} {o:HO}
theorem Un.any (u:Un fs ex H H1 h h1) {b:Addr} {ob:Obj} (q:h.get? b=some ob) (n:H b=none) (hx:b∉ex):∃sl,h1.get? b=some { ob with slots:=sl }:=by
 by_cases hb:b∈fs
 ·exact u.slot b ob q n hb hx
 ·exact ⟨ob.slots,u.keep b ob q n hb hx⟩
theorem Un.kept (k:∀b u,h.get? b=some u->h'.get? b=some u):Un fs ex H H h h':=
 ⟨fun b ob q _ _ _=>k b ob q,fun b ob q _ _ _=>⟨ob.slots,k b ob q⟩,fun _ _ _ n _=>n,fun b ob q _=>⟨ob,k b ob q⟩,fun _ _ q=>q,fun _ _ _ q=>q,fun _ ps q=>⟨#[],by rw [q];simp⟩⟩
theorem Un.refl:Un fs ex H H h h:=Un.kept fun _ _ q=>q
theorem Un.laid (k:∀b u,h.get? b=some u->h'.get? b=some u) (hp:h.objs.size<=a) (hn:H a=none):Un fs ex H (upd H a o) h h' where
 keep:=fun b u q _ _ _=>k b u q
 slot:=fun b u q _ _ _=>⟨u.slots,k b u q⟩
 free:=fun b u q n _=>by rw [aD (Nat.ne_of_lt (Nat.lt_of_lt_of_le (Heap.lt_size q) hp))];exact n
 there:=fun b u q _=>⟨u,k b u q⟩
 tups:=fun b xs q=>by rw [aD (aZ q hn)];exact q
 frzs:=fun b u xs q=>by rw [aD (aZ q hn)];exact q
 tbls:=fun b ps q=>⟨#[],by rw [aD (aZ q hn),q];simp⟩
theorem Un.write (mu:Mut (H x)) (he:e=x\/H e=some (.own x)) (k:∀b u,b≠e->h.get? b=some u->h'.get? b=some u) (heo:∃u,h'.get? e=some u):Un fs ex H (upd H x o) h h':=by
 have hx:∀b,H b=none->b≠x:=fun b n z=>by subst z;rw [n] at mu;exact mu
 have hb:∀b,H b=none->b≠e:=fun b n z=>by
  subst z
  rcases he with r | r
  ·exact hx b n r
  ·rw [n] at r;cases r
 have hm:∀b u,H b=some u->¬ Mut (some u)->b≠x:=fun b u q nm z=>by subst z;rw [q] at mu;exact nm mu
 refine ⟨fun b u q n _ _=>k b u (hb b n) q,fun b u q n _ _=>⟨u.slots,k b u (hb b n) q⟩,fun b u q n _=>by rw [aD (hx b n)];exact n,fun b u q _=>?_,
  fun b xs q=>by rw [aD (hm b _ q fun z=>z)];exact q,fun b u xs q=>by rw [aD (hm b _ q fun z=>z)];exact q,fun b ps q=>⟨#[],by rw [aD (hm b _ q fun z=>z),q];simp⟩⟩
 by_cases hbe:b=e
 ·subst hbe;exact heo
 ·exact ⟨u,k b u hbe q⟩
end
noncomputable def trk (h:Heap) (H:Hp):List Addr:=(List.range h.objs.size).filter fun a=>(H a).isSome
noncomputable def kq (h:Heap) (H:Hp):Heap:=PySem.W.hideAll h (trk h H)
theorem pP (h:Heap) (H:Hp):(kq h H).objs.size=h.objs.size:=PySem.W.hideAll_size _ _
theorem qG {h:Heap} {H:Hp} {b:Addr} {o:Obj} (e:h.get? b=some o) (n:H b=none):(kq h H).get? b=some o:=
 PySem.W.hideAll_get _ e fun hm=>by
  have q:(H b).isSome=true:=(List.mem_filter.mp hm).2
  rw [n] at q;simp at q
theorem vm {h:Heap} {H:Hp} {b:Addr} {o:Obj} (e:(kq h H).get? b=some o):h.get? b=some o/\H b=none:=by
 have e':h.get? b=some o:=PySem.W.of_hideAll (trk h H) e
 refine ⟨e',?_⟩
 cases q:H b with
 | none=>rfl
 | some x=>
  have hm:b∈trk h H:=List.mem_filter.mpr ⟨List.mem_range.mpr (Heap.lt_size e'),by simp [q]⟩
  have z:(kq h H).get? b=none:=PySem.W.hideAll_none (trk h H) hm
  rw [z] at e;cases e
noncomputable def fB (g h:Heap) (L:Addr):List (Addr×Obj):=(List.range h.objs.size).filterMap fun a=>if a=L\/(g.get? a).isSome=true then none else (h.get? a).map fun o=>(a,o)
theorem lJ {g h:Heap} {L a:Addr} {o:Obj} (h1:a≠L) (h2:g.get? a=none) (h3:h.get? a=some o):(a,o)∈fB g h L:=
 List.mem_filterMap.mpr ⟨a,List.mem_range.mpr (Heap.lt_size h3),by simp [h1,h2,h3]⟩
theorem iI {g h:Heap} {L:Addr} {p:Addr×Obj} (hp:p∈fB g h L):p.1≠L/\g.get? p.1=none/\h.get? p.1=some p.2:=by
 obtain ⟨b,_,e⟩:=List.mem_filterMap.mp hp
 split at e
 ·cases e
 ·rename_i hn
  cases q:h.get? b with
  | none=>rw [q] at e;simp at e
  | some u=>
   rw [q] at e
   simp only [Option.map_some,Option.some.injEq] at e
   subst e
   refine ⟨fun z=>hn (.inl z),?_,q⟩
   show g.get? b=none
   cases r:g.get? b with
   | none=>rfl
   | some v=>exact (hn (.inr (by simp [r]))).elim
theorem lK {g h:Heap} {L:Addr}:News g L h (fB g h L):=fun p hp=>let ⟨a,b,c⟩:=iI hp;⟨c,a,b⟩
end L2
namespace L2
open PySem PySem.Spec PyProof.Rows
structure Mod (K:PySem.W.Frag) (mg:Str->Option Value) (base:Heap):Prop where
 kin:K.In base
 glob:base.Ns mainGlobals mg
 blt:∃mb,base.Ns builtinsNs mb/\∀x:Str,x≠"__name__"->mb x=bootBuiltins x
 nolimit:base.NoLimit
structure Cx where
 prog:Program
 w:World
 K:PySem.W.Frag
 mg:Str->Option Value
 base:Heap
 A:Around
 N:List Str
 s₀:Shared
 H₀:Hp
 env:Env
 outer:List Env
 stack:List Env
 ex:List Addr
 fn:Str->Bool
 calm:Bool
 pn:List (Addr×Obj)
 xe:Value->Shared->Prop
noncomputable def frs (l:List Env):List Addr:=l.filterMap (·.frame)
noncomputable abbrev Cx.fs (X:Cx):List Addr:=frs X.outer
noncomputable def Vis (sc:Scope) (x:Str):Prop:=sc.names.lookup x=some .local\/sc.names.lookup x=some .cell\/sc.names.lookup x=some .free
noncomputable def Loc (sc:Scope) (x:Str):Prop:=sc.names.lookup x=some .local\/sc.names.lookup x=some .cell
noncomputable def Look (env:Env) (h:Heap) (m:Str->Option Value) (x:Str) (u:Value):Prop:=
 (env.kindOf x=some .local/\m x=some u)\/((env.kindOf x=some .cell\/env.kindOf x=some .free)/\∃c,env.cells.lookup x=some c/\h.IsCell c (some u))
structure Cx.Ok (X:Cx):Prop where
 mod:Mod X.K X.mg X.base
 kind:X.env.scope.kind=.function
 glob:X.env.globals=mainGlobals
 blt:X.env.builtins=builtinsNs
 above:X.s₀.heap.objs.size<=X.env.locals
 inj:∀x y c,X.env.cells.lookup x=some c->X.env.cells.lookup y=some c->x=y
 has:∀x,(X.env.kindOf x=some .cell\/X.env.kindOf x=some .free)->∃c,X.env.cells.lookup x=some c
 cab:∀x c,X.fn x=true->X.env.cells.lookup x=some c->X.s₀.heap.objs.size<=c
 hd:X.calm=true->X.A.handled=none
 frames:X.A.frames=some X.stack
 stk:X.stack=X.outer\/(X.stack=X.env::X.outer/\X.env.frame=some X.env.locals)
 exf:∀b∈X.ex,b≠X.env.locals/\∀x c,X.env.cells.lookup x=some c->c≠b
 bs:∀b o,X.base.get? b=some o->X.s₀.heap.get? b=some o/\X.H₀ b=none
 bsz:X.base.objs.size<=X.s₀.heap.objs.size
 noex:∀b o,X.base.get? b=some o->b∉X.ex
 exfs:∀b∈X.ex,b∉X.fs
 funs:X.s₀.heap.FunFrames X.base X.outer
 frf:∀b∈X.fs,X.H₀ b=none
structure Inv (X:Cx) (pins:List (Addr×Obj)) (σ:List (Option V)) (H:Hp) (s:Shared):Prop where
 ok:X.Ok
 os:s.os=X.s₀.os
 bare:AllBare s.gens
 base:Un X.fs X.ex X.H₀ H X.s₀.heap s.heap
 loc:∃m,s.heap.Ns X.env.locals m/\∀(i:Nat) (x:Str) (v:V),X.N[i]?=some x->σ[i]?=some (some v)->Vis X.env.scope x->∃u,RelV v u/\Look X.env s.heap m x u
 cell:∀x c,X.env.cells.lookup x=some c->∃v,s.heap.IsCell c v
 free:H X.env.locals=none
 freeC:∀x c,X.env.cells.lookup x=some c->H c=none
 pin:∀p∈X.pn++pins,s.heap.get? p.1=some p.2/\H p.1=none/\p.1≠X.env.locals/\p.1∉X.fs/\∀v,p.2.data≠.cell v
 hok:HOk X.prog X.w H s.heap
 len:σ.length=X.N.length
section
variable {X:Cx} {pins:List (Addr×Obj)} {σ:List (Option V)} {H H':Hp} {s:Shared} {h':Heap}
theorem Cx.Ok.nofr (ok:X.Ok) {b:Addr} {o:Obj} (e:X.base.get? b=some o):b∉X.fs:=fun hb=>by
 have:=(ok.funs.mem hb).1
 rw [e] at this;cases this
theorem Inv.bs (I:Inv X pins σ H s):∀b o,X.base.get? b=some o->s.heap.get? b=some o/\H b=none:=fun b o e=>
 ⟨I.base.keep b o (I.ok.bs b o e).1 (I.ok.bs b o e).2 (I.ok.nofr e) (I.ok.noex b o e),I.base.free b o (I.ok.bs b o e).1 (I.ok.bs b o e).2 (I.ok.noex b o e)⟩
theorem Inv.bk (I:Inv X pins σ H s):∀b o,X.base.get? b=some o->s.heap.get? b=some o:=fun b o e=>(I.bs b o e).1
theorem Inv.mod (I:Inv X pins σ H s):Mod X.K X.mg X.base:=I.ok.mod
theorem Inv.kIn (I:Inv X pins σ H s):X.K.In s.heap:=I.ok.mod.kin.keeps I.bk
theorem Inv.fr (I:Inv X pins σ H s):∃m,Fr X.base X.env.locals s.heap m:=
 let ⟨m,hn,_⟩:=I.loc
 ⟨m,hn,I.bk,Nat.le_trans I.ok.bsz I.ok.above⟩
theorem Inv.lt (I:Inv X pins σ H s):X.env.locals < s.heap.objs.size:=let ⟨_,hn,_⟩:=I.loc;hn.lt
theorem Inv.sz (I:Inv X pins σ H s):X.s₀.heap.objs.size<=s.heap.objs.size:=Nat.le_trans I.ok.above (Nat.le_of_lt I.lt)
theorem Inv.nofs (I:Inv X pins σ H s) {a:Addr} (h:s.heap.objs.size<=a):a∉X.fs:=fun hb=>by
 obtain ⟨_,o,ho,_⟩:=I.ok.funs.mem hb
 exact absurd (Nat.lt_of_lt_of_le (Heap.lt_size ho) (Nat.le_trans I.sz h)) (Nat.lt_irrefl _)
theorem Inv.cne (I:Inv X pins σ H s):∀x c,X.env.cells.lookup x=some c->c≠X.env.locals:=fun x c e z=>by
 obtain ⟨v,o,ho,hd⟩:=I.cell x c e
 obtain ⟨m,⟨o',es,ep,ho',hd',_⟩,_⟩:=I.loc
 rw [z,ho'] at ho;cases ho;rw [hd'] at hd;cases hd
theorem Inv.funs (I:Inv X pins σ H s):s.heap.FunFrames X.base X.outer:=by
 have all:∀(l:List Env),(∀b∈frs l,b∈X.fs)->X.s₀.heap.FunFrames X.base l->s.heap.FunFrames X.base l:=by
  intro l
  induction l with
  | nil=>intro _ _;trivial
  | cons env r ih=>
   intro hs hl
   obtain ⟨hk,⟨L,o,hf,hn,ho,hd⟩,hr⟩:=hl
   have hL:L∈X.fs:=hs L (by unfold frs;rw [List.filterMap_cons,hf];exact List.mem_cons_self)
   obtain ⟨sl,e⟩:=I.base.slot L o ho (I.ok.frf L hL) hL fun z=>I.ok.exfs L z hL
   exact ⟨hk,⟨L,_,hf,hn,e,hd⟩,ih (fun b hb=>hs b (by unfold frs;rw [List.filterMap_cons,hf];exact List.mem_cons_of_mem _ hb)) hr⟩
 exact all X.outer (fun _ hb=>hb) I.ok.funs
theorem Inv.stack (I:Inv X pins σ H s):s.heap.FunFrames X.base X.stack:=by
 rcases I.ok.stk with e | ⟨e,hf⟩
 ·rw [e];exact I.funs
 ·rw [e]
  obtain ⟨m,hn,_⟩:=I.loc
  refine .cons (by rw [I.ok.kind];decide) hf hn ?_ I.funs
  exact Heap.get?_none_of_le (Nat.le_trans I.ok.bsz I.ok.above)
theorem Inv.stkSub (I:Inv X pins σ H s):∀b∈frs X.stack,b∈X.env.locals::X.fs:=fun b hb=>by
 rcases I.ok.stk with e | ⟨e,hf⟩
 ·rw [e] at hb;exact List.mem_cons_of_mem _ hb
 ·rw [e] at hb
  unfold frs at hb
  rw [List.filterMap_cons,hf] at hb
  exact hb
theorem Inv.stkFree (I:Inv X pins σ H s):∀b∈frs X.stack,H b=none:=fun b hb=>by
 rcases List.mem_cons.mp (I.stkSub b hb) with e | hb
 ·rw [e];exact I.free
 ·obtain ⟨_,o,ho,_⟩:=I.ok.funs.mem hb
  exact I.base.free b o ho (I.ok.frf b hb) fun z=>I.ok.exfs b z hb
theorem Inv.step {g':Array GenState} {t':Nat} {d':Drawn} {ch:List Addr} (I:Inv X pins σ H s)
  (hch:∀b∈ch,(b∈X.ex\/X.s₀.heap.objs.size<=b)/\b≠X.env.locals/\(∀x c,X.env.cells.lookup x=some c->c≠b)/\∀p∈X.pn++pins,p.1≠b)
  (keep:∀b o,b≠X.env.locals->b∉X.fs->b∉ch->s.heap.get? b=some o->H b=none->h'.get? b=some o)
  (slot:∀b o,b≠X.env.locals->b∈X.fs->b∉ch->s.heap.get? b=some o->H b=none->∃sl,h'.get? b=some { o with slots:=sl }) (free:∀b o,b∉ch->s.heap.get? b=some o->H b=none->H' b=none)
  (there:∀b o,b∉ch->s.heap.get? b=some o->∃o',h'.get? b=some o')
  (tups:∀b xs,H b=some (.tup xs)->H' b=some (.tup xs)) (frzs:∀b o u,H b=some (.frz o u)->H' b=some (.frz o u)) (tbls:∀b ps,H b=some (.tbl ps)->∃more,H' b=some (.tbl (ps++more)))
  (ns:∀m,s.heap.Ns X.env.locals m->h'.Ns X.env.locals m) (hok:HOk X.prog X.w H' h') (hg:AllBare g') :
  Inv X pins σ H' { s with heap:=h',gens:=g',drawn:=d',toks:=t' }:=by
 have neL:∀b o,X.s₀.heap.get? b=some o->b≠X.env.locals:=fun b o e=>Nat.ne_of_lt (Nat.lt_of_lt_of_le (Heap.lt_size e) I.ok.above)
 have neC:∀b o,X.s₀.heap.get? b=some o->b∉X.ex->b∉ch:=fun b o e hx hb=>by
  rcases (hch b hb).1 with z | z
  ·exact hx z
  ·exact absurd (Nat.lt_of_lt_of_le (Heap.lt_size e) z) (Nat.lt_irrefl _)
 have cellK:∀x c,X.env.cells.lookup x=some c->∀v,s.heap.IsCell c v->h'.IsCell c v:=fun x c e v ⟨o,ho,hd⟩=>by
  have nch:c∉ch:=fun z=>(hch c z).2.2.1 x c e rfl
  by_cases hc:c∈X.fs
  ·obtain ⟨sl,q⟩:=slot c o (I.cne x c e) hc nch ho (I.freeC x c e)
   exact ⟨_,q,hd⟩
  ·exact ⟨o,keep c o (I.cne x c e) hc nch ho (I.freeC x c e),hd⟩
 refine ⟨I.ok,I.os,hg,⟨fun b o e n hb hx=>?_,fun b o e n hb hx=>?_,fun b o e n hx=>?_,fun b o e hx=>?_,fun b xs e=>tups b xs (I.base.tups b xs e),fun b o xs e=>frzs b o xs (I.base.frzs b o xs e),fun b ps e=>?_⟩,?_,fun x c e=>?_,?_,fun x c e=>?_,fun p hp=>?_,hok,I.len⟩
 ·exact keep b o (neL b o e) hb (neC b o e hx) (I.base.keep b o e n hb hx) (I.base.free b o e n hx)
 ·obtain ⟨sl,e1⟩:=I.base.slot b o e n hb hx
  obtain ⟨sl',e2⟩:=slot b _ (neL b o e) hb (neC b o e hx) e1 (I.base.free b o e n hx)
  exact ⟨sl',e2⟩
 ·obtain ⟨o',e1⟩:=I.base.there b o e hx
  exact free b o' (neC b o e hx) e1 (I.base.free b o e n hx)
 ·obtain ⟨o',e1⟩:=I.base.there b o e hx
  exact there b o' (neC b o e hx) e1
 ·obtain ⟨m1,e1⟩:=I.base.tbls b ps e
  obtain ⟨m2,e2⟩:=tbls b _ e1
  exact ⟨m1++m2,by rw [e2,Array.append_assoc]⟩
 ·obtain ⟨m,hn,hl⟩:=I.loc
  refine ⟨m,ns m hn,fun i x v e1 e2 e3=>?_⟩
  obtain ⟨u,r,l⟩:=hl i x v e1 e2 e3
  refine ⟨u,r,?_⟩
  rcases l with l | ⟨k,c,e,z⟩
  ·exact .inl l
  ·exact .inr ⟨k,c,e,cellK x c e _ z⟩
 ·obtain ⟨v,z⟩:=I.cell x c e
  exact ⟨v,cellK x c e v z⟩
 ·obtain ⟨m,⟨o,_,_,ho,_⟩,_⟩:=I.loc
  exact free _ o (fun z=>(hch _ z).2.1 rfl) ho I.free
 ·obtain ⟨v,o,ho,hd⟩:=I.cell x c e
  exact free c o (fun z=>(hch c z).2.2.1 x c e rfl) ho (I.freeC x c e)
 ·obtain ⟨e,n,ne,nf,d⟩:=I.pin p hp
  have nch:p.1∉ch:=fun z=>(hch p.1 z).2.2.2 p hp rfl
  exact ⟨keep p.1 p.2 ne nf nch e n,free p.1 p.2 nch e n,ne,nf,d⟩
theorem Inv.un {t':Nat} (I:Inv X pins σ H s) (u:Un X.fs [] H H' s.heap h') (hok:HOk X.prog X.w H' h'):Inv X pins σ H' { s with heap:=h',toks:=t' }:=by
 obtain ⟨m,⟨o,es,ep,ho,r⟩,_⟩:=id I.loc
 obtain ⟨sl,hL⟩:=u.any ho I.free (by simp)
 exact I.step (g':=s.gens) (d':=s.drawn) (ch:=[]) (fun _ z=>nomatch z) (fun b o _ hb _ e n=>u.keep b o e n hb (by simp)) (fun b o _ hb _ e n=>u.slot b o e n hb (by simp)) (fun b o _ e n=>u.free b o e n (by simp)) (fun b o _ e=>u.there b o e (by simp)) u.tups u.frzs u.tbls (fun m' hm=>by
  obtain ⟨o',es',ep',ho',r'⟩:=hm
  rw [ho] at ho';cases ho'
  exact ⟨_,es',ep',hL,r'⟩) hok I.bare
theorem Inv.call {g':Array GenState} {t':Nat} {d':Drawn} {ch:List Addr} (I:Inv X pins σ H s) (u:Un (frs X.stack) ch H H' s.heap h') (hok:HOk X.prog X.w H' h') (hg:AllBare g')
  (hch:∀b∈ch,(b∈X.ex\/X.s₀.heap.objs.size<=b)/\b≠X.env.locals/\(∀x c,X.env.cells.lookup x=some c->c≠b)/\∀p∈X.pn++pins,p.1≠b) :
  Inv X pins σ H' { s with heap:=h',gens:=g',drawn:=d',toks:=t' }:=by
 obtain ⟨m,⟨o,es,ep,ho,r⟩,_⟩:=id I.loc
 obtain ⟨sl,hL⟩:=u.any ho I.free fun z=>(hch _ z).2.1 rfl
 exact I.step (ch:=ch) hch (fun b o hL hb hc e n=>u.keep b o e n (fun z=>(List.mem_cons.mp (I.stkSub b z)).elim hL hb) hc) (fun b o _ _ hc e n=>u.any e n hc) (fun b o hc e n=>u.free b o e n hc) (fun b o hc e=>u.there b o e hc) u.tups u.frzs u.tbls (fun m' hm=>by
  obtain ⟨o',es',ep',ho',r'⟩:=hm
  rw [ho] at ho';cases ho'
  exact ⟨_,es',ep',hL,r'⟩) hok hg
theorem Inv.turned {t':Nat} {it:Addr} (I:Inv X pins σ H s) (k:∀b o,b≠it->s.heap.get? b=some o->h'.get? b=some o) (hn:H it=none) (hL:it≠X.env.locals)
  (h1:it∈X.ex\/X.s₀.heap.objs.size<=it) (h2:∀x c,X.env.cells.lookup x=some c->c≠it) (h3:∀p∈X.pn++pins,p.1≠it):Inv X pins σ H { s with heap:=h',toks:=t' }:=by
 have nit:∀b u,H b=some u->b≠it:=fun b u e z=>by rw [z,hn] at e;cases e
 refine I.step (g':=s.gens) (d':=s.drawn) (ch:=[it]) (fun b hb=>?_) (fun b o _ _ hc e _=>k b o (fun z=>hc (by simp [z])) e) (fun b o _ _ hc e _=>⟨o.slots,k b o (fun z=>hc (by simp [z])) e⟩) (fun _ _ _ _ n=>n)
  (fun b o hc e=>⟨o,k b o (fun z=>hc (by simp [z])) e⟩) (fun _ _ e=>e) (fun _ _ _ e=>e) (fun b ps e=>⟨#[],by rw [e];simp⟩) (fun m hm=>?_) (fun b u e=>?_) I.bare
 ·have e:b=it:=by simpa using hb
  subst e
  exact ⟨h1,hL,h2,h3⟩
 ·obtain ⟨o,es,ep,ho,r⟩:=hm
  exact ⟨o,es,ep,k _ o (Ne.symm hL) ho,r⟩
 ·refine (I.hok b u e).stay (fun c v hc q=>k c v ?_ q) (fun _ q=>q) fun _ _ q=>q
  rcases hc with z | z
  ·rw [z];exact nit b u e
  ·exact nit c _ z
theorem Inv.tok (I:Inv X pins σ H s) (t:Nat):Inv X pins σ H { s with toks:=t }:=I.un (h':=s.heap) (t':=t) Un.refl I.hok
theorem Inv.kept {t':Nat} (I:Inv X pins σ H s) (k:∀b u,s.heap.get? b=some u->h'.get? b=some u):Inv X pins σ H { s with heap:=h',toks:=t' }:=I.un (Un.kept k) (I.hok.kept k)
theorem Inv.laid {a:Addr} {o:HO} {t':Nat} (I:Inv X pins σ H s) (k:∀b u,s.heap.get? b=some u->h'.get? b=some u) (hp:s.heap.objs.size<=a) (new:bq X.prog X.w (upd H a o) h' a o) :
  Inv X pins σ (upd H a o) { s with heap:=h',toks:=t' }:=I.un (Un.laid k hp (I.hok.fresh hp)) (I.hok.laid k hp new)
theorem Inv.write {x e:Addr} {o:HO} {t':Nat} (I:Inv X pins σ H s) (mu:Mut (H x)) (he:e=x\/H e=some (.own x)) (k:∀b u,b≠e->s.heap.get? b=some u->h'.get? b=some u) (heo:∃u,h'.get? e=some u)
  (new:bq X.prog X.w (upd H x o) h' x o):Inv X pins σ (upd H x o) { s with heap:=h',toks:=t' }:=I.un (Un.write mu he k heo) (I.hok.write mu he k heo new)
theorem Inv.weak {σ':List (Option V)} (I:Inv X pins σ H s) (hl:σ'.length=σ.length) (w:∀(i:Nat) v,σ'[i]?=some (some v)->σ[i]?=some (some v)):Inv X pins σ' H s:=
 ⟨I.ok,I.os,I.bare,I.base,let ⟨m,hn,hl'⟩:=I.loc;⟨m,hn,fun i x v e1 e2 e3=>hl' i x v e1 (w i v e2) e3⟩,I.cell,I.free,I.freeC,I.pin,I.hok,hl.trans I.len⟩
theorem Inv.pins_of {pins':List (Addr×Obj)} (I:Inv X pins σ H s) (h:∀p∈pins',s.heap.get? p.1=some p.2/\H p.1=none/\p.1≠X.env.locals/\p.1∉X.fs/\∀v,p.2.data≠.cell v):Inv X pins' σ H s:=
 ⟨I.ok,I.os,I.bare,I.base,I.loc,I.cell,I.free,I.freeC,fun p hp=>(List.mem_append.mp hp).elim (fun z=>I.pin p (List.mem_append_left _ z)) (h p),I.hok,I.len⟩
theorem iJ {N:List Str} (hN:N.Nodup) {i j:Nat} {x:Str} (a:N[i]?=some x) (b:N[j]?=some x):i=j:=by
 obtain ⟨h1,e1⟩:=List.getElem?_eq_some_iff.mp a
 obtain ⟨h2,e2⟩:=List.getElem?_eq_some_iff.mp b
 exact (List.getElem_inj hN).mp (e1.trans e2.symm)
theorem jG {M:Model} {A:Around} {E:Value->Shared->Prop} {i:Nat} {x:Str} {v:V} {u:Value} {Q:Unit->Shared->Prop} (I:Inv X pins σ H s) (hN:X.N.Nodup) (hi:X.N[i]?=some x) (hx:Loc X.env.scope x) (r:RelV v u)
  (h:∀s',Inv X pins (σ.set i (some v)) H s'->(∃a,Heap.SameBut a s.heap s'.heap/\(a=X.env.locals\/X.env.cells.lookup x=some a))->Q () s') (hf:X.fn x=true\/X.env.scope.names.lookup x=some .local:=by first | exact .inl rfl | exact .inr rfl | assumption):wpAny M A (storeName X.env x u) Q E s:=by
 obtain ⟨m,hn,hl⟩:=id I.loc
 have hcls:(X.env.scope.kind==.class||(X.env.scope.kind==.module&&X.env.locals != X.env.globals))=false:=by rw [I.ok.kind];rfl
 have hiσ:i < σ.length:=by rw [I.len];exact (List.getElem?_eq_some_iff.mp hi).1
 have cne:=I.cne
 have tracked:∀{a:Addr} {h':Heap},(∃o,s.heap.get? a=some o/\H a=none)->Heap.SameBut a s.heap h'->HOk X.prog X.w H h':=fun {a h'} ha hs b ob e=>by
  obtain ⟨_,_,hfree⟩:=ha
  refine (I.hok b ob e).stay (fun c w' hc q=>(hs.2 c ?_).trans q) (fun _ q=>q) fun _ _ q=>q
  rintro rfl
  rcases hc with rfl | hc
  ·rw [hfree] at e;cases e
  ·rw [hfree] at hc;cases hc
 rcases hx with hk | hk
 ·refine wpAny_storeName_local hk hn (fun h' hn' hs=>?_) hcls
  obtain ⟨oL,_,_,hoL,_⟩:=id hn
  refine h _ ⟨I.ok,I.os,I.bare,⟨fun b o e n hb hx=>?_,fun b o e n hb hx=>?_,I.base.free,fun b o e hx=>?_,I.base.tups,I.base.frzs,I.base.tbls⟩,⟨_,hn',fun j y v' e1 e2 e3=>?_⟩,fun y c e=>?_,I.free,I.freeC,fun p hp=>?_,tracked ⟨oL,hoL,I.free⟩ hs,by simpa using I.len⟩ ⟨_,hs,.inl rfl⟩
  ·exact (hs.2 b (Nat.ne_of_lt (Nat.lt_of_lt_of_le (Heap.lt_size e) I.ok.above))).trans (I.base.keep b o e n hb hx)
  ·obtain ⟨sl,e1⟩:=I.base.slot b o e n hb hx
   exact ⟨sl,(hs.2 b (Nat.ne_of_lt (Nat.lt_of_lt_of_le (Heap.lt_size e) I.ok.above))).trans e1⟩
  ·obtain ⟨o',e1⟩:=I.base.there b o e hx
   exact ⟨o',(hs.2 b (Nat.ne_of_lt (Nat.lt_of_lt_of_le (Heap.lt_size e) I.ok.above))).trans e1⟩
  ·by_cases hj:j=i
   ·subst hj
    rw [hi] at e1;cases e1
    rw [List.getElem?_set_self hiσ] at e2
    cases e2
    exact ⟨u,r,.inl ⟨hk,by simp⟩⟩
   ·rw [List.getElem?_set_ne (Ne.symm hj)] at e2
    obtain ⟨u',r',q⟩:=hl j y v' e1 e2 e3
    refine ⟨u',r',?_⟩
    rcases q with ⟨k,e⟩ | ⟨k,c,e,z⟩
    ·refine .inl ⟨k,?_⟩
     have:y≠x:=fun e=>hj (iJ hN e1 (e▸hi))
     simp [this,e]
    ·exact .inr ⟨k,c,e,z.sameBut hs (cne y c e)⟩
  ·obtain ⟨w',z⟩:=I.cell y c e
   exact ⟨w',z.sameBut hs (cne y c e)⟩
  ·obtain ⟨e,n,ne,nf,d⟩:=I.pin p hp
   exact ⟨(hs.2 p.1 ne).trans e,n,ne,nf,d⟩
 ·have hfn:X.fn x=true:=by
   rcases hf with z | z
   ·exact z
   ·rw [z] at hk;cases hk
  obtain ⟨c,hc⟩:=I.ok.has x (.inl hk)
  obtain ⟨w',z⟩:=I.cell x c hc
  refine wpAny_storeName_cell I.ok.kind hk hc z (fun h' hc' hs=>?_)
  obtain ⟨oc,hoc,hocd⟩:=id z
  refine h { s with heap:=h' } ⟨I.ok,I.os,I.bare,⟨fun b o e n hb hx=>?_,fun b o e n hb hx=>?_,I.base.free,fun b o e hx=>?_,I.base.tups,I.base.frzs,I.base.tbls⟩,⟨m,hn.sameBut hs (Ne.symm (cne x c hc)),fun j y v' e1 e2 e3=>?_⟩,fun y c' e=>?_,I.free,I.freeC,fun p hp=>?_,tracked ⟨oc,hoc,I.freeC x c hc⟩ hs,by simpa using I.len⟩ ⟨c,hs,.inr hc⟩
  ·exact (hs.2 b (Nat.ne_of_lt (Nat.lt_of_lt_of_le (Heap.lt_size e) (I.ok.cab x c hfn hc)))).trans (I.base.keep b o e n hb hx)
  ·obtain ⟨sl,e1⟩:=I.base.slot b o e n hb hx
   exact ⟨sl,(hs.2 b (Nat.ne_of_lt (Nat.lt_of_lt_of_le (Heap.lt_size e) (I.ok.cab x c hfn hc)))).trans e1⟩
  ·obtain ⟨o',e1⟩:=I.base.there b o e hx
   exact ⟨o',(hs.2 b (Nat.ne_of_lt (Nat.lt_of_lt_of_le (Heap.lt_size e) (I.ok.cab x c hfn hc)))).trans e1⟩
  ·by_cases hj:j=i
   ·subst hj
    rw [hi] at e1;cases e1
    rw [List.getElem?_set_self hiσ] at e2
    cases e2
    exact ⟨u,r,.inr ⟨.inl hk,c,hc,hc'⟩⟩
   ·rw [List.getElem?_set_ne (Ne.symm hj)] at e2
    obtain ⟨u',r',q⟩:=hl j y v' e1 e2 e3
    refine ⟨u',r',?_⟩
    rcases q with q | ⟨k,c',e,z'⟩
    ·exact .inl q
    ·refine .inr ⟨k,c',e,z'.sameBut hs ?_⟩
     rintro rfl
     exact hj (iJ hN e1 (I.ok.inj _ _ _ e hc▸hi))
  ·by_cases hcc:c'=c
   ·subst hcc;exact ⟨_,hc'⟩
   ·obtain ⟨w2,z2⟩:=I.cell y c' e
    exact ⟨w2,z2.sameBut hs hcc⟩
  ·obtain ⟨e,n,ne,nf,d⟩:=I.pin p hp
   refine ⟨(hs.2 p.1 ?_).trans e,n,ne,nf,d⟩
   intro q
   rw [q,hoc] at e
   have q':oc=p.2:=Option.some.inj e
   exact d w' (by rw [<- q'];exact hocd)
theorem du {M:Model} {A:Around} {E:Value->Shared->Prop} {i:Nat} {x:Str} {v:V} {u:Value} {Q:Unit->Shared->Prop} (I:Inv X pins σ H s) (hN:X.N.Nodup) (hi:X.N[i]?=some x) (hx:Loc X.env.scope x) (r:RelV v u)
  (h:∀s',Inv X pins (σ.set i (some v)) H s'->Q () s') (hf:X.fn x=true\/X.env.scope.names.lookup x=some .local:=by first | exact .inl rfl | exact .inr rfl | assumption):wpAny M A (storeName X.env x u) Q E s:=
 jG I hN hi hx r (fun s' I' _=>h s' I') hf
theorem Inv.call' {s':Shared} {ch:List Addr} (I:Inv X pins σ H s) (ho:s'.os=s.os) (u:Un (frs X.stack) ch H H' s.heap s'.heap) (hok:HOk X.prog X.w H' s'.heap) (hg:AllBare s'.gens)
  (hch:∀b∈ch,(b∈X.ex\/X.s₀.heap.objs.size<=b)/\b≠X.env.locals/\(∀x c,X.env.cells.lookup x=some c->c≠b)/\∀p∈X.pn++pins,p.1≠b):Inv X pins σ H' s':=by
 obtain ⟨h',g',d',t',o'⟩:=s'
 have e:o'=s.os:=ho
 subst e
 exact I.call (g':=g') (t':=t') (d':=d') u hok hg hch
end
noncomputable abbrev XK:=Value->Option Addr->Hp->Prop
noncomputable abbrev St:=List (Option V)
noncomputable abbrev VK:=V->Hp->Prop
noncomputable abbrev TE:=St->Hp->VK->Prop
noncomputable abbrev TT:=St->Hp->(Bool->Hp->Prop)->Prop
noncomputable abbrev TA:=St->Hp->(List V->Hp->Prop)->Prop
structure Ends where
 nx:St->Hp->Prop
 rt:VK
 bk:St->Hp->Prop:=fun _ _=>False
 ct:St->Hp->Prop:=fun _ _=>False
noncomputable abbrev TS:=Ends->St->Hp->Prop
noncomputable def EP (X:Cx) (pins:List (Addr×Obj)) (σ:St) (Q:VK) (u:Value) (s':Shared):Prop:=∃v H',Inv X pins σ H' s'/\RelV v u/\Q v H'
noncomputable def TP (X:Cx) (pins:List (Addr×Obj)) (σ:St) (Q:Bool->Hp->Prop) (b:Bool) (s':Shared):Prop:=∃H',Inv X pins σ H' s'/\Q b H'
noncomputable def AP (X:Cx) (pins:List (Addr×Obj)) (σ:St) (Q:List V->Hp->Prop) (us:List Value) (s':Shared):Prop:=∃vs H',Inv X pins σ H' s'/\Vals vs us/\Q vs H'
noncomputable def SP (X:Cx) (pins:List (Addr×Obj)) (D:Ends) (f:Flow) (s':Shared):Prop:=
 match f with
 | .next=>∃ σ' H',Inv X pins σ' H' s'/\D.nx σ' H'
 | .brk=>∃ σ' H',Inv X pins σ' H' s'/\D.bk σ' H'
 | .cont=>∃ σ' H',Inv X pins σ' H' s'/\D.ct σ' H'
 | .ret u=>∃v σ' H',Inv X pins σ' H' s'/\RelV v u/\D.rt v H'
noncomputable def PE (X:Cx) (e:Expr) (t:TE):Prop:=
 ∀(pins:List (Addr×Obj)) (s:Shared) (σ:St) (H:Hp) (Q:VK),Inv X pins σ H s->t σ H Q->wpAny (model X.prog X.w) X.A (eval e X.env) (EP X pins σ Q) X.xe s
noncomputable def PT (X:Cx) (e:Expr) (t:TT):Prop:=
 ∀(pins:List (Addr×Obj)) (s:Shared) (σ:St) (H:Hp) (Q:Bool->Hp->Prop),Inv X pins σ H s->t σ H Q->wpAny (model X.prog X.w) X.A (isTrue e X.env (eval e X.env)) (TP X pins σ Q) X.xe s
noncomputable def PW (X:Cx) (e:Expr) (t:TT):Prop:=
 ∀(whole:Sem Value) (pins:List (Addr×Obj)) (s:Shared) (σ:St) (H:Hp) (Q:Bool->Hp->Prop),Inv X pins σ H s->t σ H Q->wpAny (model X.prog X.w) X.A (isTrue e X.env whole) (TP X pins σ Q) X.xe s
theorem PW.pt {X:Cx} {e:Expr} {t:TT} (h:PW X e t):PT X e t:=h _
noncomputable def PA (X:Cx) (es:List Expr) (t:TA):Prop:=
 ∀(pos:Pos) (pins:List (Addr×Obj)) (s:Shared) (σ:St) (H:Hp) (Q:List V->Hp->Prop),Inv X pins σ H s->t σ H Q->wpAny (model X.prog X.w) X.A (spliced (backTo pos (starEach es X.env))) (AP X pins σ Q) X.xe s
noncomputable def PS (X:Cx) (st:Stmt) (t:TS):Prop:=
 ∀(pins:List (Addr×Obj)) (s:Shared) (σ:St) (H:Hp) (D:Ends),Inv X pins σ H s->t D σ H->wpAny (model X.prog X.w) X.A (exec st X.env) (SP X pins D) X.xe s
noncomputable def PSs (X:Cx) (st:List Stmt) (t:TS):Prop:=
 ∀(pins:List (Addr×Obj)) (s:Shared) (σ:St) (H:Hp) (D:Ends),Inv X pins σ H s->t D σ H->wpAny (model X.prog X.w) X.A (execs st X.env) (SP X pins D) X.xe s
theorem thn {α:Type} {t:Sem α} {Q Q':α->Shared->Prop} {M:Model} {A:Around} {E:Value->Shared->Prop} {s:Shared} (h:wpAny M A t Q E s) (hQ:∀a s,Q a s->Q' a s):wpAny M A t Q' E s:=wpAny_mono h hQ fun _ _ x=>x
end L2
namespace L2
open PySem PySem.Spec PyProof.Rows
section
variable {X:Cx}
noncomputable def cG (i:Nat):TE:=fun σ H Q=>∃v,σ[i]?=some (some v)/\Q v H
noncomputable def tC (v:V):TE:=fun _ H Q=>Q v H
theorem m5 {i:Nat} {x:Str} {pos:Pos} (hN:X.N[i]?=some x) (hv:Vis X.env.scope x) (hd:(x==("__debug__":Str))=false:=by decide) (hcd:(x==("__classdict__":Str))=false:=by decide):PE X (.Name x pos) (cG i):=by
 intro pins s σ H Q I h
 obtain ⟨v,e,h⟩:=h
 obtain ⟨m,hn,hl⟩:=I.loc
 obtain ⟨u,r,l⟩:=hl i x v hN e hv
 have fin:EP X pins σ Q u s:=⟨v,H,I,r,h⟩
 rcases l with ⟨hk,hm⟩ | ⟨hk,c,hc,hcell⟩
 ·exact wpAny_Name (wpAny_loadName_local I.ok.kind hk hn hm fin) hd
 ·rcases hk with hk | hk
  ·exact wpAny_Name (wpAny_loadName_cell I.ok.kind hk hc hcell fin) hd
  ·exact wpAny_Name (wpAny_loadName_free I.ok.kind hk hc hcell fin hcd) hd
theorem gm {i j pos}:PE X (.Constant (.int i) j pos) (tC (.int i)):=fun _ _ _ H _ I h=>wpAny_Constant_int ⟨.int i,H,I.tok _,⟨_,rfl⟩,h⟩
theorem B0 {b j pos}:PE X (.Constant (.bool b) j pos) (tC (.bl b)):=fun _ _ _ H _ I h=>Constant_bool ⟨.bl b,H,I,rfl,h⟩
theorem zp {j pos}:PE X (.Constant .none j pos) (tC .non):=fun _ _ _ H _ I h=>Constant_none ⟨.non,H,I,rfl,h⟩
theorem zr {x j pos}:PE X (.Constant (.str x) j pos) (tC (.str x)):=fun _ _ _ H _ I h=>Calls.Constant_str ⟨.str x,H,I.tok _,⟨_,rfl⟩,h⟩
noncomputable def Gl (X:Cx) (x:Str):Prop:=X.env.kindOf x=some .globalImplicit
theorem fC {E:Value->Shared->Prop} {pins:List (Addr×Obj)} {s:Shared} {σ:St} {H:Hp} {x:Str} {u:Value} {pos:Pos} {Q:Value->Shared->Prop} (I:Inv X pins σ H s) (hg:Gl X x) (hm:X.mg x=some u) (h:Q u s)
  (hd:(x==("__debug__":Str))=false:=by decide):wpAny (model X.prog X.w) X.A (eval (.Name x pos) X.env) Q E s:=
 Calls.Name_function_global I.ok.kind hg (Calls.loadGlobal_global (by rw [I.ok.glob];exact I.mod.glob.keeps I.bk) hm h) hd
theorem iK {E:Value->Shared->Prop} {pins:List (Addr×Obj)} {s:Shared} {σ:St} {H:Hp} {x:Str} {u:Value} {pos:Pos} {Q:Value->Shared->Prop} (I:Inv X pins σ H s) (hg:Gl X x) (hm:X.mg x=none) (hv:bootBuiltins x=some u) (h:Q u s)
  (hn:x≠"__name__":=by decide) (hd:(x==("__debug__":Str))=false:=by decide):wpAny (model X.prog X.w) X.A (eval (.Name x pos) X.env) Q E s:=by
 obtain ⟨mb,h1,h2⟩:=I.mod.blt
 exact Calls.Name_function_global I.ok.kind hg (Calls.loadGlobal_builtin (by rw [I.ok.glob];exact I.mod.glob.keeps I.bk) hm (by rw [I.ok.blt];exact h1.keeps I.bk) ((h2 x hn).trans hv) h) hd
theorem eI {x:Str} {v:V} {u:Value} {pos:Pos} (hg:Gl X x) (hm:X.mg x=some u) (r:RelV v u) (hd:(x==("__debug__":Str))=false:=by decide):PE X (.Name x pos) (tC v):=
 fun _ _ _ H _ I h=>fC I hg hm ⟨v,H,I,r,h⟩ hd
theorem eJ {x:Str} {v:V} {u:Value} {pos:Pos} (hg:Gl X x) (hm:X.mg x=none) (hv:bootBuiltins x=some u) (r:RelV v u) (hn:x≠"__name__":=by decide) (hd:(x==("__debug__":Str))=false:=by decide):PE X (.Name x pos) (tC v):=
 fun _ _ _ H _ I h=>iK I hg hm hv ⟨v,H,I,r,h⟩ hn hd
variable {a b:Expr} {ta tb:TE} {pos:Pos}
noncomputable def tB (t:TE):TT:=fun σ H Q=>t σ H fun x H1=>∃c,x=.bl c/\Q c H1
theorem zt {e:Expr} {t:TE} (h:PE X e t) (he:∀whole,isTrue e X.env whole=(do let v <- whole;standAt e.pos;holding [v] (truthy v)):=by intro _;rfl):PT X e (tB t):=by
 intro pins s σ H Q I hw
 refine isTrue_plain (thn (h pins s σ H _ I hw) fun v s1 zr1=>?_) (he _)
 obtain ⟨x,H1,I1,r1,q1⟩:=zr1
 obtain ⟨d,rfl,q⟩:=q1
 cases r1
 exact wpAny_truthy_bool ⟨H1,I1,q⟩
variable {tA tB':TT} {rest:List Expr}
noncomputable def B1 (t u:TT):TT:=fun σ H Q=>t σ H fun c H1=>if c=true then u σ H1 Q else Q false H1
noncomputable def tOr (t u:TT):TT:=fun σ H Q=>t σ H fun c H1=>if c=true then Q true H1 else u σ H1 Q
noncomputable def B2 (t:TT):TT:=fun σ H Q=>t σ H fun c H1=>Q (!c) H1
theorem vp (ha:PT X a tA):PW X (.BoolOp .And [a] pos) tA:=by
 intro wh pins s σ H Q I h
 refine isTrue_and (thn (ha pins s σ H Q I h) fun c s1 e=>?_)
 cases c with
 | true=>exact isTrue_and_nil e
 | false=>exact e
theorem zu (ha:PT X a tA):PW X (.BoolOp .Or [a] pos) tA:=by
 intro wh pins s σ H Q I h
 refine isTrue_or (thn (ha pins s σ H Q I h) fun c s1 e=>?_)
 cases c with
 | false=>exact isTrue_or_nil e
 | true=>exact e
theorem zv (ha:PT X a tA) (hb:PW X (.BoolOp .And (b::rest) pos) tB'):PW X (.BoolOp .And (a::b::rest) pos) (B1 tA tB'):=by
 intro wh pins s σ H Q I h
 refine isTrue_and (thn (ha pins s σ H _ I h) fun c s1 zr1=>?_)
 obtain ⟨H1,I1,q1⟩:=zr1
 cases c with
 | true=>exact hb wh pins s1 σ H1 Q I1 q1
 | false=>exact ⟨H1,I1,q1⟩
theorem B3 (ha:PT X a tA) (hb:PW X (.BoolOp .Or (b::rest) pos) tB'):PW X (.BoolOp .Or (a::b::rest) pos) (tOr tA tB'):=by
 intro wh pins s σ H Q I h
 refine isTrue_or (thn (ha pins s σ H _ I h) fun c s1 zr1=>?_)
 obtain ⟨H1,I1,q1⟩:=zr1
 cases c with
 | true=>exact ⟨H1,I1,q1⟩
 | false=>exact hb wh pins s1 σ H1 Q I1 q1
theorem zw (ha:PT X a tA):PT X (.UnaryOp .Not a pos) (B2 tA):=by
 intro pins s σ H Q I h
 exact isTrue_not (ha pins s σ H (fun c H1=>Q (!c) H1) I h)
noncomputable def x6 (ta tb:TE):TE:=fun σ H Q=>ta σ H fun x H1=>∃c,x=.bl c/\if c=true then tb σ H1 Q else Q (.bl false) H1
noncomputable def B4 (ta tb:TE):TE:=fun σ H Q=>ta σ H fun x H1=>∃c,x=.bl c/\if c=true then Q (.bl true) H1 else tb σ H1 Q
theorem zx {op} {t:TE} (h:PE X a t):PE X (.BoolOp op [a] pos) t:=fun pins s σ H Q I hw=>BoolOp_one (h pins s σ H Q I hw)
theorem zy (ha:PE X a ta) (hb:PE X (.BoolOp .And (b::rest) pos) tb):PE X (.BoolOp .And (a::b::rest) pos) (x6 ta tb):=by
 intro pins s σ H Q I h
 refine BoolOp_and (thn (ha pins s σ H _ I h) fun v s1 zr1=>?_)
 obtain ⟨x,H1,I1,r1,q1⟩:=zr1
 obtain ⟨c,rfl,q1⟩:=q1
 cases r1
 refine wpAny_truthy_bool ?_
 cases c with
 | true=>exact hb pins s1 σ H1 Q I1 q1
 | false=>exact ⟨.bl false,H1,I1,rfl,q1⟩
theorem B5 (ha:PE X a ta) (hb:PE X (.BoolOp .Or (b::rest) pos) tb):PE X (.BoolOp .Or (a::b::rest) pos) (B4 ta tb):=by
 intro pins s σ H Q I h
 refine BoolOp_or (thn (ha pins s σ H _ I h) fun v s1 zr1=>?_)
 obtain ⟨x,H1,I1,r1,q1⟩:=zr1
 obtain ⟨c,rfl,q1⟩:=q1
 cases r1
 refine wpAny_truthy_bool ?_
 cases c with
 | false=>exact hb pins s1 σ H1 Q I1 q1
 | true=>exact ⟨.bl true,H1,I1,rfl,q1⟩
noncomputable def tIf (t:TT) (ta tb:TE):TE:=fun σ H Q=>t σ H fun c H1=>if c=true then ta σ H1 Q else tb σ H1 Q
theorem qH {c:Expr} (hc:PT X c tA) (ha:PE X a ta) (hb:PE X b tb):PE X (.IfExp c a b pos) (tIf tA ta tb):=by
 intro pins s σ H Q I h
 refine wpAny_IfExp (thn (hc pins s σ H _ I h) fun d s1 zr1=>?_)
 obtain ⟨H1,I1,q1⟩:=zr1
 cases d with
 | true=>exact ha pins s1 σ H1 Q I1 q1
 | false=>exact hb pins s1 σ H1 Q I1 q1
end
end L2
namespace L2
open PySem PySem.Spec PyProof.Rows
noncomputable def SqL (K:PySem.W.Frag) (H:Hp) (a:Addr) (xs:List V):Prop:=
 Rd H a (.lst xs) \/
  ∃(o:Obj) (its:Array Value) (n:Nat),K.lookup a=some o/\o.cls=.type "list"/\o.dict=none/\o.data=.seq its n/\its.size<=sizeLine/\Vals xs its.toList
noncomputable def SqT (K:PySem.W.Frag) (H:Hp) (a:Addr) (xs:List V):Prop:=
 Rd H a (.tup xs) \/
  ∃(o:Obj) (its:Array Value) (n:Nat),K.lookup a=some o/\o.cls=.type "tuple"/\o.data=.seq its n/\its.size<=sizeLine/\Vals xs its.toList
noncomputable def Ex:Value->Option V
 | .none=>some .non
 | .bool b=>some (.bl b)
 | .int i _=>some (.int i)
 | .str x _=>some (.str x)
 | .bytes b _=>some (.byt b)
 | .float b _=>some (.flt b)
 | .ref a=>some (.ref a)
 | .type n=>some (.ty n)
 | _=>none
theorem RelV.abs {x:V} {u:Value} (r:RelV x u):Ex u=some x:=by
 cases x with
 | non=>cases r;rfl
 | bl _=>cases r;rfl
 | int _=>obtain ⟨t,rfl⟩:=r;rfl
 | str _=>obtain ⟨t,rfl⟩:=r;rfl
 | byt _=>obtain ⟨t,rfl⟩:=r;rfl
 | flt _=>obtain ⟨t,rfl⟩:=r;rfl
 | ref _=>cases r;rfl
 | ty _=>cases r;rfl
theorem RelV.inj {x y:V} {u:Value} (r:RelV x u) (q:RelV y u):x=y:=Option.some.inj (r.abs.symm.trans q.abs)
theorem Vals.inj:∀{xs ys:List V} {us:List Value},Vals xs us->Vals ys us->xs=ys
 | _,_,_,.nil,.nil=>rfl
 | _,_,_,.cons r t,.cons r' t'=>by rw [r.inj r',Vals.inj t t']
section
variable {X:Cx} {pins:List (Addr×Obj)} {σ:St} {H:Hp} {s:Shared} {a:Addr} {xs ys:List V}
theorem Inv.list (I:Inv X pins σ H s) (h:SqL X.K H a xs):∃its:List Value,Vals xs its/\PlainL s.heap a its.toArray/\xs.length<=sizeLine:=by
 rcases h with h | ⟨o,its,n,hk,hc,hd,hs,hz,r⟩
 ·obtain ⟨z,its,n,r,e⟩:=h.ok I.hok
  exact ⟨its,r,⟨_,n,e,rfl,rfl,rfl⟩,z⟩
 ·refine ⟨its.toList,r,⟨o,n,I.kIn a o hk,hc,hd,by simpa using hs⟩,?_⟩
  have e:=r.length
  simp only [Array.length_toList] at e
  omega
theorem Inv.tuple (I:Inv X pins σ H s) (h:SqT X.K H a xs):∃its:List Value,Vals xs its/\IsTup s.heap a its.toArray/\xs.length<=sizeLine:=by
 rcases h with h | ⟨o,its,n,hk,hc,hs,hz,r⟩
 ·obtain ⟨z,its,r,p⟩:=h.ok I.hok
  exact ⟨its,r,p,z⟩
 ·refine ⟨its.toList,r,⟨o,I.kIn a o hk,hc,n,by simpa using hs⟩,?_⟩
  have e:=r.length
  simp only [Array.length_toList] at e
  omega
theorem Inv.list_inj (I:Inv X pins σ H s) (h:SqL X.K H a xs) (h':SqL X.K H a ys):xs=ys:=by
 obtain ⟨its,r,⟨o,n,e,_,_,d⟩,_⟩:=I.list h
 obtain ⟨its',r',⟨o',n',e',_,_,d'⟩,_⟩:=I.list h'
 rw [e] at e';cases e'
 rw [d] at d'
 injection d' with d1 _
 have:its=its':=by simpa using congrArg Array.toList d1
 subst this
 exact r.inj r'
end
noncomputable abbrev Cx.wish (X:Cx) (E:Value->Shared->Prop):Cx:={ X with xe:=E }
noncomputable abbrev Cx.nox (X:Cx):Cx:=X.wish fun _ _=>False
theorem Cx.Ok.wish {X:Cx} (ok:X.Ok) (E:Value->Shared->Prop):(X.wish E).Ok:=
 ⟨ok.mod,ok.kind,ok.glob,ok.blt,ok.above,ok.inj,ok.has,ok.cab,ok.hd,ok.frames,ok.stk,ok.exf,ok.bs,ok.bsz,ok.noex,ok.exfs,ok.funs,ok.frf⟩
theorem Cx.Ok.unwish {X:Cx} {E:Value->Shared->Prop} (ok:(X.wish E).Ok):X.Ok:=
 ⟨ok.mod,ok.kind,ok.glob,ok.blt,ok.above,ok.inj,ok.has,ok.cab,ok.hd,ok.frames,ok.stk,ok.exf,ok.bs,ok.bsz,ok.noex,ok.exfs,ok.funs,ok.frf⟩
section
variable {X:Cx} {pins:List (Addr×Obj)} {σ:St} {H:Hp} {s:Shared} {E:Value->Shared->Prop}
theorem Inv.wish (I:Inv X pins σ H s) (E:Value->Shared->Prop):Inv (X.wish E) pins σ H s:=⟨I.ok.wish E,I.os,I.bare,I.base,I.loc,I.cell,I.free,I.freeC,I.pin,I.hok,I.len⟩
theorem Inv.unwish (I:Inv (X.wish E) pins σ H s):Inv X pins σ H s:=⟨I.ok.unwish,I.os,I.bare,I.base,I.loc,I.cell,I.free,I.freeC,I.pin,I.hok,I.len⟩
theorem SP.unwish {D:Ends} {f:Flow} {s':Shared} (h:SP (X.wish E) pins D f s'):SP X pins D f s':=by
 cases f with
 | next=>obtain ⟨σ',H',I,q⟩:=h;exact ⟨σ',H',I.unwish,q⟩
 | brk=>obtain ⟨σ',H',I,q⟩:=h;exact ⟨σ',H',I.unwish,q⟩
 | cont=>obtain ⟨σ',H',I,q⟩:=h;exact ⟨σ',H',I.unwish,q⟩
 | ret u=>obtain ⟨v,σ',H',I,r,q⟩:=h;exact ⟨v,σ',H',I.unwish,r,q⟩
theorem PSs.nox {st:List Stmt} {t:TS} (h:PSs X.nox st t):PSs X st t:=fun pins s σ H D I hw=>
 wpAny_mono (h pins s σ H D (I.wish _) hw) (fun _ _ q=>q.unwish) fun _ _ z=>False.elim z
end
section
variable {X:Cx} {st:Stmt} {rest:List Stmt} {t u:TS} {e:Expr} {te:TE} {pos:Pos}
noncomputable def qI:TS:=fun D σ H=>D.nx σ H
noncomputable def vq (t u:TS):TS:=fun D σ H=>t { D with nx:=u D } σ H
theorem oo:PSs X [] qI:=fun _ _ σ H _ I h=>wpAny_execs_nil ⟨σ,H,I,h⟩
theorem iL (h1:PS X st t) (h2:PSs X rest u):PSs X (st::rest) (vq t u):=by
 intro pins s σ H D I h
 refine wpAny_execs_cons (thn (h1 pins s σ H { D with nx:=u D } I h) fun f s1 q=>?_)
 cases f with
 | next=>
  obtain ⟨σ',H',I',q⟩:=q
  exact h2 pins s1 σ' H' D I' q
 | ret v=>exact q
 | brk=>exact q
 | cont=>exact q
theorem oq (h1:PS X st t):PSs X [st] t:=by
 intro pins s σ H D I h
 refine wpAny_execs_cons (thn (h1 pins s σ H D I h) fun f s1 q=>?_)
 cases f with
 | next=>exact wpAny_execs_nil q
 | ret v=>exact q
 | brk=>exact q
 | cont=>exact q
noncomputable def x8:TS:=fun D σ H=>D.ct σ H
theorem lL:PS X (.Continue pos) x8:=fun _ _ σ H _ I h=>wpAny_Continue ⟨σ,H,I,h⟩
theorem Inv.quiet {pins:List (Addr×Obj)} {σ:St} {H:Hp} {s:Shared} (I:Inv X pins σ H s):interactive X.env=false:=by simp [interactive,I.ok.kind]
noncomputable def qJ (te:TE):TS:=fun D σ H=>te σ H fun _ H1=>D.nx σ H1
theorem ot (he:PE X e te) (hs:swapsWith e none pos.line X.env=pure false:=by rfl):PS X (.Expr e pos) (qJ te):=by
 intro pins s σ H D I h
 exact wpAny_Expr_any (thn (he pins s σ H _ I h) fun v s1 zt1=>by obtain ⟨x,H1,I1,r1,q1⟩:=zt1;exact ⟨σ,H1,I1,q1⟩) I.quiet hs
noncomputable def B6 (te:TE):TS:=fun D σ H=>te σ H D.rt
theorem zz (he:PE X e te):PS X (.Return (some e) pos) (B6 te):=by
 intro pins s σ H D I h
 exact wpAny_Return_some (thn (he pins s σ H _ I h) fun v s1 zt1=>by obtain ⟨x,H1,I1,r1,q1⟩:=zt1;exact ⟨x,σ,H1,I1,r1,q1⟩)
noncomputable def zA (c:TT) (t u:TS):TS:=fun D σ H=>c σ H fun b H1=>if b=true then t D σ H1 else u D σ H1
theorem x9 {c:Expr} {a b:List Stmt} {tc:TT} (hc:PT X c tc) (ha:PSs X a t) (hb:PSs X b u):PS X (.If c a b pos) (zA tc t u):=by
 intro pins s σ H D I h
 refine wpAny_If (thn (hc pins s σ H _ I h) fun d s1 zr1=>?_)
 obtain ⟨H1,I1,q1⟩:=zr1
 cases d with
 | true=>exact ha pins s1 σ H1 D I1 q1
 | false=>exact hb pins s1 σ H1 D I1 q1
noncomputable def iM:TS:=fun _ _ _=>False
theorem qK:PS X st iM:=fun _ _ _ _ _ _ h=>h.elim
theorem jH {sts:List Stmt}:PSs X sts iM:=fun _ _ _ _ _ _ h=>h.elim
end
noncomputable abbrev TG:=V->St->Hp->(St->Hp->Prop)->Prop
noncomputable abbrev TGs:=List V->St->Hp->(St->Hp->Prop)->Prop
noncomputable def PG (X:Cx) (target:Expr) (t:TG):Prop:=
 ∀(pins:List (Addr×Obj)) (s:Shared) (σ:St) (H:Hp) (v:V) (u:Value) (Q:St->Hp->Prop),Inv X pins σ H s->RelV v u->t v σ H Q ->
  wpAny (model X.prog X.w) X.A (assign target X.env u) (fun _ s'=>∃ σ' H',Inv X pins σ' H' s'/\Q σ' H') X.xe s
noncomputable def PGs (X:Cx) (ts:List Expr) (t:TGs):Prop:=
 ∀(pins:List (Addr×Obj)) (s:Shared) (σ:St) (H:Hp) (vs:List V) (us:List Value) (Q:St->Hp->Prop),Inv X pins σ H s->Vals vs us->t vs σ H Q ->
  wpAny (model X.prog X.w) X.A (assignInOrder ((assignEach ts X.env).map (·.2)) us) (fun _ s'=>∃ σ' H',Inv X pins σ' H' s'/\Q σ' H') X.xe s
noncomputable abbrev zB:=V->V->V->Hp->(Hp->Prop)->Prop
noncomputable def B7 (X:Cx) (t:zB):Prop:=
 ∀(pins:List (Addr×Obj)) (s:Shared) (σ:St) (H:Hp) (o i v:V) (ov iv u:Value) (Q:Hp->Prop),Inv X pins σ H s->RelV o ov->RelV i iv->RelV v u->t o i v H Q ->
  wpAny (model X.prog X.w) X.A (setItem ov iv u) (fun _ s'=>∃H',Inv X pins σ H' s'/\Q H') X.xe s
section
variable {X:Cx} {pos:Pos}
noncomputable def bQ (i:Nat):TG:=fun v σ H Q=>Q (σ.set i (some v)) H
theorem aq {i:Nat} {x:Str} (hN:X.N.Nodup) (hi:X.N[i]?=some x) (hx:Loc X.env.scope x) (hf:X.fn x=true\/X.env.scope.names.lookup x=some .local:=by first | exact .inl rfl | exact .inr rfl | assumption):PG X (.Name x pos) (bQ i):=by
 intro pins s σ H v u Q I r h
 exact wpAny_assign_Name (du I hN hi hx r (fun s' I'=>⟨_,H,I',h⟩) hf)
noncomputable def zC:TGs:=fun vs σ H Q=>vs=[]/\Q σ H
noncomputable def ou (t:TG) (u:TGs):TGs:=fun vs σ H Q=>∃v r,vs=v::r/\t v σ H fun σ' H'=>u r σ' H' Q
theorem vw:PGs X [] zC:=by
 intro pins s σ H vs us Q I r h
 obtain ⟨e,h⟩:=h
 subst e
 cases r
 exact assignInOrder_nil ⟨σ,H,I,h⟩
theorem qL {e:Expr} {es:List Expr} {t:TG} {u:TGs} (h1:PG X e t) (h2:PGs X es u)
  (hs:(assignEach (e::es) X.env).map (·.2)=assign e X.env::(assignEach es X.env).map (·.2):=by rfl):PGs X (e::es) (ou t u):=by
 intro pins s σ H vs us Q I r h
 obtain ⟨v,vr,e1,h⟩:=h
 subst e1
 cases r with
 | cons r rr=>
  rw [hs]
  refine assignInOrder_cons (thn (h1 pins s σ H _ _ _ I r h) fun _ s1 zr1=>?_)
  obtain ⟨σ1,H1,I1,q1⟩:=zr1
  exact h2 pins s1 σ1 H1 _ _ Q I1 rr q1
noncomputable def zD (K:PySem.W.Frag) (n:Nat) (t:TGs):TG:=fun v σ H Q=>∃a xs,v=.ref a/\SqT K H a xs/\xs.length=n/\t xs σ H Q
theorem zE {es:List Expr} {k:Nat} {t:TGs} {n:Nat} (hc:X.calm=true) (h:PGs X es t)
  (hn:(assignEach es X.env).length=n:=by rfl) (hst:(assignEach es X.env).findIdx? (·.1)=none:=by rfl):PG X (.Tuple es k pos) (zD X.K n t):=by
 intro pins s σ H v u Q I r hw
 obtain ⟨a,xs,e1,hq,hl,hw⟩:=hw
 subst e1
 cases r
 obtain ⟨its,rv,ht,hz⟩:=I.tuple hq
 refine assign_Tuple_tuple (I.ok.hd hc) ht (by simp [hn,<- hl,rv.length]) hst fun h' hx=>?_
 have I1:Inv X pins σ H { s with heap:=h' }:=I.kept (t':=s.toks) fun b o e=>hx b o (Nat.ne_of_lt (Heap.lt_size e)) e
 exact h pins _ σ H xs _ Q I1 (by simpa using rv) hw
noncomputable def zF (to ti:TE) (t:zB):TG:=fun v σ H Q=>to σ H fun o H1=>ti σ H1 fun i H2=>t o i v H2 fun H3=>Q σ H3
theorem zG {o i:Expr} {to ti:TE} {t:zB} (ho:PE X o to) (hi:PE X i ti) (hs:B7 X t)
  (ha:∀v,assign (.Subscript o i pos) X.env v=(do
   let ov <- holding [v] (eval o X.env)
   let iv <- holding [v,ov] (eval i X.env)
   standAt pos
   holding [v,ov,iv] (setItem ov iv v)
   release [v,ov,iv] []):=by intro _;rfl):PG X (.Subscript o i pos) (zF to ti t):=by
 intro pins s σ H v u Q I r h
 rw [ha]
 refine wpAny_bind (wpAny_holding (thn (ho pins s σ H _ I h) fun ov s1 zr1=>?_))
 obtain ⟨x,H1,I1,r1,q1⟩:=zr1
 refine wpAny_bind (wpAny_holding (thn (hi pins s1 σ H1 _ I1 q1) fun iv s2 zr1=>?_))
 obtain ⟨y,H2,I2,r2,q2⟩:=zr1
 refine wpAny_bind (wpAny_standAt (wpAny_bind (wpAny_holding (thn (hs pins s2 σ H2 x y v ov iv u _ I2 r1 r2 r q2) fun _ s3 zr1=>?_))))
 obtain ⟨H3,I3,q3⟩:=zr1
 exact wpAny_release ⟨σ,H3,I3,q3⟩
noncomputable def dI (te:TE) (g:TG):TS:=fun D σ H=>te σ H fun x H1=>g x σ H1 D.nx
theorem qM {tg e:Expr} {te:TE} {g:TG} (he:PE X e te) (hg:PG X tg g) (hs:swapsWithSole [tg] e pos.line X.env=pure false:=by rfl) (hw:swappedStores [tg] e X.env=pure none:=by rfl)
  (h1:(assignEach [tg] X.env).map (·.2)=[assign tg X.env]:=by rfl):PS X (.Assign [tg] e pos) (dI te g):=by
 intro pins s σ H D I h
 refine wpAny_Assign_stores (thn (he pins s σ H _ I h) fun v s1 zr1=>?_) hs hw
 obtain ⟨x,H1,I1,r1,q1⟩:=zr1
 rw [h1]
 exact thn (hg pins s1 σ H1 x v _ I1 r1 q1) fun _ s2 q=>q
theorem ck {i:Nat} {x:Str} {e:Expr} {te:TE} {pos':Pos} (hN:X.N.Nodup) (hi:X.N[i]?=some x) (hx:Loc X.env.scope x) (he:PE X e te) (hs:swapsWith e (some (.Name x pos')) pos.line X.env=pure false:=by rfl) (hf:X.fn x=true\/X.env.scope.names.lookup x=some .local:=by first | exact .inl rfl | exact .inr rfl | assumption) :
  PS X (.Assign [.Name x pos'] e pos) (dI te (bQ i)):=by
 intro pins s σ H D I h
 refine wpAny_Assign_Name (thn (he pins s σ H _ I h) fun v s1 zr1=>?_) hs
 obtain ⟨y,H1,I1,r1,q1⟩:=zr1
 exact du I1 hN hi hx r1 (fun s2 I2=>⟨_,H1,I2,q1⟩) hf
noncomputable def qN (i j:Nat) (ta:TA):TS:=fun D σ H=>ta σ H fun vs H1=>∃v w,vs=[v,w]/\D.nx ((σ.set i (some v)).set j (some w)) H1
theorem zH {i j:Nat} {x y:Str} {a b:Expr} {ta:TA} {px py pt:Pos} {kt k2 pt2} (hc:X.calm=true) (hN:X.N.Nodup) (hi:X.N[i]?=some x) (hj:X.N[j]?=some y) (hij:i≠j)
  (hx:X.env.scope.names.lookup x=some .local) (hy:X.env.scope.names.lookup y=some .local) (ha:PA X [a,b] ta)
  (hw:swappedStores [.Tuple [.Name x px,.Name y py] kt pt] (.Tuple [a,b] k2 pt2) X.env=pure (some [x,y]))
  (hs:swapsWithSole [.Tuple [.Name x px,.Name y py] kt pt] (.Tuple [a,b] k2 pt2) pos.line X.env=pure false:=by rfl) :
  PS X (.Assign [.Tuple [.Name x px,.Name y py] kt pt] (.Tuple [a,b] k2 pt2) pos) (qN i j ta):=by
 intro pins s σ H D I h
 rw [exec_Assign_arm]
 refine wpAny_bind (wpAny_standAt ?_)
 rw [hs]
 refine wpAny_bind (wpAny_pure ?_)
 rw [if_neg (by decide)]
 refine wpAny_bind (Tuple_ (thn (ha _ pins s σ H _ I h) fun us s1 zr1=>?_))
 obtain ⟨vs,H1,I1,r1,q1⟩:=zr1
 obtain ⟨v,w,e1,q1⟩:=q1
 subst e1
 obtain ⟨u1,u2,rfl,rv,rw'⟩:∃u1 u2,us=[u1,u2]/\RelV v u1/\RelV w u2:=by
  cases r1 with
  | cons p q=>
   cases q with
   | cons p' q'=>
    cases q'
    exact ⟨_,_,rfl,p,p'⟩
 refine wpAny_newObj_type ?_ (by show 2<=sizeLine;decide)
 have I2:Inv X pins σ H1 { s1 with heap:=s1.heap.push { cls:=.type "tuple",data:=.seq [u1,u2].toArray } }:=I1.kept (t':=s1.toks) fun b o e=>Heap.get?_push_of_some _ e
 rw [hw]
 refine wpAny_bind (wpAny_pure ?_)
 show wpAny (model X.prog X.w) X.A (do rule "assign.swapped-stores";let items <- unpackItems (.ref s1.heap.objs.size) 2 none;assignInOrder [fun v=>bindName X.env y v,fun v=>bindName X.env x v] items.reverse;pure Flow.next) _ _ _
 refine wpAny_bind (wpAny_rule (wpAny_bind (unpackItems_tuple (items:=#[u1,u2]) (I.ok.hd hc) (IsTup.new s1.heap _) fun h' hx'=>?_)))
 have I3:=I2.kept (h':=h') (t':=s1.toks) fun b o e=>hx' b o (Nat.ne_of_lt (Heap.lt_size e)) e
 show wpAny _ _ (assignInOrder [fun v=>bindName X.env y v,fun v=>bindName X.env x v] [u2,u1] >>= fun _=>pure Flow.next) _ _ _
 refine wpAny_bind (assignInOrder_cons (wpAny_bindName (du I3 hN hj (.inl hy) rw' (fun s2 I4=>?_) (.inr hy))))
 refine assignInOrder_cons (wpAny_bindName (du I4 hN hi (.inl hx) rv (fun s3 I5=>assignInOrder_nil (wpAny_pure ?_)) (.inr hx)))
 rw [List.set_comm _ _ (Ne.symm hij)] at I5
 exact ⟨_,H1,I5,q1⟩
noncomputable def B8 (X:Cx) (t:V->V->Hp->VK->Prop):Prop:=
 ∀(pins:List (Addr×Obj)) (s:Shared) (σ:St) (H:Hp) (o i:V) (ov iv:Value) (Q:VK),Inv X pins σ H s->RelV o ov->RelV i iv->t o i H Q ->
  wpAny (model X.prog X.w) X.A (getItem ov iv) (EP X pins σ Q) X.xe s
end
structure It where
 go:Nat->Hp->Prop
 yld:Nat->Hp->V->Hp->Prop
 stop:Nat->Hp->Prop
noncomputable def jC (X:Cx) (pins:List (Addr×Obj)) (H:Hp) (b:Addr):Prop:=
 H b=none/\b≠X.env.locals/\b∉X.fs/\(b∈X.ex\/X.s₀.heap.objs.size<=b)/\(∀x c,X.env.cells.lookup x=some c->c≠b)/\∀p∈X.pn++pins,p.1≠b
theorem Inv.fpOk {X:Cx} {pins:List (Addr×Obj)} {σ:St} {H H':Hp} {s:Shared} {b:Addr} (I:Inv X pins σ H s) (hb:s.heap.objs.size<=b) (hn:H' b=none):jC X pins H' b:=by
 refine ⟨hn,Nat.ne_of_gt (Nat.lt_of_lt_of_le I.lt hb),I.nofs hb,.inr (Nat.le_trans I.sz hb),fun x c e z=>?_,fun p hp z=>?_⟩
 ·obtain ⟨v,q⟩:=I.cell x c e
  exact absurd (Nat.lt_of_lt_of_le q.lt (by rw [z];exact hb)) (Nat.lt_irrefl _)
 ·exact absurd (Nat.lt_of_lt_of_le (Heap.lt_size (I.pin p hp).1) (by rw [z];exact hb)) (Nat.lt_irrefl _)
structure Turn (P:Program) (w:World) (K:PySem.W.Frag) (tg:Expr) (J:It) (fp:List Addr) (it:Addr) (tn:Nat->Heap->Prop):Prop where
 mem:it∈fp
 obj:∀i h,tn i h->∀b∈fp,∃o,h.get? b=some o/\∀v,o.data≠.cell v
 keep:∀i h h',tn i h->(∀b∈fp,∀o,h.get? b=some o->h'.get? b=some o)->tn i h'
 item:∀(X:Cx),X.prog=P->X.w=w->X.K=K->X.calm=true->∀(i:Nat) (pins:List (Addr×Obj)) (s:Shared) (σ:St) (H:Hp) (E:Value->Shared->Prop),Inv X pins σ H s->(∀b∈fp,jC X pins H b)->tn i s.heap->J.go i H ->
  wpAny (model P w) X.A (pyNext (.ref it)) (fun r s1=>∃u,r=some u /\
   wpAny (model P w) X.A (letOwnedTupleGo tg (.ref it) u) (fun _ s2=>∃x H',Inv X pins σ H' s2/\RelV x u/\J.yld i H x H'/\tn (i+1) s2.heap/\∀b∈fp,H' b=none) E s1) E s
 done:∀(X:Cx),X.prog=P->X.w=w->X.K=K->X.calm=true->∀(i:Nat) (pins:List (Addr×Obj)) (s:Shared) (σ:St) (H:Hp) (E:Value->Shared->Prop),Inv X pins σ H s->(∀b∈fp,jC X pins H b)->tn i s.heap->J.stop i H ->
  wpAny (model P w) X.A (pyNext (.ref it)) (fun r s1=>r=none/\Inv X pins σ H s1) E s
 self:∀(A:Around) (i:Nat) (s:Shared) (Q:Value->Shared->Prop) (E:Value->Shared->Prop),tn i s.heap->Q (.ref it) s->wpAny (model P w) A (pyIter (.ref it)) Q E s
noncomputable abbrev TI:=St->Hp->(It->Hp->Prop)->Prop
noncomputable def PIE (X:Cx) (pins:List (Addr×Obj)) (σ:St) (tg:Expr) (R:It->Hp->Prop) (itv:Value) (s2:Shared):Prop:=
 ∃(it:Addr) (fp:List Addr) (tn:Nat->Heap->Prop) (J:It) (H':Hp),itv=.ref it/\Inv X pins σ H' s2/\Turn X.prog X.w X.K tg J fp it tn/\tn 0 s2.heap/\(∀b∈fp,jC X pins H' b)/\R J H'
noncomputable def PI (X:Cx) (tg iter:Expr) (wi:TI):Prop:=
 ∀(pins:List (Addr×Obj)) (s:Shared) (σ:St) (H:Hp) (R:It->Hp->Prop),Inv X pins σ H s->wi σ H R ->
  wpAny (model X.prog X.w) X.A (eval iter X.env) (fun v s1=>wpAny (model X.prog X.w) X.A (pyIter v) (PIE X pins σ tg R) X.xe s1) X.xe s
theorem qO {M:Model} {A:Around} {E:Value->Shared->Prop} {s:Shared} {tg:Expr} {it:Addr} {u:Value} {o:Obj} {n:String} {vs:Array Value} {Q:Unit->Shared->Prop} (ho:s.heap.get? it=some o) (hc:o.cls=.type n) (hd:o.data=.fields vs)
    (hn:["enumerate","zip","dict_itemiterator","dict_reverseitemiterator","odict_iterator","itertools.zip_longest","itertools.pairwise"].contains n=false) (hQ:Q () s):wpAny M A (letOwnedTupleGo tg (.ref it) u) Q E s:=by
  unfold letOwnedTupleGo
  cases tg <;> first
    | exact wpAny_pure hQ
    | (cases u <;> first
        | exact wpAny_pure hQ
        | (refine wpAny_bind (wpAny_load ho ?_)
           rw [hc,hd]
           show wpAny M A (if (["enumerate","zip","dict_itemiterator","dict_reverseitemiterator","odict_iterator","itertools.zip_longest","itertools.pairwise"].contains n&&vs[0]?==some (rawInt _))=true then _ else _) Q E s
           rw [if_neg (by intro h;rw [hn,Bool.false_and] at h;cases h)]
           exact wpAny_pure hQ))
noncomputable def Itl (K:PySem.W.Frag) (a:Addr):It:=
 ⟨fun i H=>∃xs x,SqL K H a xs/\xs[i]?=some x,fun i H x H'=>H'=H/\∀xs,SqL K H a xs->xs[i]?=some x,fun i H=>∃xs,SqL K H a xs/\xs.length<=i⟩
noncomputable def Itr (lo:Int) (n:Nat):It:=⟨fun i _=>i < n,fun i H x H'=>H'=H/\x=.int (lo+i),fun i _=>n<=i⟩
theorem pQ {P:Program} {w:World} {K:PySem.W.Frag} {tg:Expr} (a it:Addr):Turn P w K tg (Itl K a) [it] it (fun i h=>h.IsListIter it a i) where
 mem:=by simp
 obj:=fun i h st b hb=>by
  have e:b=it:=by simpa using hb
  subst e
  obtain ⟨o,e,c,d⟩:=st
  exact ⟨o,e,fun v z=>by rw [d] at z;cases z⟩
 keep:=fun i h h' st k=>st.at fun o e=>k it (by simp) o e
 item:=by
  intro X hP hw hK hc i pins s σ H E I hf st hg
  subst hP hw hK
  obtain ⟨xs,x,hq,hx⟩:=hg
  obtain ⟨its,rv,p,hz⟩:=I.list hq
  obtain ⟨u,hu,ru⟩:=rv.get hx
  obtain ⟨f0,f1,f2,f3,f4,f5⟩:=hf it (by simp)
  refine wpAny_pyNext_list_item st p.isList (x:=u) (by simpa using hu) fun h' st' sb=>?_
  have I1:Inv X pins σ H { s with heap:=h' }:=I.turned (t':=s.toks) (fun b o hb e=>(sb.2 b hb).trans e) f0 f1 f3 f4 f5
  obtain ⟨o,e,c,d⟩:=id st'
  exact ⟨u,rfl,qO (s:={ s with heap:=h' }) e c d (by decide) ⟨x,H,I1,ru,⟨rfl,fun ys hy=>by rw [I.list_inj hy hq];exact hx⟩,st',fun b hb=>(hf b hb).1⟩⟩
 done:=by
  intro X hP hw hK hc i pins s σ H E I hf st hg
  subst hP hw hK
  obtain ⟨xs,hq,hx⟩:=hg
  obtain ⟨its,rv,p,hz⟩:=I.list hq
  obtain ⟨f0,f1,f2,f3,f4,f5⟩:=hf it (by simp)
  have hl:=rv.length
  exact wpAny_pyNext_list_end (I.ok.hd hc) st p.isList (by simp;omega) fun h' eb=>⟨rfl,I.turned (t':=s.toks) (fun b o hb e=>eb b o hb e) f0 f1 f3 f4 f5⟩
 self:=fun _ _ _ _ _ st h=>wpAny_pyIter_listiter st h
theorem m6 {P:Program} {w:World} {K:PySem.W.Frag} {tg:Expr} (it:Addr) (lo:Int) (n:Nat):Turn P w K tg (Itr lo n) [it] it (fun i h=>IsRangeIter h it (lo+(i:Nat)*1) ((n:Int)-(i:Nat)) 1) where
 mem:=by simp
 obj:=fun i h st b hb=>by
  have e:b=it:=by simpa using hb
  subst e
  exact ⟨_,st,fun v z=>by
   have z':Data.fields _=Data.cell v:=z
   cases z'⟩
 keep:=fun i h h' st k=>k it (by simp) _ st
 item:=by
  intro X hP hw hK hc i pins s σ H E I hf st hg
  subst hP hw hK
  obtain ⟨f0,f1,f2,f3,f4,f5⟩:=hf it (by simp)
  have W:=Walks.range (prog:=X.prog) (w:=X.w) (I.ok.hd hc) it lo 1 n
  refine W.item i s _ _ hg st fun v h' tk hv st' kk=>?_
  obtain ⟨t,rfl⟩:=hv
  have I1:Inv X pins σ H { s with heap:=h',toks:=tk }:=I.turned (fun b o hb e=>kk b o (by simpa using hb) e) f0 f1 f3 f4 f5
  refine ⟨_,rfl,qO (s:={ s with heap:=h',toks:=tk }) (n:="range_iterator") st' rfl rfl (by decide) ⟨.int (lo+i),H,I1,⟨t,?_⟩,⟨rfl,rfl⟩,st',fun b hb=>(hf b hb).1⟩⟩
  rw [Int.mul_one]
 done:=by
  intro X hP hw hK hc i pins s σ H E I hf st hg
  subst hP hw hK
  obtain ⟨f0,f1,f2,f3,f4,f5⟩:=hf it (by simp)
  exact wpAny_pyNext_range_end (I.ok.hd hc) st (by have:n<=i:=hg;omega) fun h' eb=>⟨rfl,I.turned (t':=s.toks) (fun b o hb e=>eb b o hb e) f0 f1 f3 f4 f5⟩
 self:=fun _ _ _ _ _ st h=>wpAny_pyIter_rangeiter st h
end L2
namespace L2
open PySem PySem.Spec PyProof.Rows
section
variable {X:Cx} {tg:Expr}
noncomputable def yc (K:PySem.W.Frag) (tl:TE):TI:=fun σ H R=>tl σ H fun x H1=>∃a,x=.ref a/\(∃xs,SqL K H1 a xs)/\R (Itl K a) H1
theorem vy {l:Expr} {tl:TE} (hl:PE X l tl):PI X tg l (yc X.K tl):=by
 intro pins s σ H R I h
 refine thn (hl pins s σ H _ I h) fun v s1 zr1=>?_
 obtain ⟨x,H1,I1,r1,q1⟩:=zr1
 obtain ⟨a,e,⟨xs,hq⟩,q⟩:=q1
 subst e
 cases r1
 obtain ⟨its,rv,p,hz⟩:=I1.list hq
 refine wpAny_pyIter_list p.isList ?_
 refine ⟨s1.heap.objs.size,[s1.heap.objs.size],_,_,H1,rfl,I1.kept (t':=s1.toks) fun b o e=>Heap.get?_push_of_some _ e,pQ a _,⟨_,Heap.get?_push_size _ rfl,rfl,rfl⟩,fun b hb=>?_,q⟩
 have e:b=s1.heap.objs.size:=by simpa using hb
 subst e
 exact I1.fpOk (Nat.le_refl _) (I1.hok.fresh (Nat.le_refl _))
theorem lM {pins:List (Addr×Obj)} {σ:St} {H:Hp} {s:Shared} {R:It->Hp->Prop} {E:Value->Shared->Prop} {lo hi:Int} {t u v:Tok} {tk:Nat} (I:Inv X pins σ H s) (h1:-(2 ^ 62)<=lo) (h2:lo < 2 ^ 62) (h3:-(2 ^ 62)<=hi) (h4:hi < 2 ^ 62)
  (q:R (Itr lo (hi-lo).toNat) H):wpAny (model X.prog X.w) X.A (pyIter (.ref s.heap.objs.size)) (PIE X pins σ tg R) E { s with heap:=s.heap.push { cls:=.type "range",data:=.fields #[.int lo t,.int hi u,.int 1 v] },toks:=tk }:=by
 refine wpAny_pyIter_range (IsRange.new ..) (small_one h1 h2 h3 h4) ?_
 have I1:Inv X pins σ H { s with heap:=s.heap.push { cls:=.type "range",data:=.fields #[.int lo t,.int hi u,.int 1 v] },toks:=tk }:=I.kept fun b o e=>Heap.get?_push_of_some _ e
 refine ⟨(s.heap.push { cls:=.type "range",data:=.fields #[.int lo t,.int hi u,.int 1 v] }).objs.size,[(s.heap.push { cls:=.type "range",data:=.fields #[.int lo t,.int hi u,.int 1 v] }).objs.size],_,_,H,rfl,
  I1.kept (t':=tk) fun b o e=>Heap.get?_push_of_some _ e,m6 _ lo (hi-lo).toNat,?_,fun b hb=>?_,q⟩
 ·have e1:lo+((0:Nat):Int)*1=lo:=by simp
  have e2:(((hi-lo).toNat:Nat):Int)-((0:Nat):Int)=Builtin.Range.rangeSize lo hi 1:=by rw [rangeSize_one];split <;> omega
  show IsRangeIter _ _ (lo+((0:Nat):Int)*1) ((((hi-lo).toNat:Nat):Int)-((0:Nat):Int)) 1
  rw [e1,e2]
  exact Heap.get?_push_size _ rfl
 ·have e:b=(s.heap.push { cls:=.type "range",data:=.fields #[.int lo t,.int hi u,.int 1 v] }).objs.size:=by simpa using hb
  subst e
  exact I1.fpOk (Nat.le_refl _) (I1.hok.fresh (Nat.le_refl _))
noncomputable def yd (ta:TA):TI:=fun σ H R=>ta σ H fun vs H1=>∃j:Int,vs=[.int j]/\-(2 ^ 62)<=j/\j < 2 ^ 62/\R (Itr 0 j.toNat) H1
noncomputable def ye (ta:TA):TI:=fun σ H R=>ta σ H fun vs H1=>∃i j:Int,vs=[.int i,.int j]/\(-(2 ^ 62)<=i/\i < 2 ^ 62/\-(2 ^ 62)<=j/\j < 2 ^ 62)/\R (Itr i (j-i).toNat) H1
theorem pR {a:Expr} {ta:TA} {p pos:Pos} (hg:Gl X "range") (hm:X.mg "range"=none) (ha:PA X [a] ta) (hs:starEach [a] X.env=[(false,eval a X.env)]:=by rfl):PI X tg (.Call (.Name "range" p) [a] [] pos) (yd ta):=by
 intro pins s σ H R I h
 refine Call_ (iK I hg hm boot_range (PyProof.Rows.callWith_type1 (thn (ha pos pins s σ H _ I h) fun us s1 zr1=>?_) hs rfl))
 obtain ⟨vs,H1,I1,r1,q1⟩:=zr1
 obtain ⟨j,e,q1,q2,q⟩:=q1
 subst e
 cases r1 with
 | cons r rr=>
  cases rr
  obtain ⟨t,rfl⟩:=r
  exact call_range_1 (lM I1 (by omega) (by omega) q1 q2 (by simpa using q))
theorem pS {a b:Expr} {ta:TA} {p pos:Pos} (hg:Gl X "range") (hm:X.mg "range"=none) (ha:PA X [a,b] ta) (hs:starEach [a,b] X.env=[(false,eval a X.env),(false,eval b X.env)]:=by rfl) (hs2:starEach [b] X.env=[(false,eval b X.env)]:=by rfl) :
  PI X tg (.Call (.Name "range" p) [a,b] [] pos) (ye ta):=by
 intro pins s σ H R I h
 refine Call_ (iK I hg hm boot_range (PyProof.Rows.callWith_type1 (thn (ha pos pins s σ H _ I h) fun us s1 ⟨vs,H1,I1,r1,q1⟩=>?_) (by rw [hs,hs2]) (by rw [hs2];rfl)))
 obtain ⟨i,j,e,⟨q1,q2,q3,q4⟩,q⟩:=q1
 subst e
 cases r1 with
 | cons r rr=>
  cases rr with
  | cons r' rr=>
   cases rr
   obtain ⟨t,rfl⟩:=r
   obtain ⟨t',rfl⟩:=r'
   exact call_range_2 (lM I1 q1 q2 q3 q4 q)
noncomputable def B9 (wi:TI) (g:TG) (tb:TS):TS:=fun D σ H=>wi σ H fun J H1=>∃W:Nat->Nat->St->Hp->Prop,(∃m,W 0 m σ H1)/\∀i m σ H,W i m σ H ->
 (J.stop i H/\D.nx σ H)\/(J.go i H/\∃N:St->Hp->Prop,(∀ σ' H',N σ' H'->∃m',m' < m/\W (i+1) m' σ' H')/\∀x H',J.yld i H x H'->g x σ H' fun σ2 H2=>tb { D with nx:=N,ct:=N,bk:=D.nx } σ2 H2)
noncomputable def gq (fp:List Addr) (h:Heap):List (Addr×Obj):=fp.filterMap fun b=>(h.get? b).map fun o=>(b,o)
theorem cq {fp:List Addr} {h:Heap} {b:Addr} {o:Obj} (hb:b∈fp) (e:h.get? b=some o):(b,o)∈gq fp h:=List.mem_filterMap.mpr ⟨b,hb,by rw [e];rfl⟩
theorem pT {fp:List Addr} {h:Heap} {p:Addr×Obj} (hp:p∈gq fp h):p.1∈fp/\h.get? p.1=some p.2:=by
 obtain ⟨b,hb,e⟩:=List.mem_filterMap.mp hp
 cases q:h.get? b with
 | none=>rw [q] at e;cases e
 | some o=>
  rw [q] at e
  have e':(b,o)=p:=Option.some.inj e
  subst e'
  exact ⟨hb,q⟩
theorem Inv.pinned {pins:List (Addr×Obj)} {σ:St} {H:Hp} {s:Shared} {fp:List Addr} (I:Inv X pins σ H s) (hf:∀b∈fp,jC X pins H b) (ho:∀b∈fp,∃o,s.heap.get? b=some o/\∀v,o.data≠.cell v):Inv X (pins++gq fp s.heap) σ H s:=
 I.pins_of fun p hp=>(List.mem_append.mp hp).elim (fun z=>I.pin p (List.mem_append_right _ z)) fun z=>by
  obtain ⟨hb,e⟩:=pT z
  obtain ⟨f0,f1,f2,_⟩:=hf p.1 hb
  obtain ⟨o,e',d⟩:=ho p.1 hb
  rw [e] at e';cases e'
  exact ⟨e,f0,f1,f2,d⟩
theorem Inv.unpinned {pins pl:List (Addr×Obj)} {σ:St} {H:Hp} {s:Shared} (I:Inv X (pins++pl) σ H s):Inv X pins σ H s:=I.pins_of fun p hp=>I.pin p (List.mem_append_right _ (List.mem_append_left _ hp))
theorem zI {iter:Expr} {body:List Stmt} {wi:TI} {g:TG} {tb:TS} {pos:Pos} (hp:PassesOwn (model X.prog X.w) X.A X.env X.xe) (hc:X.calm=true) (hi:PI X tg iter wi) (hg:PG X tg g) (hb:PSs X body tb)
  (hs:∀x,foldedSetIterable iter X.env x=pure x:=by intro _;rfl):PS X (.For tg iter body [] pos) (B9 wi g tb):=by
 intro pins s σ H D I h
 refine wpAny_For (thn (hi pins s σ H _ I h) fun v s1 h1=>thn h1 fun itv s2 h2=>?_) hs
 obtain ⟨it,fp,tn,J,H2,e,I2,T,st2,f2,W,⟨m0,w0⟩,turn⟩:=h2
 subst e
 -- what stays true of the iterator's objects through the loop
 have stat:∀{H':Hp},(∀b∈fp,H' b=none)->∀b∈fp,jC X pins H' b:=fun hn b hb=>⟨hn b hb,(f2 b hb).2⟩
 refine codeAny_forLoop_any (fun n s'=>∃i σ' H',Inv X pins σ' H' s'/\tn i s'.heap/\(∀b∈fp,H' b=none)/\W i n σ' H') ?_ m0 ⟨0,σ,H2,I2,st2,fun b hb=>(f2 b hb).1,w0⟩
 rintro n s3 ⟨i,σ3,H3,I3,st3,fr3,w3⟩
 rcases turn i n σ3 H3 w3 with ⟨stop,qn⟩ | ⟨go,N,hN,step⟩
 ·refine wpAny_passesOwn hp (thn (T.done X rfl rfl rfl hc i pins s3 σ3 H3 X.xe I3 (stat fr3) st3 stop) fun r s4 zr1=>?_)
  obtain ⟨hr,I4⟩:=zr1
  subst hr
  exact wpAny_execs_nil ⟨σ3,H3,I4,qn⟩
 ·refine wpAny_passesOwn hp (thn (T.item X rfl rfl rfl hc i pins s3 σ3 H3 X.xe I3 (stat fr3) st3 go) fun r s4 zr1=>?_)
  obtain ⟨u,hr,h4⟩:=zr1
  subst hr
  refine wpAny_passesOwn hp (thn h4 fun _ s5 zr1=>?_)
  obtain ⟨x,H5,I5,r5,y5,st5,fr5⟩:=zr1
  have I5':=I5.pinned (stat fr5) (T.obj _ _ st5)
  refine wpAny_passesOwn hp (thn (hg _ s5 σ3 H5 x u _ I5' r5 (step x H5 y5)) fun _ s6 zr1=>?_)
  obtain ⟨σ6,H6,I6,q6⟩:=zr1
  refine wpAny_passesOwn hp (thn (hb _ s6 σ6 H6 _ I6 q6) fun f s7 q7=>?_)
  have again:∀{σ7:St} {H7:Hp},Inv X (pins++gq fp s5.heap) σ7 H7 s7->N σ7 H7->∃m,m < n/\∃i σ' H',Inv X pins σ' H' s7/\tn i s7.heap/\(∀b∈fp,H' b=none)/\W i m σ' H':=fun {σ7 H7} I7 n7=>by
   obtain ⟨m',hm,w7⟩:=hN σ7 H7 n7
   refine ⟨m',hm,i+1,σ7,H7,I7.unpinned,T.keep _ _ _ st5 fun b hb o e=>(I7.pin (b,o) (List.mem_append_right _ (List.mem_append_right _ (cq hb e)))).1,fun b hb=>?_,w7⟩
   obtain ⟨o,e,d⟩:=T.obj _ _ st5 b hb
   exact (I7.pin (b,o) (List.mem_append_right _ (List.mem_append_right _ (cq hb e)))).2.1
  cases f with
  | next=>obtain ⟨σ7,H7,I7,n7⟩:=q7;exact again I7 n7
  | cont=>obtain ⟨σ7,H7,I7,n7⟩:=q7;exact again I7 n7
  | brk=>obtain ⟨σ7,H7,I7,q7⟩:=q7;exact ⟨σ7,H7,I7.unpinned,q7⟩
  | ret v=>obtain ⟨x7,σ7,H7,I7,r7,q7⟩:=q7;exact ⟨x7,σ7,H7,I7.unpinned,r7,q7⟩
end
end L2
namespace L2
open PySem PySem.Spec PyProof.Rows
noncomputable abbrev R2:=V->V->Hp->VK->Prop
noncomputable def OpR (X:Cx) (f:Value->Value->Sem Value) (r:R2):Prop:=
 ∀(pins:List (Addr×Obj)) (s:Shared) (σ:St) (H:Hp) (x y:V) (v u:Value) (Q:VK),Inv X pins σ H s->RelV x v->RelV y u->r x y H Q ->
  wpAny (model X.prog X.w) X.A (f v u) (EP X pins σ Q) X.xe s
noncomputable def UnR (X:Cx) (f:Value->Sem Value) (r:V->Hp->VK->Prop):Prop:=
 ∀(pins:List (Addr×Obj)) (s:Shared) (σ:St) (H:Hp) (x:V) (v:Value) (Q:VK),Inv X pins σ H s->RelV x v->r x H Q ->
  wpAny (model X.prog X.w) X.A (f v) (EP X pins σ Q) X.xe s
noncomputable def cQ (X:Cx) (f:Value) (r:List V->Hp->VK->Prop):Prop:=
 ∀(pins:List (Addr×Obj)) (s:Shared) (σ:St) (H:Hp) (xs:List V) (us:List Value) (Q:VK),Inv X pins σ H s->Vals xs us->r xs H Q ->
  wpAny (model X.prog X.w) X.A (call f us) (EP X pins σ Q) X.xe s
noncomputable def Ey (X:Cx) (r:V->Hp->(Bool->Hp->Prop)->Prop):Prop:=
 ∀(pins:List (Addr×Obj)) (s:Shared) (σ:St) (H:Hp) (x:V) (v:Value) (Q:Bool->Hp->Prop),Inv X pins σ H s->RelV x v->r x H Q ->
  wpAny (model X.prog X.w) X.A (truthy v) (TP X pins σ Q) X.xe s
noncomputable def tOp (r:R2) (ta tb:TE):TE:=fun σ H Q=>ta σ H fun x H1=>tb σ H1 fun y H2=>r x y H2 Q
noncomputable def tUn (r:V->Hp->VK->Prop) (ta:TE):TE:=fun σ H Q=>ta σ H fun x H1=>r x H1 Q
noncomputable def rI (C:Int->Int->Prop) (g:Int->Int->V):R2:=fun x y H Q=>∃i j,x=.int i/\y=.int j/\C i j/\Q (g i j) H
noncomputable def rI0 (g:Int->Int->V):R2:=fun x y H Q=>∃i j,x=.int i/\y=.int j/\Q (g i j) H
noncomputable def rU (g:Int->V):V->Hp->VK->Prop:=fun x H Q=>∃i,x=.int i/\Q (g i) H
section
variable {X:Cx} {a b c:Expr} {ta tb tc:TE} {pos:Pos}
theorem zJ (ha:PE X a ta) (hb:PE X b tb) {pins:List (Addr×Obj)} {s:Shared} {σ:St} {H:Hp} {R:V->V->Hp->Prop} (I:Inv X pins σ H s)
  (h:ta σ H fun x H1=>tb σ H1 fun y H2=>R x y H2) {Q:Value->Shared->Prop} {f:Value->Value->Sem Value}
  (hf:∀v u s2 x y H2,Inv X pins σ H2 s2->RelV x v->RelV y u->R x y H2->wpAny (model X.prog X.w) X.A (f v u) Q X.xe s2) :
  wpAny (model X.prog X.w) X.A (eval a X.env) (fun v s₁=>wpAny (model X.prog X.w) X.A (eval b X.env) (fun u s₂=>wpAny (model X.prog X.w) X.A (f v u) Q X.xe s₂) X.xe s₁) X.xe s:=by
 refine thn (ha pins s σ H _ I h) fun v s1 zr1=>?_
 obtain ⟨x,H1,I1,r1,q1⟩:=zr1
 refine thn (hb pins s1 σ H1 _ I1 q1) fun u s2 zr1=>?_
 obtain ⟨y,H2,I2,r2,q2⟩:=zr1
 exact hf v u s2 x y H2 I2 r1 r2 q2
theorem ow {op:Operator} {r:R2} (ho:OpR X (binaryOp op) r) (ha:PE X a ta) (hb:PE X b tb):PE X (.BinOp a op b pos) (tOp r ta tb):=by
 intro pins s σ H Q I h
 exact wpAny_BinOp (zJ ha hb I h fun v u s2 x y H2 I2 rx ry q=>ho pins s2 σ H2 x y v u Q I2 rx ry q)
theorem Ca {op:UnaryOp} {r:V->Hp->VK->Prop} (ho:UnR X (unaryOp op) r) (ha:PE X a ta):PE X (.UnaryOp op a pos) (tUn r ta):=by
 intro pins s σ H Q I h
 exact UnaryOp_ (thn (ha pins s σ H _ I h) fun v s1 zt1=>by obtain ⟨x,H1,I1,r1,q1⟩:=zt1;exact ho pins s1 σ H1 x v Q I1 r1 q1)
theorem opI {f:Value->Value->Sem Value} {C:Int->Int->Prop} {g:Int->Int->Int}
  (rule:∀(i j:Int) (t u:Tok) (s:Shared) (Q:Value->Shared->Prop) (E:Value->Shared->Prop),C i j->Q (.int (g i j) s.toks) { s with toks:=s.toks+1 }->wpAny (model X.prog X.w) X.A (f (.int i t) (.int j u)) Q E s) :
  OpR X f (rI C fun i j=>.int (g i j)):=by
 intro pins s σ H x y v u Q I rx ry h
 obtain ⟨i,j,rfl,rfl,hc,q⟩:=h
 obtain ⟨t,rfl⟩:=rx
 obtain ⟨t',rfl⟩:=ry
 exact rule i j t t' s _ _ hc ⟨.int (g i j),H,I.tok _,⟨_,rfl⟩,q⟩
theorem Cb {f:Value->Value->Sem Value} {g:Int->Int->Int}
  (rule:∀(i j:Int) (t u:Tok) (s:Shared) (Q:Value->Shared->Prop) (E:Value->Shared->Prop),Q (.int (g i j) s.toks) { s with toks:=s.toks+1 }->wpAny (model X.prog X.w) X.A (f (.int i t) (.int j u)) Q E s) :
  OpR X f (rI0 fun i j=>.int (g i j)):=by
 intro pins s σ H x y v u Q I rx ry h
 obtain ⟨i,j,rfl,rfl,q⟩:=h
 obtain ⟨t,rfl⟩:=rx
 obtain ⟨t',rfl⟩:=ry
 exact rule i j t t' s _ _ ⟨.int (g i j),H,I.tok _,⟨_,rfl⟩,q⟩
theorem zK {f:Value->Value->Sem Value} {g:Int->Int->Bool}
  (rule:∀(i j:Int) (t u:Tok) (s:Shared) (Q:Value->Shared->Prop) (E:Value->Shared->Prop),Q (.bool (g i j)) s->wpAny (model X.prog X.w) X.A (f (.int i t) (.int j u)) Q E s) :
  OpR X f (rI0 fun i j=>.bl (g i j)):=by
 intro pins s σ H x y v u Q I rx ry h
 obtain ⟨i,j,rfl,rfl,q⟩:=h
 obtain ⟨t,rfl⟩:=rx
 obtain ⟨t',rfl⟩:=ry
 exact rule i j t t' s _ _ ⟨.bl (g i j),H,I,rfl,q⟩
noncomputable def Ez (i j:Int):Prop:=0 < j/\j < 1073741824
noncomputable def EA (i j:Int):Prop:=0<=j/\j<=1000000/\i.natAbs < 2 ^ 64
noncomputable def zL (i j:Int):Prop:=(-(2 ^ 64) < i/\i < 2 ^ 64)\/(-(2 ^ 64) < j/\j < 2 ^ 64)
theorem zL.ok {i j:Int} (h:zL i j):IntMulOk i j:=by
 rcases h with ⟨h1,h2⟩ | ⟨h1,h2⟩
 ·exact .of_left (intBits_le_64 h1 h2)
 ·exact .of_right (intBits_le_64 h1 h2)
theorem aU:OpR X (binaryOp .Add) (rI0 fun i j=>.int (i+j)):=Cb fun _ _ _ _ _ _ _ q=>add_int q
theorem cr:OpR X (binaryOp .Sub) (rI0 fun i j=>.int (i-j)):=Cb fun _ _ _ _ _ _ _ q=>sub_int q
theorem bJ:OpR X (binaryOp .Mult) (rI zL fun i j=>.int (i*j)):=opI fun _ _ _ _ _ _ _ hc q=>mul_int q hc.ok
theorem kr:OpR X (binaryOp .FloorDiv) (rI Ez fun i j=>.int (i / j)):=opI fun i j _ _ _ _ _ hc q=>by
 have h1:(0:Int) < j:=hc.1
 have h2:j < 1073741824:=hc.2
 exact floordiv_int (by omega) (by rw [Int.fdiv_eq_ediv_of_nonneg i (by omega)];exact q) (.inl (PyProof.noPylong_small (by omega)))
theorem cR:OpR X (binaryOp .Mod) (rI (fun _ j=>0 < j) fun i j=>.int (i%j)):=opI fun i j _ _ _ _ _ hc q=>by
 have h1:(0:Int) < j:=hc
 exact mod_int' (by omega) (by rw [Int.fmod_eq_emod_of_nonneg i (by omega)];exact q)
theorem iN:OpR X (binaryOp .Pow) (rI EA fun i j=>.int (i ^ j.toNat)):=opI fun _ _ _ _ _ _ _ hc q=>pow_int_small hc.1 hc.2.1 hc.2.2 q
theorem unI {f:Value->Sem Value} {g:Int->Int}
  (rule:∀(i:Int) (t:Tok) (s:Shared) (Q:Value->Shared->Prop) (E:Value->Shared->Prop),Q (.int (g i) s.toks) { s with toks:=s.toks+1 }->wpAny (model X.prog X.w) X.A (f (.int i t)) Q E s) :
  UnR X f (rU fun i=>.int (g i)):=by
 intro pins s σ H x v Q I rx h
 obtain ⟨i,rfl,q⟩:=h
 obtain ⟨t,rfl⟩:=rx
 exact rule i t s _ _ ⟨.int (g i),H,I.tok _,⟨_,rfl⟩,q⟩
theorem dY:UnR X (unaryOp .USub) (rU fun i=>.int (-i)):=unI fun _ _ _ _ _ q=>neg_int q
end
noncomputable def vz:V->V->Bool
 | .non,.non=>true | .non,.int _=>true | .int _,.non=>true | .non,.bl _=>true | .bl _,.non=>true | .non,.str _=>true | .str _,.non=>true
 | .int _,.int _=>true | .bl _,.bl _=>true | .str _,.str _=>true | .byt _,.byt _=>true
 | .int _,.str _=>true | .str _,.int _=>true | .bl _,.str _=>true | .str _,.bl _=>true
 | _,_=>false
noncomputable def rEq:R2:=fun x y H Q=>vz x y=true/\Q (.bl (decide (x=y))) H
noncomputable def rNe:R2:=fun x y H Q=>vz x y=true/\Q (.bl (!decide (x=y))) H
theorem ox {i j:Int}:decide (V.int i=V.int j)=(i==j):=by
 rw [Bool.eq_iff_iff]
 simp
theorem qP {i j:Bool}:decide (V.bl i=V.bl j)=(i==j):=by
 rw [Bool.eq_iff_iff]
 simp
theorem oy {i j:Str}:decide (V.str i=V.str j)=(i==j):=by
 rw [Bool.eq_iff_iff]
 simp
theorem oz {i j:Array UInt8}:decide (V.byt i=V.byt j)=(i.toList==j.toList):=by
 rw [Bool.eq_iff_iff]
 cases i
 cases j
 simp
section
variable {X:Cx} {a b c:Expr} {ta tb tc:TE} {pos:Pos}
theorem aV {pins:List (Addr×Obj)} {σ:St} {H:Hp} {s:Shared} {Q:VK} {k k':Bool} (I:Inv X pins σ H s) (q:Q (.bl k) H) (e:k=k'):EP X pins σ Q (.bool k') s:=by
 subst e
 exact ⟨.bl k,H,I,rfl,q⟩
theorem cj:OpR X (compareOp .Eq) rEq:=by
 intro pins s σ H x y v u Q I rx ry h
 obtain ⟨hs,q⟩:=h
 cases x with
 | non=>
  cases rx
  cases y with
  | non=>cases ry;exact PySem.EqNone.eq_none_none (aV I q (by simp))
  | bl j=>cases ry;exact PySem.EqNone.eq_none_bool (aV I q (by simp))
  | int j=>obtain ⟨t',rfl⟩:=ry;exact PySem.EqNone.eq_none_int (aV I q (by simp))
  | str j=>obtain ⟨t',rfl⟩:=ry;exact PySem.EqNone.eq_none_str (aV I q (by simp))
  | _=>exact absurd (show false=true from hs) Bool.false_ne_true
 | bl i=>
  cases rx
  cases y with
  | non=>cases ry;exact PySem.EqNone.eq_bool_none (aV I q (by simp))
  | bl j=>cases ry;exact eq_bool (aV I q qP)
  | str j=>obtain ⟨t',rfl⟩:=ry;exact PySem.EqMixed.eq_bool_str (aV I q (by simp))
  | _=>exact absurd (show false=true from hs) Bool.false_ne_true
 | int i=>
  obtain ⟨t,rfl⟩:=rx
  cases y with
  | non=>cases ry;exact PySem.EqNone.eq_int_none (aV I q (by simp))
  | int j=>obtain ⟨t',rfl⟩:=ry;exact eq_int (aV I q ox)
  | str j=>obtain ⟨t',rfl⟩:=ry;exact PySem.EqMixed.eq_int_str (aV I q (by simp))
  | _=>exact absurd (show false=true from hs) Bool.false_ne_true
 | str i=>
  obtain ⟨t,rfl⟩:=rx
  cases y with
  | non=>cases ry;exact PySem.EqNone.eq_str_none (aV I q (by simp))
  | bl j=>cases ry;exact PySem.EqMixed.eq_str_bool (aV I q (by simp))
  | int j=>obtain ⟨t',rfl⟩:=ry;exact PySem.EqMixed.eq_str_int (aV I q (by simp))
  | str j=>obtain ⟨t',rfl⟩:=ry;exact eq_str (aV I q oy)
  | _=>exact absurd (show false=true from hs) Bool.false_ne_true
 | byt i=>
  obtain ⟨t,rfl⟩:=rx
  cases y with
  | byt j=>obtain ⟨t',rfl⟩:=ry;exact PySem.W.eq_bytes (aV I q oz)
  | _=>exact absurd (show false=true from hs) Bool.false_ne_true
 | _=>cases y <;> exact absurd (show false=true from hs) Bool.false_ne_true
theorem yf:OpR X (compareOp .NotEq) rNe:=by
 intro pins s σ H x y v u Q I rx ry h
 obtain ⟨hs,q⟩:=h
 cases x with
 | non=>
  cases rx
  cases y with
  | non=>cases ry;exact PySem.EqNone.ne_none_none (aV I q (by simp))
  | bl j=>cases ry;exact PySem.EqNone.ne_none_bool (aV I q (by simp))
  | int j=>obtain ⟨t',rfl⟩:=ry;exact PySem.EqNone.ne_none_int (aV I q (by simp))
  | str j=>obtain ⟨t',rfl⟩:=ry;exact PySem.EqNone.ne_none_str (aV I q (by simp))
  | _=>exact absurd (show false=true from hs) Bool.false_ne_true
 | bl i=>
  cases rx
  cases y with
  | non=>cases ry;exact PySem.EqNone.ne_bool_none (aV I q (by simp))
  | bl j=>cases ry;exact ne_bool (aV I q (congrArg not qP))
  | str j=>obtain ⟨t',rfl⟩:=ry;exact PySem.EqMixed.ne_bool_str (aV I q (by simp))
  | _=>exact absurd (show false=true from hs) Bool.false_ne_true
 | int i=>
  obtain ⟨t,rfl⟩:=rx
  cases y with
  | non=>cases ry;exact PySem.EqNone.ne_int_none (aV I q (by simp))
  | int j=>obtain ⟨t',rfl⟩:=ry;exact ne_int (aV I q (congrArg not ox))
  | str j=>obtain ⟨t',rfl⟩:=ry;exact PySem.EqMixed.ne_int_str (aV I q (by simp))
  | _=>exact absurd (show false=true from hs) Bool.false_ne_true
 | str i=>
  obtain ⟨t,rfl⟩:=rx
  cases y with
  | non=>cases ry;exact PySem.EqNone.ne_str_none (aV I q (by simp))
  | bl j=>cases ry;exact PySem.EqMixed.ne_str_bool (aV I q (by simp))
  | int j=>obtain ⟨t',rfl⟩:=ry;exact PySem.EqMixed.ne_str_int (aV I q (by simp))
  | str j=>obtain ⟨t',rfl⟩:=ry;exact ne_str (aV I q (congrArg not oy))
  | _=>exact absurd (show false=true from hs) Bool.false_ne_true
 | byt i=>
  obtain ⟨t,rfl⟩:=rx
  cases y with
  | byt j=>obtain ⟨t',rfl⟩:=ry;exact PySem.W.ne_bytes (aV I q (congrArg not oz))
  | _=>exact absurd (show false=true from hs) Bool.false_ne_true
 | _=>cases y <;> exact absurd (show false=true from hs) Bool.false_ne_true
theorem qQ:OpR X (compareOp .Lt) (rI0 fun i j=>.bl (decide (i < j))):=zK fun _ _ _ _ _ _ _ q=>lt_int q
theorem lN:OpR X (compareOp .Gt) (rI0 fun i j=>.bl (decide (j < i))):=zK fun _ _ _ _ _ _ _ q=>gt_int q
theorem Cd:OpR X (compareOp .GtE) (rI0 fun i j=>.bl (decide (j<=i))):=zK fun _ _ _ _ _ _ _ q=>ge_int q
theorem iO:OpR X (compareOp .Is) (fun x y H Q=>y=.non/\Q (.bl (decide (x=.non))) H):=by
 intro pins s σ H x y v u Q I rx ry h
 obtain ⟨rfl,q⟩:=h
 cases ry
 refine is_none_gen (aV I q ?_)
 cases x <;> first
  | (cases rx;rfl)
  | (obtain ⟨t,rfl⟩:=rx;rfl)
theorem oA:OpR X (compareOp .IsNot) (fun x y H Q=>y=.non/\Q (.bl (!decide (x=.non))) H):=by
 intro pins s σ H x y v u Q I rx ry h
 obtain ⟨rfl,q⟩:=h
 cases ry
 refine isnot_none_gen (aV I q ?_)
 cases x <;> first
  | (cases rx;rfl)
  | (obtain ⟨t,rfl⟩:=rx;rfl)
theorem aK (b:Expr) {op:CmpOp} (h:op≠.In:=by decide) (h2:op≠.NotIn:=by decide):behindInMarks op b=false:=by
 have e1:(op==CmpOp.In)=false:=by cases op <;> first | rfl | exact absurd rfl h
 have e2:(op==CmpOp.NotIn)=false:=by cases op <;> first | rfl | exact absurd rfl h2
 cases b <;> simp [behindInMarks,e1,e2]
theorem vA {op:CmpOp} {r:R2} (ho:OpR X (compareOp op) r) (ha:PE X a ta) (hb:PE X b tb) (hm:behindInMarks op b=false):PE X (.Compare a [op] [b] pos) (tOp r ta tb):=by
 intro pins s σ H Q I h
 exact wpAny_Compare1 (zJ ha hb I h fun v u s2 x y H2 I2 rx ry q=>ho pins s2 σ H2 x y v u Q I2 rx ry q) hm
noncomputable def oB (t:TE):TT:=fun σ H Q=>t σ H fun x H'=>∃k,x=.bl k/\Q k H'
theorem oC {op:CmpOp} {r:R2} (ho:OpR X (compareOp op) r) (ha:PE X a ta) (hb:PE X b tb) (hm:behindInMarks op b=false):PT X (.Compare a [op] [b] pos) (oB (tOp r ta tb)):=by
 intro pins s σ H Q I h
 refine wpAny_isTrue_Compare1 (thn (ha pins s σ H _ I h) fun v s1 ⟨x,H1,I1,r1,q1⟩=>thn (hb pins s1 σ H1 _ I1 q1) fun u s2 ⟨y,H2,I2,r2,q2⟩=>
  thn (ho pins s2 σ H2 x y v u _ I2 r1 r2 q2) fun c s3 ⟨z,H3,I3,r3,k,e,q3⟩=>?_) hm
 subst e
 cases r3
 exact wpAny_truthy_bool ⟨H3,I3,q3⟩
noncomputable def TruV (K:PySem.W.Frag) (x:V) (H:Hp) (k:Bool):Prop:=
 match x with
 | .non=>k=false
 | .bl b=>k=b
 | .int i=>k=(i != 0)
 | .str y=>y.length<=sizeLine/\k=((y.length:Int) != 0)
 | .byt y=>y.size<=sizeLine/\k=((y.size:Int) != 0)
 | .ref p=>(∃xs,SqL K H p xs/\k=!xs.isEmpty)\/(∃xs,SqT K H p xs/\k=!xs.isEmpty)\/∃kvs,H p=some (.dK kvs)/\k=!kvs.isEmpty
 | _=>False
theorem m7 {κ:Type} {kvs:List (κ×V)} {vs:List (κ×Value)} (r:KV kvs vs):(!vs.isEmpty)=!kvs.isEmpty:=by
 cases r <;> rfl
theorem iP {xs:List V} {its:List Value} (r:Vals xs its):(!its.toArray.isEmpty)=!xs.isEmpty:=by
 cases r <;> simp
theorem gu:(sizeLine:Nat) < 2 ^ 63:=by rw [sizeLine_eq];decide
theorem zM:Ey X (fun x H Q=>∃k,TruV X.K x H k/\Q k H):=by
 intro pins s σ H x v Q I rx h
 obtain ⟨k,e,q⟩:=h
 have hl:=gu
 have hs:sizeLine=16777216:=sizeLine_eq
 cases x with
 | non=>
  cases rx
  have e':k=false:=e
  subst e'
  exact truthy_none ⟨H,I,q⟩
 | bl b=>
  cases rx
  have e':k=b:=e
  subst e'
  exact wpAny_truthy_bool ⟨H,I,q⟩
 | int i=>
  obtain ⟨t,rfl⟩:=rx
  have e':k=(i != 0):=e
  subst e'
  exact PySem.P.truthy_int ⟨H,I,q⟩
 | str y=>
  obtain ⟨t,rfl⟩:=rx
  obtain ⟨hy,e'⟩:y.length<=sizeLine/\k=((y.length:Int) != 0):=e
  subst e'
  exact PySem.P.truthy_str (by omega) ⟨H,I.tok _,q⟩
 | byt y=>
  obtain ⟨t,rfl⟩:=rx
  obtain ⟨hy,e'⟩:y.size<=sizeLine/\k=((y.size:Int) != 0):=e
  subst e'
  exact PySem.W.truthy_bytes (by omega) ⟨H,I.tok _,q⟩
 | ref p=>
  cases rx
  have e':(∃xs,SqL X.K H p xs/\k=!xs.isEmpty)\/(∃xs,SqT X.K H p xs/\k=!xs.isEmpty)\/∃kvs,H p=some (.dK kvs)/\k=!kvs.isEmpty:=e
  rcases e' with ⟨xs,hx,e'⟩ | ⟨xs,hx,e'⟩ | ⟨kvs,hx,e'⟩
  ·subst e'
   obtain ⟨its,r,pl,hz⟩:=I.list hx
   have hlen:=r.length
   exact wpAny_truthy_list pl.isList (by simp only [List.size_toArray];omega) ⟨H,I.tok _,by rw [iP r];exact q⟩
  ·subst e'
   obtain ⟨its,r,pl,hz⟩:=I.tuple hx
   have hlen:=r.length
   exact truthy_tuple pl (by simp only [List.size_toArray];omega) ⟨H,I.tok _,by rw [iP r];exact q⟩
  ·subst e'
   obtain ⟨hz,hS,vs,r,m⟩:kvs.length<=sizeLine/\(p==sysModules)=false/\∃vs,KV kvs vs/\s.heap.DictOf (ko X.prog X.w) p vs:=I.hok p _ hx
   have hlen:kvs.length=vs.length:=Paired.length r
   exact wpAny_truthy_dict hS m (by omega) ⟨H,I.tok _,by rw [m7 r];exact q⟩
 | _=>exact (show False from e).elim
theorem qR (ha:PE X a ta) (he:∀whole,isTrue a X.env whole=(do let v <- whole;standAt a.pos;holding [v] (truthy v))) :
  PT X a (fun σ H Q=>ta σ H fun x H'=>∃k,TruV X.K x H' k/\Q k H'):=by
 intro pins s σ H Q I h
 exact isTrue_plain (thn (ha pins s σ H _ I h) fun v s1 zt1=>by obtain ⟨x,H1,I1,r1,q1⟩:=zt1;exact zM pins s1 σ H1 x v Q I1 r1 q1) (he _)
theorem vals1 {x:V} {us:List Value} (r:Vals [x] us):∃u,us=[u]/\RelV x u:=by
 cases r with
 | cons r1 r2=>cases r2;exact ⟨_,rfl,r1⟩
theorem vals2 {x y:V} {us:List Value} (r:Vals [x,y] us):∃u w',us=[u,w']/\RelV x u/\RelV y w':=by
 cases r with
 | cons r1 r2=>
  cases r2 with
  | cons r3 r4=>cases r4;exact ⟨_,_,rfl,r1,r3⟩
theorem jI:cQ X (.type "int") (fun xs H Q=>(∃i,xs=[.int i]/\Q (.int i) H)\/∃k,xs=[.bl k]/\Q (.int (if k then 1 else 0)) H):=by
 intro pins s σ H xs us Q I r h
 rcases h with ⟨i,rfl,q⟩ | ⟨k,rfl,q⟩
 ·obtain ⟨u,rfl,t,rfl⟩:=vals1 r
  exact call_int_int ⟨.int i,H,I,⟨_,rfl⟩,q⟩
 ·obtain ⟨u,rfl,r1⟩:=vals1 r
  cases r1
  exact call_int_bool ⟨.int (if k then 1 else 0),H,I.tok _,⟨_,rfl⟩,q⟩
end
end L2
namespace L2
open PySem PySem.Spec PyProof.Rows
structure ObjM (h:Heap) (x dx C:Addr) (mA:Str->Option Value):Prop where
 obj:h.get? x=some (PySem.W.instObj C dx)
 ns:h.Ns1 dx mA
 ne:dx≠x
theorem pU {h:Heap} {dx:Addr} {mA:Str->Option Value} (n:h.Ns1 dx mA):∃od,h.get? dx=some od/\∀name,PySem.W.lookIn name od=some (mA name):=by
 obtain ⟨o,es,ep,ho,hd,hk,_,hm⟩:=n
 refine ⟨o,ho,fun name=>?_⟩
 have e:=hm name
 unfold nsFind findBy at e
 rw [<- Array.find?_toList] at e
 unfold PySem.W.lookIn
 rw [hd]
 dsimp only
 split
 ·rename_i y q
  rw [q] at e
  exact congrArg some e
 ·rename_i q
  rw [q] at e
  have a:es.toList.any (·.refKey)=false:=by
   rw [List.any_eq_false]
   intro y hy
   obtain ⟨z,t,hkey⟩:=hk y (Array.mem_toList_iff.mp hy)
   simp [DictEntry.refKey,hkey]
  have a':¬ es.toList.any (·.refKey)=true:=by rw [a];exact Bool.false_ne_true
  rw [if_neg a']
  exact congrArg some e
theorem ObjM.look {h:Heap} {x dx C:Addr} {mA:Str->Option Value} (I:ObjM h x dx C mA):∃od,PySem.W.InstAt h x (PySem.W.instObj C dx) C (some od)/\∀name,PySem.W.lookIn name od=some (mA name):=
 let ⟨od,ho,hl⟩:=pU I.ns
 ⟨od,⟨I.obj,rfl,rfl,ho⟩,hl⟩
section
variable {P:Program} {w:World} {H H':Hp} {h h':Heap} {a C dx:Addr} {fs fs':List (Str×V)}
theorem vB (hok:HOk P w H h) (e:H a=some (.ins C dx fs)):∃mA,ObjM h a dx C mA/\(∀f,RelO (fs.lookup f) (mA f))/\PySem.Within mA (fs.map (·.1))/\fs.length<=1000/\H dx=some (.own a):=by
 obtain ⟨d,z,ne,ob,mA,n,r,q⟩:=(show bq P w H h a (.ins C dx fs) from hok a _ e)
 exact ⟨mA,⟨ob,n,ne⟩,r,q,z,d⟩
end
structure Cls (K:PySem.W.Frag) (C:Addr):Prop where
 pg:PySem.W.plainGet K C Str.empty=true
 hd:PySem.W.hasDictIn K C=true
 po:PySem.W.plainOver K C=true
 sa:PySem.W.findIn K (.ref C) "__setattr__"=some (some (.builtin "object.__setattr__"))
theorem Cls.get {K:PySem.W.Frag} {C:Addr} (c:Cls K C) (f:Str):PySem.W.plainGet K C f=true:=c.pg
section
variable {X:Cx} {pins:List (Addr×Obj)} {σ:St} {H:Hp} {s:Shared} {A:Around} {E:Value->Shared->Prop} {Q:Value->Shared->Prop} {c:Value} {b:Bool}
inductive hV (K:PySem.W.Frag) (H:Hp):V->Value->Prop where
 | non:hV K H .non (.type "NoneType")
 | bl (x:Bool):hV K H (.bl x) (.type "bool")
 | int (i:Int):hV K H (.int i) (.type "int")
 | str (x:Str):hV K H (.str x) (.type "str")
 | flt (x:UInt64):hV K H (.flt x) (.type "float")
 | lst {a:Addr} {xs:List V} (e:H a=some (.lst xs)):hV K H (.ref a) (.type "list")
 | frz {a:Addr} {o:Obj} {xs:List V} (e:H a=some (.frz o (.lst xs))):hV K H (.ref a) (.type "list")
 | tup {a:Addr} {xs:List V} (e:H a=some (.tup xs)):hV K H (.ref a) (.type "tuple")
 | dK {a:Addr} {kvs:List (Key×V)} (e:H a=some (.dK kvs)):hV K H (.ref a) (.type "dict")
 | dT {a:Addr} {kvs:List (List Key×V)} (e:H a=some (.dT kvs)):hV K H (.ref a) (.type "dict")
 | ins {a C dx:Addr} {fs:List (Str×V)} (e:H a=some (.ins C dx fs)) (cl:Cls K C) (ha:PySem.W.findIn K (.ref C) "__class__"=some (some (.builtin "object.__class__")))
   (hn:PySem.W.specialIn K (.builtin "object.__class__") "__get__"=some (some (.builtin "getset_descriptor.__get__"))) (htk:PySem.W.takesIn K (.builtin "object.__class__")=some true)
   (hm:PySem.W.mroIn K C (.type "object")=some true):hV K H (.ref a) (.ref C)
theorem cP {x:V} {u t:Value} (I:Inv X pins σ H s) (rx:RelV x u) (ty:hV X.K H x t) (e:PySem.W.kitOne X.K t c=some b) (h:∀tk,Q (.bool b) { s with toks:=tk }) :
  wpAny (model X.prog X.w) A (call (.builtin "isinstance") [u,c]) Q E s:=by
 cases ty with
 | non=>cases (show u=Value.none from rx);exact PySem.W.kia_one PySem.W.kitx_none I.kIn True.intro e (fun z=>nomatch z) h
 | bl y=>cases (show u=Value.bool y from rx);exact PySem.W.kia_one PySem.W.kitx_bool I.kIn True.intro e (fun z=>nomatch z) h
 | int i=>obtain ⟨t,q⟩:=(show ∃t,u=Value.int i t from rx);cases q;exact PySem.W.kia_one PySem.W.kitx_int I.kIn True.intro e (fun z=>nomatch z) h
 | str y=>obtain ⟨t,q⟩:=(show ∃t,u=Value.str y t from rx);cases q;exact PySem.W.kia_one PySem.W.kitx_str I.kIn True.intro e (fun z=>nomatch z) h
 | flt y=>obtain ⟨t,q⟩:=(show ∃t,u=Value.float y t from rx);cases q;exact PySem.W.kia_one PySem.W.kitx_float I.kIn True.intro e (fun z=>nomatch z) h
 | @lst a xs ea=>
  cases (show u=Value.ref a from rx)
  obtain ⟨_,_,n,_,h1⟩:=(show bq X.prog X.w H s.heap a (.lst xs) from I.hok a _ ea)
  exact PySem.W.kia_one PySem.W.kitx_list I.kIn ⟨_,h1,rfl⟩ e (fun z=>nomatch z) h
 | @frz a ob xs ea=>
  cases (show u=Value.ref a from rx)
  obtain ⟨_,_,_,n,_,h1⟩:=(show bq X.prog X.w H s.heap a (.frz ob (.lst xs)) from I.hok a _ ea)
  exact PySem.W.kia_one PySem.W.kitx_list I.kIn ⟨_,h1,rfl⟩ e (fun z=>nomatch z) h
 | @tup a xs ea=>
  cases (show u=Value.ref a from rx)
  obtain ⟨_,_,_,p⟩:=(show bq X.prog X.w H s.heap a (.tup xs) from I.hok a _ ea)
  obtain ⟨o,h1,h2,_⟩:=p
  exact PySem.W.kia_one PySem.W.kitx_tuple I.kIn ⟨o,h1,h2⟩ e (fun z=>nomatch z) h
 | @dK a kvs ea=>
  cases (show u=Value.ref a from rx)
  obtain ⟨_,_,vs,_,p⟩:=(show bq X.prog X.w H s.heap a (.dK kvs) from I.hok a _ ea)
  obtain ⟨o,es,ep,h1,h2,_⟩:=p
  exact PySem.W.kia_one PySem.W.kitx_dict I.kIn ⟨o,h1,h2.1⟩ e (fun z=>nomatch z) h
 | @dT a kvs ea=>
  cases (show u=Value.ref a from rx)
  obtain ⟨_,_,xs,_,o,es,ep,h1,h2,_⟩:=(show bq X.prog X.w H s.heap a (.dT kvs) from I.hok a _ ea)
  exact PySem.W.kia_one PySem.W.kitx_dict I.kIn ⟨o,h1,h2.1⟩ e (fun z=>nomatch z) h
 | @ins a C dx fs ea cl ha hn htk hm=>
  cases (show u=Value.ref a from rx)
  obtain ⟨mA,O,_⟩:=vB I.hok ea
  obtain ⟨od,J,_⟩:=O.look
  exact PySem.W.kia_one (PySem.W.kitx_own (cl.get _) cl.hd ha hn htk hm) I.kIn J e (fun z=>nomatch z) h
end
end L2
namespace L2
open PySem PySem.Spec PyProof.Rows
structure bV (k:Nat) (A:Around):Prop where
 hd:A.handled=none
 dp:A.depth+3*k+5 < recursionLimit
 un:A.units+16*k+200 < cLine
 gd:A.guards=some []
theorem bV.mono {j k:Nat} {A:Around} (r:bV k A) (h:j<=k):bV j A:=⟨r.hd,by have:=r.dp;omega,by have:=r.un;omega,r.gd⟩
theorem bV.deeper {k:Nat} {A:Around} (r:bV (k+1) A) (env:Env):bV k (A.deeper env):=
 ⟨r.hd,by have:=r.dp;show A.depth+1+3*k+5 < _;omega,by have:=r.un;show A.units+3+16*k+200 < _;omega,r.gd⟩
theorem bV.depth {k:Nat} {A:Around} (r:bV k A):A.depth < recursionLimit:=by have:=r.dp;omega
theorem bV.units {k:Nat} {A:Around} (r:bV k A):A.units+64 < cLine:=by have:=r.un;omega
noncomputable def lO:TA:=fun _ H Q=>Q [] H
noncomputable def eY (ta:TE) (tr:TA):TA:=fun σ H Q=>ta σ H fun x H1=>tr σ H1 fun xs H2=>Q (x::xs) H2
section
variable {X:Cx} {e:Expr} {es:List Expr} {te:TE} {t:TA} {pos:Pos}
theorem fc:PA X [] lO:=fun _ _ _ _ H Q I h=>Calls.spliced_nil ⟨[],H,I,.nil,h⟩
theorem bW (ha:PE X e te) (hr:PA X es t) (hs:starEach (e::es) X.env=(false,eval e X.env)::starEach es X.env:=by rfl):PA X (e::es) (eY te t):=by
 intro pos pins s σ H Q I h
 rw [hs]
 show wpAny _ _ (spliced ((false,eval e X.env)::backTo pos (starEach es X.env))) _ _ s
 refine Calls.spliced_cons (thn (ha pins s σ H _ I h) fun u s1 zr1=>?_)
 obtain ⟨x,H1,I1,r1,q1⟩:=zr1
 exact thn (hr pos pins s1 σ H1 _ I1 q1) fun us s2 zt1=>by obtain ⟨xs,H2,I2,r2,q2⟩:=zt1;exact ⟨x::xs,H2,I2,.cons r1 r2,q2⟩
noncomputable def zN (t:TA):TE:=fun σ H Q=>t σ H fun xs H1=>xs.length<=sizeLine/\∀p,H1 p=none->Q (.ref p) (upd H1 p (.tup xs))
noncomputable def Ce (t:TA):TE:=fun σ H Q=>t σ H fun xs H1=>xs.length<=sizeLine/\∀p,H1 p=none->Q (.ref p) (upd H1 p (.lst xs))
theorem qS {x1} (h:PA X es t):PE X (.Tuple es x1 pos) (zN t):=by
 intro pins s σ H Q I hq
 refine wpAny_Tuple_spliced (thn (h pos pins s σ H _ I hq) fun us s1 ⟨xs,H1,I1,r,z,q⟩=>⟨by rw [<- r.length];exact z,?_⟩)
 have hf:H1 s1.heap.objs.size=none:=I1.hok.fresh (Nat.le_refl _)
 refine ⟨.ref s1.heap.objs.size,upd H1 s1.heap.objs.size (.tup xs),I1.laid (t':=s1.toks) (fun b u e=>Heap.get?_push_of_some _ e) (Nat.le_refl _) ?_,rfl,q _ hf⟩
 exact ⟨z,us,r,⟨_,Heap.get?_push_size _ rfl,rfl,_,rfl⟩⟩
theorem zO (h:PA X es t):PE X (.List es pos) (Ce t):=by
 intro pins s σ H Q I hq
 refine wpAny_List_spliced (thn (h pos pins s σ H _ I hq) fun us s1 ⟨xs,H1,I1,r,z,q⟩=>⟨by rw [<- r.length];exact z,?_⟩)
 have hf:H1 s1.heap.objs.size=none:=I1.hok.fresh (Nat.le_refl _)
 refine ⟨.ref s1.heap.objs.size,upd H1 s1.heap.objs.size (.lst xs),I1.laid (t':=s1.toks) (fun b u e=>Heap.get?_push_of_some _ e) (Nat.le_refl _) ?_,rfl,q _ hf⟩
 exact ⟨z,us,0,r,Heap.get?_push_size _ rfl⟩
end
noncomputable abbrev Sp:=List V->Hp->VK->XK->Prop
noncomputable abbrev CXT:=List Env->Hp->Shared->XK->Value->Shared->Prop
structure Env0 (P:Program) (w:World) (K:PySem.W.Frag) (mg:Str->Option Value) (base:Heap) (A:Around) (outer:List Env) (s:Shared) (H:Hp):Prop where
 frames:A.frames=some outer
 mod:Mod K mg base
 bs:∀b o,base.get? b=some o->s.heap.get? b=some o/\H b=none
 bsz:base.objs.size<=s.heap.objs.size
 funs:s.heap.FunFrames base outer
 frf:∀b∈frs outer,H b=none
 hok:HOk P w H s.heap
 bare:AllBare s.gens
noncomputable def CE (outer:List Env) (P:Program) (w:World) (H:Hp) (s:Shared) (Q:VK) (u:Value) (s':Shared):Prop:=
 ∃v H',s'.os=s.os/\AllBare s'.gens/\Un (frs outer) [] H H' s.heap s'.heap/\HOk P w H' s'.heap/\RelV v u/\Q v H'
noncomputable def CR (CX:CXT) (outer:List Env) (P:Program) (w:World) (H:Hp) (s:Shared) (Q:VK) (E:XK) (r:Result) (s':Shared):Prop:=
 match r with
 | .ok (.ret u)=>CE outer P w H s Q u s'
 | .ok _=>False
 | .error e=>CX outer H s E e s'
structure hW (P:Program) (w:World) (K:PySem.W.Frag) (mg:Str->Option Value) (base:Heap) (CX:CXT) (k:Nat) (f:Addr) (fd:FuncData) (ps:List Str) (sp:Sp):Prop where
 len:∀vs H Q E,sp vs H Q E->vs.length=ps.length
 run:∀(A:Around) (outer:List Env) (s:Shared) (H:Hp) (args:Args) (us:List Value) (vs:List V) (Q:VK) (E:XK),bV k A->Env0 P w K mg base A outer s H->BindsTo s fd args (ps.zip us)->Vals vs us->sp vs H Q E ->
  codeAny (model P w) A (.call (.ref f) args) (CR CX outer P w H s Q E) s
section
variable {X:Cx} {pins:List (Addr×Obj)} {σ:St} {H:Hp} {s s':Shared}
theorem Inv.env0 (I:Inv X pins σ H s):Env0 X.prog X.w X.K X.mg X.base X.A X.stack s H:=
 ⟨I.ok.frames,I.ok.mod,I.bs,Nat.le_trans I.ok.bsz I.sz,I.stack,I.stkFree,I.hok,I.bare⟩
theorem Inv.after {Q:VK} {u:Value} (I:Inv X pins σ H s) (h:CE X.stack X.prog X.w H s Q u s'):EP X pins σ Q u s':=by
 obtain ⟨v,H',os,bare,un,hok,r,q⟩:=h
 obtain ⟨hh,g,d,t,os'⟩:=s'
 obtain rfl:os'=s.os:=os
 exact ⟨v,H',I.call (h':=hh) (g':=g) (d':=d) (t':=t) (ch:=[]) un hok bare (fun b z=>absurd z (by simp)),r,q⟩
end
noncomputable def iQ (sp:Sp) (dvs:List V) (E:XK) (t:TA):TE:=fun σ H Q=>t σ H fun vs H1=>sp (vs++dvs) H1 Q E
noncomputable def Binds (K:PySem.W.Frag) (fd:FuncData) (ps:List Str) (ds:List Value):Prop:=
 ∀(s:Shared) (us:List Value),K.In s.heap->(us++ds).length=ps.length->BindsTo s fd ⟨us,[]⟩ (ps.zip (us++ds))
theorem Binds.all {K:PySem.W.Frag} {fd:FuncData} {ps:List Str} (h:∀us:List Value,us.length=ps.length->bindArgs fd ⟨us,[]⟩=pure (ps.zip us)):Binds K fd ps []:=fun s us _ hl=>by
 rw [List.append_nil] at hl ⊢
 exact .of_eq (h us hl)
noncomputable def m8 (CX:CXT) (X:Cx) (E:XK):Prop:=∀(pins:List (Addr×Obj)) (σ:St) (H:Hp) (s:Shared) (e:Value) (s':Shared),Inv X pins σ H s->CX X.stack H s E e s'->X.xe e s'
section
variable {X:Cx} {CX:CXT} {k:Nat} {f C:Addr} {fd:FuncData} {ps:List Str} {sp:Sp} {dvs:List V} {ds:List Value} {E:XK} {x m:Str} {p pos apos:Pos} {e o:Expr} {es:List Expr} {ta:TE} {t:TA}
theorem zP {pins:List (Addr×Obj)} {σ:St} {H:Hp} {s:Shared} {Q:VK} {us:List Value} {vs:List V} (F:hW X.prog X.w X.K X.mg X.base CX k f fd ps sp) (hr:bV k X.A) (hb:Binds X.K fd ps ds) (hd:Vals dvs ds) (hx:m8 CX X E)
  (I:Inv X pins σ H s) (r:Vals vs us) (h:sp (vs++dvs) H Q E):wpAny (model X.prog X.w) X.A (call (.ref f) us) (EP X pins σ Q) X.xe s:=by
 have r2:Vals (vs++dvs) (us++ds):=r.append hd
 have hl:(us++ds).length=ps.length:=by rw [<- r2.length];exact F.len _ _ _ _ h
 refine wpAny_call (codeAny_mono (F.run X.A X.stack s H ⟨us,[]⟩ (us++ds) (vs++dvs) Q E hr I.env0 (hb s us I.kIn hl) r2 h) fun r s' hq=>?_)
 cases r with
 | error e=>exact hx pins σ H s e s' I hq
 | ok fl=>
  cases fl with
  | ret u=>exact I.after hq
  | next=>exact False.elim hq
  | brk=>exact False.elim hq
  | cont=>exact False.elim hq
theorem oD (F:hW X.prog X.w X.K X.mg X.base CX k f fd ps sp) (hr:bV k X.A) (hg:Gl X x) (hm:X.mg x=some (.ref f)) (hk:PySem.W.keepIn X.K (.ref f)=true) (hb:Binds X.K fd ps ds) (hd:Vals dvs ds) (hx:m8 CX X E)
  (ha:PA X (e::es) t) (hdb:(x==("__debug__":Str))=false:=by decide) (he:starEach (e::es) X.env=(false,eval e X.env)::starEach es X.env:=by rfl) (hpl:(backTo pos (starEach es X.env)).any (·.1)=false:=by rfl) :
  PE X (.Call (.Name x p) (e::es) [] pos) (iQ sp dvs E t):=by
 intro pins s σ H Q I h
 refine wpAny_Call_Name_kw (fC I hg hm ?_ hdb)
 refine PySem.W.callWith_K (h₀:=X.base) I.ok.mod.kin hk (thn (ha pos pins s σ H _ I h) fun us s1 ⟨vs,H1,I1,r,q⟩=>⟨I1.kIn,?_⟩) he hpl
 exact zP F hr hb hd hx I1 r q
end
structure aF (N P:List Str) (sc:Scope):Prop where
 kind:sc.kind=.function
 co:sc.isCoroutine=false
 gen:sc.isGenerator=false
 nd:N.Nodup
 pre:N.take P.length=P
 par:∀x∈P,sc.names.lookup x=some .local\/sc.names.lookup x=some .cell
 nofree:∀y∈sc.names,y.2≠.free
theorem jJ {kindOf:Str->Option NameKind} {x:Str}:∀{binds:List (Str×Value)} {m:Str->Option Value},(∀v,(x,v)∉binds)->bindL kindOf binds m x=m x
 | [],_,_=>rfl
 | (n,v)::r,m,h=>by
  unfold bindL
  rw [jJ fun w hw=>h w (List.mem_cons_of_mem _ hw)]
  split
  ·have:x≠n:=by rintro rfl;exact h v List.mem_cons_self
   simp [this]
  ·rfl
theorem jK {kindOf:Str->Option NameKind} {x:Str}:∀{binds:List (Str×Value)} {m:Str->Option Value},(∀v,(x,v)∉binds)->bindC kindOf binds m x=m x
 | [],_,_=>rfl
 | (n,v)::r,m,h=>by
  unfold bindC
  rw [jK fun w hw=>h w (List.mem_cons_of_mem _ hw)]
  split
  ·rfl
  ·have:x≠n:=by rintro rfl;exact h v List.mem_cons_self
   simp [this]
theorem jL {kindOf:Str->Option NameKind} {x:Str} {v:Value}:∀{P:List Str} {vs:List Value} {i:Nat} {m:Str->Option Value},P.Nodup->P[i]?=some x->vs[i]?=some v->kindOf x=some .local ->
  bindL kindOf (P.zip vs) m x=some v
 | [],_,_,_,_,h,_,_=>by simp at h
 | _::_,[],_,_,_,_,h,_=>by simp at h
 | p::P,w::vs,0,m,nd,h1,h2,hk=>by
  simp at h1 h2;subst h1;subst h2
  show bindL kindOf ((p,w)::P.zip vs) m p=_
  unfold bindL
  rw [jJ fun v hv=>(List.nodup_cons.mp nd).1 (List.of_mem_zip hv).1,if_pos hk]
  simp
 | p::P,w::vs,i+1,m,nd,h1,h2,hk=>by
  show bindL kindOf ((p,w)::P.zip vs) m x=_
  unfold bindL
  exact jL (i:=i) (List.nodup_cons.mp nd).2 (by simpa using h1) (by simpa using h2) hk
theorem jM {kindOf:Str->Option NameKind} {x:Str} {v:Value}:∀{P:List Str} {vs:List Value} {i:Nat} {m:Str->Option Value},P.Nodup->P[i]?=some x->vs[i]?=some v->kindOf x≠some .local ->
  bindC kindOf (P.zip vs) m x=some v
 | [],_,_,_,_,h,_,_=>by simp at h
 | _::_,[],_,_,_,_,h,_=>by simp at h
 | p::P,w::vs,0,m,nd,h1,h2,hk=>by
  simp at h1 h2;subst h1;subst h2
  show bindC kindOf ((p,w)::P.zip vs) m p=_
  unfold bindC
  rw [jK fun v hv=>(List.nodup_cons.mp nd).1 (List.of_mem_zip hv).1,if_neg hk]
  simp
 | p::P,w::vs,i+1,m,nd,h1,h2,hk=>by
  show bindC kindOf ((p,w)::P.zip vs) m x=_
  unfold bindC
  exact jM (i:=i) (List.nodup_cons.mp nd).2 (by simpa using h1) (by simpa using h2) hk
noncomputable def start (N:List Str) (vs:List V):St:=vs.map some++List.replicate (N.length-vs.length) none
noncomputable def hZ (CX:CXT) (P:Program) (w:World) (K:PySem.W.Frag) (mg:Str->Option Value) (base:Heap) (N:List Str) (qual:Str) (scope:Scope) (f:Addr) (cd:Value) (A:Around) (outer:List Env) (s:Shared) (H:Hp) (E:XK):Cx where
 prog:=P
 w:=w
 K:=K
 mg:=mg
 base:=base
 A:=A.deeper (envOfC qual scope s.heap.objs.size f cd)
 N:=N
 s₀:=s
 H₀:=H
 env:=envOfC qual scope s.heap.objs.size f cd
 outer:=outer
 stack:=envOfC qual scope s.heap.objs.size f cd::outer
 ex:=[]
 calm:=true
 fn:=fun _=>true
 pn:=[]
 xe:=fun e s'=>wpAny (model P w) (A.deeper (envOfC qual scope s.heap.objs.size f cd)) (leaving (envOfC qual scope s.heap.objs.size f cd) e) (fun _ s''=>CX outer H s E e s'') (fun e' s''=>CX outer H s E e' s'') s'
theorem lP {sc:Scope} {n:Nat} {x:Str} (h:sc.names.lookup x=some .cell):∃c,(cellsFrom n sc.names []).lookup x=some c:=by
 have q:=PySem.W.cellsFrom_some sc.names n [] (.inl h)
 exact Option.isSome_iff_exists.mp q
theorem pV {CX:CXT} {P:Program} {w:World} {K:PySem.W.Frag} {mg:Str->Option Value} {base:Heap} {N ps:List Str} {qual:Str} {scope:Scope} {f:Addr} {cd:Value} {A:Around} {outer:List Env} {s s1:Shared} {H:Hp} {E:XK} {us:List Value} {vs:List V}
  (S:aF N ps scope) (hd:A.handled=none) (e0:Env0 P w K mg base A outer s H) (hl:vs.length=ps.length) (r:Vals vs us)
  (x:InCallC s s.heap.objs.size (bindL (envOfC qual scope s.heap.objs.size f cd).kindOf (ps.zip us) fun _=>none) (cellsFrom (s.heap.objs.size+1) scope.names []) (bindC (envOfC qual scope s.heap.objs.size f cd).kindOf (ps.zip us) fun _=>none) s1) :
  Inv (hZ CX P w K mg base N qual scope f cd A outer s H E) [] (start N vs) H s1:=by
 have hpl:ps.length<=N.length:=by have:=congrArg List.length S.pre;rw [List.length_take] at this;omega
 obtain ⟨h1,tk,rfl,hk⟩:=x.done
 have noA:∀b:Addr,b∉(hZ CX P w K mg base N qual scope f cd A outer s H E).ex:=fun b z=>absurd (show b∈([]:List Addr) from z) (by simp)
 refine ⟨⟨e0.mod,S.kind,rfl,rfl,Nat.le_refl _,fun y z c h1 h2=>?_,fun y hy=>?_,fun y c _ h=>?_,fun _=>hd,Around.frames_deeper e0.frames,.inr ⟨rfl,rfl⟩,fun b z=>absurd z (noA b),e0.bs,e0.bsz,fun b _ _=>noA b,fun b z=>absurd z (noA b),e0.funs,e0.frf⟩,
  rfl,e0.bare,Un.kept hk,⟨_,x.toInCall.ns,fun i y v h1 h2 h3=>?_⟩,fun y c h=>⟨_,x.cell y c h⟩,e0.hok.fresh (Nat.le_refl _),fun y c h=>?_,fun p hp=>absurd (show p∈([]:List (Addr×Obj)) from hp) (by simp),e0.hok.kept hk,?_⟩
 ·exact name_of_addr x.apart (PySem.mem_of_lookup h1) (PySem.mem_of_lookup h2)
 ·have hy:scope.names.lookup y=some .cell\/scope.names.lookup y=some .free:=hy
  rcases hy with hy | hy
  ·exact lP hy
  ·exact absurd rfl (S.nofree _ (PySem.mem_of_lookup hy))
 ·exact Nat.le_of_lt (x.above y c (PySem.mem_of_lookup h))
 ·have hi:i < vs.length:=by
   unfold start at h2
   by_cases hi:i < vs.length
   ·exact hi
   ·rw [List.getElem?_append_right (by simpa using hi)] at h2
    rw [List.getElem?_replicate] at h2
    split at h2 <;> cases h2
  have ha:vs[i]?=some v:=by
   unfold start at h2
   rw [List.getElem?_append_left (by simpa using hi),List.getElem?_map] at h2
   cases e:vs[i]? with
   | none=>rw [e] at h2;cases h2
   | some a=>rw [e] at h2;cases h2;rfl
  obtain ⟨u,hu,rv⟩:=r.get ha
  have hp:ps[i]?=some y:=by
   rw [<- S.pre,List.getElem?_take_of_lt (by omega)];exact h1
  have ndP:ps.Nodup:=by rw [<- S.pre];exact S.nd.sublist (List.take_sublist _ _)
  refine ⟨u,rv,?_⟩
  rcases S.par y (List.mem_of_getElem? hp) with k | k
  ·exact .inl ⟨k,jL ndP hp hu k⟩
  ·obtain ⟨c,e⟩:=lP (n:=s.heap.objs.size+1) k
   refine .inr ⟨.inl k,c,e,?_⟩
   have q:=x.cell y c e
   rw [jM ndP hp hu (by show scope.names.lookup y≠_;rw [k];decide)] at q
   exact q
 ·exact e0.hok.fresh (Nat.le_of_lt (x.above y c (PySem.mem_of_lookup h)))
 ·unfold start
  show _=N.length
  rw [List.length_append,List.length_map,List.length_replicate]
  omega
theorem yg {CX:CXT} {P:Program} {w:World} {K:PySem.W.Frag} {mg:Str->Option Value} {base:Heap} {k:Nat} {f:Addr} {name qual:Str} {params:Arguments} {body:List Stmt} {scope:Scope} {dV kV doc pm cdv ct oc:Value} {an od:Option Addr}
  {osl:Array (Option Value)} {N ps:List Str} {sp:Sp} (lk:K.lookup f=some ⟨oc,od,.func (PySem.W.fnOf name qual params body scope dV kV doc pm an cdv ct),osl⟩) (hcd:PySem.W.codeIn K cdv qual=true) (S:aF N ps scope)
  (len:∀vs H Q E,sp vs H Q E->vs.length=ps.length)
  (hbody:∀(A:Around) (outer:List Env) (s:Shared) (H:Hp) (vs:List V) (Q:VK) (E:XK),bV k (A.deeper (envOfC qual scope s.heap.objs.size f cdv))->sp vs H Q E ->
   ∃t,PSs (hZ CX P w K mg base N qual scope f cdv A outer s H E) body t/\t { nx:=fun _ H'=>Q .non H',rt:=Q } (start N vs) H) :
  hW P w K mg base CX (k+1) f (PySem.W.fnOf name qual params body scope dV kV doc pm an cdv ct) ps sp:=by
 refine ⟨len,fun A outer s H args us vs Q E hr e0 hb r hsp=>?_⟩
 have hl:=len _ _ _ _ hsp
 have KX:K.In s.heap:=e0.mod.kin.keeps fun b o e=>(e0.bs b o e).1
 have lim:s.heap.NoLimit:=e0.mod.nolimit.keeps fun b o e=>(e0.bs b o e).1
 have hkind:∀y∈ps.zip us,scope.names.lookup y.1=some .local\/(scope.names.lookup y.1=some .cell/\((cellsFrom (s.heap.objs.size+1) scope.names []).lookup y.1).isSome=true):=fun ⟨n,v⟩ hy=>by
  rcases S.par n (List.of_mem_zip hy).1 with q | q
  ·exact .inl q
  ·exact .inr ⟨q,PySem.W.cellsFrom_some _ _ _ (.inl q)⟩
 refine codeAny_call_function hr.depth (KX _ _ lk) rfl S.co S.gen rfl (PySem.W.codeRec_of KX hcd) (hb _ _ _ _ ?_)
 refine wpAny_newFunctionEnv_cells S.kind hkind fun env he s1 x=>?_
 subst he
 refine ⟨lim.keeps x.toInCall.keep,codeAny_func ?_⟩
 obtain ⟨t,ht,hq⟩:=hbody A outer s H vs Q E (hr.deeper _) hsp
 have I:Inv (hZ CX P w K mg base N qual scope f cdv A outer s H E) [] (start N vs) H s1:=pV S hr.hd e0 hl r x
 refine wpAny_mono (ht [] s1 (start N vs) H _ I hq) (fun fl s' hs=>?_) fun e s' hs=>hs
 have fin:∀{σ':St} {H':Hp} {v:V} {u:Value},Inv (hZ CX P w K mg base N qual scope f cdv A outer s H E) [] σ' H' s'->RelV v u->Q v H'->CE outer P w H s Q u s':=
  fun {σ' H' v u} J rv q=>⟨v,H',J.os,J.bare,J.base,J.hok,rv,q⟩
 cases fl with
 | ret u=>
  obtain ⟨v,σ',H',J,rv,q⟩:=hs
  exact fin J rv q
 | next=>
  obtain ⟨σ',H',J,q⟩:=hs
  exact fin (v:=V.non) (u:=Value.none) J rfl q
 | brk=>
  obtain ⟨_,_,_,q⟩:=hs
  exact False.elim q
 | cont=>
  obtain ⟨_,_,_,q⟩:=hs
  exact False.elim q
end L2
namespace L2
open PySem PySem.Spec PyProof.Rows
section
variable {X:Cx} {x:Str} {p pos:Pos} {e:Expr} {es:List Expr} {t:TA} {id T:String} {r:List V->Hp->VK->Prop}
noncomputable def tCB (r:List V->Hp->VK->Prop) (t:TA):TE:=fun σ H Q=>t σ H fun vs H1=>r vs H1 Q
theorem fD (hc:cQ X (.builtin id) r) (hg:Gl X x) (hm:X.mg x=none) (hv:bootBuiltins x=some (.builtin id)) (ha:PA X (e::es) t) (hn:x≠"__name__":=by decide) (hdb:(x==("__debug__":Str))=false:=by decide)
  (he:starEach (e::es) X.env=(false,eval e X.env)::starEach es X.env:=by rfl) (hpl:(backTo pos (starEach es X.env)).any (·.1)=false:=by rfl):PE X (.Call (.Name x p) (e::es) [] pos) (tCB r t):=by
 intro pins s σ H Q I h
 refine wpAny_Call_Name_kw (iK I hg hm hv ?_ hn hdb)
 exact PyProof.Rows.callWith_builtin1 (thn (ha pos pins s σ H _ I h) fun us s1 zt1=>by obtain ⟨vs,H1,I1,r1,q1⟩:=zt1;exact hc pins s1 σ H1 vs us Q I1 r1 q1) he hpl
theorem gv (hc:cQ X (.type T) r) (hg:Gl X x) (hm:X.mg x=none) (hv:bootBuiltins x=some (.type T)) (ha:PA X (e::es) t) (hn:x≠"__name__":=by decide) (hdb:(x==("__debug__":Str))=false:=by decide)
  (he:starEach (e::es) X.env=(false,eval e X.env)::starEach es X.env:=by rfl) (hpl:(backTo pos (starEach es X.env)).any (·.1)=false:=by rfl):PE X (.Call (.Name x p) (e::es) [] pos) (tCB r t):=by
 intro pins s σ H Q I h
 refine wpAny_Call_Name_kw (iK I hg hm hv ?_ hn hdb)
 exact PyProof.Rows.callWith_type1 (thn (ha pos pins s σ H _ I h) fun us s1 zt1=>by obtain ⟨vs,H1,I1,r1,q1⟩:=zt1;exact hc pins s1 σ H1 vs us Q I1 r1 q1) he hpl
end
end L2
namespace HT
open PySem PyProof.Rows
noncomputable def lexLt:List Int->List Int->Bool
 | [],[]=>false
 | [],_::_=>true
 | _::_,[]=>false
 | x::xs,y::ys=>if x=y then lexLt xs ys else decide (x < y)
theorem cS (x y:Int) (xs ys:List Int):lexLt (x::xs) (y::ys)=if x=y then lexLt xs ys else decide (x < y):=rfl
section
variable {prog:Program} {w:World} {A:Around} {E:Value->Shared->Prop} {s:Shared}
theorem vD {t b:Addr} {vs ws:List Value} {Q:Value->Shared->Prop} (ht:IsTup s.heap t vs.toArray) (hb:IsTup s.heap b ws.toArray) (hv:vs≠[])
  (h1:ws=[]->Q (.ref t) s) (h2:ws≠[]->Q (.ref s.heap.objs.size) { s with heap:=s.heap.push { cls:=.type "tuple",data:=.seq (vs++ws).toArray } })
  (hsz:vs.length+ws.length<=sizeLine):wpAny (model prog w) A (binaryOp .Add (.ref t) (.ref b)) Q E s:=by
 obtain ⟨⟨cls,dd,data,sl⟩,ho,hc,n,hd⟩:=id ht
 obtain ⟨⟨cls2,dd2,data2,sl2⟩,ho2,hc2,n2,hd2⟩:=id hb
 simp only at hc hd hc2 hd2
 subst hc hd hc2 hd2
 have e:vs.toArray++ws.toArray=(vs++ws).toArray:=by simp
 by_cases hw:ws=[]
 ·exact concat_meets ⟨_,ho,rfl⟩ ⟨_,ho2,rfl⟩ noFill_tuple_add seq_tuple_add PySem.F.slot_tuple_add PySem.F.entry_tuple_add (PySem.F.args_tuple_add_2 _ _)
   (tuple_addW1 t b vs.toArray ws.toArray n n2 dd dd2 sl sl2 (by simpa using hv) (by simp [hw])) ⟨ho,ho2,h1 hw⟩
 ·refine concat_meets ⟨_,ho,rfl⟩ ⟨_,ho2,rfl⟩ noFill_tuple_add seq_tuple_add PySem.F.slot_tuple_add PySem.F.entry_tuple_add (PySem.F.args_tuple_add_2 _ _)
   (tuple_addW2 t b vs.toArray ws.toArray n n2 dd dd2 sl sl2 (by simpa using hv) (by simpa using hw) (by rw [List.size_toArray,List.size_toArray];exact hsz)) ⟨ho,ho2,?_⟩
  rw [e]
  exact h2 hw
end
end HT
namespace L2
open PySem PySem.Spec PyProof.Rows
theorem intsAre_of {ns:List Int}:∀{us:List Value},Vals (ns.map V.int) us->IntsAre us ns:=by
 induction ns with
 | nil=>intro us r;rw [List.map_nil] at r;cases r;exact .nil
 | cons n ns ih=>
  intro us r
  rw [List.map_cons] at r
  cases r with
  | cons r1 r2=>
   obtain ⟨t,e⟩:=r1
   subst e
   exact .cons n t (ih r2)
section
variable {X:Cx} {e:Expr} {te:TE} {lo hi:Option Expr} {tl th:TO} {pos p2:Pos}
noncomputable def yh (K:PySem.W.Frag):R2:=fun x y H Q=>∃a b xs ys,x=.ref a/\y=.ref b/\SqT K H a xs/\SqT K H b ys/\xs≠[]/\xs.length+ys.length<=sizeLine /\
 (ys=[]->Q (.ref a) H)/\(ys≠[]->∀p,H p=none->Q (.ref p) (upd H p (.tup (xs++ys))))
theorem Vals.nil_iff {xs:List V} {us:List Value} (r:Vals xs us):us=[]↔xs=[]:=by
 cases r with
 | nil=>simp
 | cons _ _=>simp
theorem vE:OpR X (binaryOp .Add) (yh X.K):=by
 intro pins s σ H x y v u Q I rx ry h
 obtain ⟨a,b,xs,ys,rfl,rfl,ha,hb,hx,hz,q1,q2⟩:=h
 cases rx
 cases ry
 obtain ⟨its,r1,p1,_⟩:=I.tuple ha
 obtain ⟨its2,r2,p2,_⟩:=I.tuple hb
 refine HT.vD p1 p2 (fun z=>hx (r1.nil_iff.mp z)) (fun z=>⟨.ref a,H,I,rfl,q1 (r2.nil_iff.mp z)⟩) (fun z=>?_) (by rw [<- r1.length,<- r2.length];exact hz)
 refine ⟨.ref s.heap.objs.size,_,I.laid (t':=s.toks) (o:=.tup (xs++ys)) (fun b ob q=>Heap.get?_push_of_some _ q) (Nat.le_refl _) ?_,rfl,q2 (fun w=>z (r2.nil_iff.mpr w)) _ (I.hok.fresh (Nat.le_refl _))⟩
 exact ⟨by rw [List.length_append];exact hz,_,r1.append r2,IsTup.new _ _⟩
end
end L2
namespace L2
open PySem PySem.Spec PyProof.Rows
noncomputable def ixN (n:Nat) (i:Int):Option Nat:=if 0<=i then (if i < n then some i.toNat else none) else if -(n:Int)<=i then some (i+n).toNat else none
noncomputable def atI {α:Type} (xs:List α) (i:Int):Option α:=(ixN xs.length i).bind fun j=>xs[j]?
theorem oE {n:Nat} {i:Int} {j:Nat} (h:ixN n i=some j):seqIndex? i n=some j/\j < n/\-(n:Int)<=i/\i < n:=by
 unfold ixN at h
 by_cases h0:0<=i
 ·rw [if_pos h0] at h
  by_cases h1:i < n
  ·rw [if_pos h1] at h
   have e:i.toNat=j:=Option.some.inj h
   exact ⟨by rw [seqIndex_of h0 h1,e],by omega,by omega,h1⟩
  ·rw [if_neg h1] at h;cases h
 ·rw [if_neg h0] at h
  by_cases h1:-(n:Int)<=i
  ·rw [if_pos h1] at h
   have e:(i+n).toNat=j:=Option.some.inj h
   exact ⟨by rw [seqIndex_neg (by omega) h1,e],by omega,h1,by omega⟩
  ·rw [if_neg h1] at h;cases h
theorem ku {α:Type} {xs:List α} {i:Int} {v:α} (h:atI xs i=some v):∃j,seqIndex? i xs.length=some j/\xs[j]?=some v/\j < xs.length/\-(xs.length:Int)<=i/\i < xs.length:=by
 unfold atI at h
 cases e:ixN xs.length i with
 | none=>rw [e] at h;cases h
 | some j=>
  rw [e] at h
  obtain ⟨h1,h2,h3,h4⟩:=oE e
  exact ⟨j,h1,h,h2,h3,h4⟩
theorem cB {α:Type} {xs:List α} {j:Nat} {v:α} (h:xs[j]?=some v):atI xs (j:Int)=some v:=by
 have hj:j < xs.length:=(List.getElem?_eq_some_iff.mp h).1
 have e:ixN xs.length (j:Int)=some j:=by
  unfold ixN
  rw [if_pos (by omega),if_pos (by omega)];simp
 unfold atI;rw [e];exact h
noncomputable def dJ (b:Expr):Prop:=∀o i,subscripted b false o i=operate [o,i] (getItem o i)
noncomputable def IxR (X:Cx) (r:R2):Prop:=
 ∀(value slice:Expr) (pins:List (Addr×Obj)) (s:Shared) (σ:St) (H:Hp) (x y:V) (v u:Value) (Q:VK),Inv X pins σ H s->RelV x v->RelV y u->r x y H Q ->
  subscripted slice false v u=operate [v,u] (getItem v u)->wpAny (model X.prog X.w) X.A (subscriptTail value slice v u) (EP X pins σ Q) X.xe s
noncomputable def MtR (X:Cx) (id:String) (r:V->List V->Hp->VK->Prop):Prop:=
 ∀(pins:List (Addr×Obj)) (s:Shared) (σ:St) (H:Hp) (x:V) (xs:List V) (v:Value) (us:List Value) (Q:VK),Inv X pins σ H s->RelV x v->Vals xs us->r x xs H Q ->
  wpAny (model X.prog X.w) X.A (call (.builtin id) (v::us)) (EP X pins σ Q) X.xe s
section
variable {X:Cx} {a b:Expr} {ta tb:TE} {pos:Pos}
theorem IxR.or {r r':R2} (h:IxR X r) (h':IxR X r'):IxR X (fun x y H Q=>r x y H Q\/r' x y H Q):=by
 intro value slice pins s σ H x y v u Q I rx ry q hs
 rcases q with q | q
 ·exact h value slice pins s σ H x y v u Q I rx ry q hs
 ·exact h' value slice pins s σ H x y v u Q I rx ry q hs
theorem oF {r:R2} (hr:IxR X r) (ha:PE X a ta) (hb:PE X b tb) (hs:dJ b):PE X (.Subscript a b pos) (tOp r ta tb):=by
 intro pins s σ H Q I h
 exact Subscript_ (zJ ha hb I h fun v u s2 x y H2 I2 rx ry q=>hr a b pins s2 σ H2 x y v u Q I2 rx ry q (hs _ _))
noncomputable def Cf (K:PySem.W.Frag):R2:=fun x y H Q=>∃p xs i v,x=.ref p/\y=.int i/\SqL K H p xs/\atI xs i=some v/\Q v H
noncomputable def Cg (K:PySem.W.Frag):R2:=fun x y H Q=>∃p xs i v,x=.ref p/\y=.int i/\SqT K H p xs/\atI xs i=some v/\Q v H
noncomputable def Ci:R2:=fun x y H Q=>∃z i c,x=.str z/\y=.int i/\z.length<=sizeLine/\atI z.cps.toList i=some c/\Q (.str ⟨#[c]⟩) H
theorem vF:IxR X (Cf X.K):=by
 intro value slice pins s σ H x y v u Q I rx ry h hs
 obtain ⟨p,xs,i,z,rfl,rfl,hq,he,q⟩:=h
 cases rx
 obtain ⟨t,rfl⟩:=ry
 obtain ⟨its,r,pl,hz⟩:=I.list hq
 obtain ⟨j,h1,h2,h3,h4,h5⟩:=ku he
 obtain ⟨w,ew,rw'⟩:=r.get h2
 have hl:=r.length
 have hn:=gu
 have fin:EP X pins σ Q w s:=⟨z,H,I,rw',q⟩
 by_cases h0:0<=i
 ·have hj:i.toNat=j:=by
   rw [seqIndex_of h0 h5] at h1
   exact Option.some.inj h1
  exact item_listR pl.isList h0 (by omega) (by rw [hj];simpa using ew) fin hs
 ·have hj:(i+(its.toArray.size:Int)).toNat=j:=by
   rw [seqIndex_neg (by omega) h4] at h1
   rw [List.size_toArray,<- hl]
   exact Option.some.inj h1
  exact subscriptTail_builtinR (x:=w) pl.isList.typeIs slot_list_getitem.lookup
   (wpAny_getItem_list_neg (Q:=fun r s'=>r=w/\EP X pins σ Q r s') pl.isList (by omega) (by rw [List.size_toArray] <;> omega) (by omega) (by rw [hj];simpa using ew) ⟨rfl,fin⟩) hs
theorem zQ:IxR X (Cg X.K):=by
 intro value slice pins s σ H x y v u Q I rx ry h hs
 obtain ⟨p,xs,i,z,rfl,rfl,hq,he,q⟩:=h
 cases rx
 obtain ⟨t,rfl⟩:=ry
 obtain ⟨its,r,pl,hz⟩:=I.tuple hq
 obtain ⟨j,h1,h2,h3,h4,h5⟩:=ku he
 obtain ⟨w,ew,rw'⟩:=r.get h2
 have hl:=r.length
 have hn:=gu
 have fin:EP X pins σ Q w s:=⟨z,H,I,rw',q⟩
 exact subscriptTail_builtinR (x:=w) pl.typeIs slot_tuple_getitem.lookup
  (getItem_tuple (j:=j) (Q:=fun r s'=>r=w/\EP X pins σ Q r s') pl (by omega) (by omega) (by rw [List.size_toArray,<- hl];exact h1) (by simpa using ew) ⟨rfl,fin⟩) hs
theorem zR:IxR X Ci:=by
 intro value slice pins s σ H x y v u Q I rx ry h hs
 obtain ⟨z,i,c,rfl,rfl,hz,he,q⟩:=h
 obtain ⟨t,rfl⟩:=rx
 obtain ⟨t',rfl⟩:=ry
 obtain ⟨j,h1,h2,h3,h4,h5⟩:=ku he
 have hl:z.cps.toList.length=z.length:=by simp [Str.length]
 rw [hl] at h1 h4 h5
 have hn:=gu
 exact tail_any (typeIs_str s z t) slot_str_getitem.lookup (getItem_str (c:=c) (by
  have e1:decide (i < -(2 ^ 63:Int))=false:=decide_eq_false (by omega)
  have e2:decide (i >= 2 ^ 63)=false:=decide_eq_false (by omega)
  rw [e1,e2,Bool.or_false]) (by rw [h1];simpa using h2) ⟨.str ⟨#[c]⟩,H,I.tok _,⟨_,rfl⟩,q⟩) hs
noncomputable def rIx (K:PySem.W.Frag):R2:=fun x y H Q=>Cf K x y H Q\/Cg K x y H Q\/Ci x y H Q
theorem zS:IxR X (rIx X.K):=vF.or (zQ.or zR)
theorem m9 (its:List Value) (n j:Nat) (u:Value):Obj.mapSeq (·.setIfInBounds j u) { cls:=.type "list",data:=.seq its.toArray n }={ cls:=.type "list",data:=.seq (its.set j u).toArray n }:=by
 simp [Obj.mapSeq]
theorem Inv.lst {pins:List (Addr×Obj)} {σ:St} {H:Hp} {s:Shared} {p:Addr} {xs:List V} (I:Inv X pins σ H s) (h:H p=some (.lst xs)) :
  ∃(its:List Value) (n:Nat),Vals xs its/\s.heap.get? p=some { cls:=.type "list",data:=.seq its.toArray n }/\xs.length<=sizeLine:=by
 obtain ⟨z,its,n,r,e⟩:=I.hok p _ h
 exact ⟨its,n,r,e,z⟩
theorem Inv.lstUpd {pins:List (Addr×Obj)} {σ:St} {H:Hp} {s:Shared} {p:Addr} {xs ys:List V} {its its':List Value} {n n':Nat} {f:Obj->Obj} (I:Inv X pins σ H s) (h:H p=some (.lst xs))
  (ho:s.heap.get? p=some { cls:=.type "list",data:=.seq its.toArray n }) (hf:f { cls:=.type "list",data:=.seq its.toArray n }={ cls:=.type "list",data:=.seq its'.toArray n' }) (r:Vals ys its') (hz:ys.length<=sizeLine) (t:Nat) :
  Inv X pins σ (upd H p (.lst ys)) { s with heap:=s.heap.update p f,toks:=t }:=by
 have e:(s.heap.update p f).get? p=some { cls:=.type "list",data:=.seq its'.toArray n' }:=by
  rw [Heap.get?_update_self f ho (by rw [hf] <;> rfl),hf]
 refine I.write (x:=p) (e:=p) (by rw [h];trivial) (.inl rfl) (fun b u hb q=>(Heap.get?_update_other _ _ (Ne.symm hb)).trans q) ⟨_,e⟩ ?_
 exact ⟨hz,its',n',r,e⟩
noncomputable def qT:V->V->V->Hp->(Hp->Prop)->Prop:=fun o i v H Q=>∃p xs k j,o=.ref p/\i=.int k/\H p=some (.lst xs)/\ixN xs.length k=some j/\Q (upd H p (.lst (xs.set j v)))
theorem set_list:B7 X qT:=by
 intro pins s σ H o i v ov iv u Q I ro ri rv h
 obtain ⟨p,xs,k,j,rfl,rfl,hp,hj,q⟩:=h
 cases ro
 obtain ⟨t,rfl⟩:=ri
 obtain ⟨its,n,r,ho,hz⟩:=I.lst hp
 obtain ⟨h1,h2,h3,h4⟩:=oE hj
 have hl:=r.length
 have hn:=gu
 have I':Inv X pins σ (upd H p (.lst (xs.set j v))) { s with heap:=s.heap.update p (Obj.mapSeq (·.setIfInBounds j u)) }:=
  I.lstUpd hp ho (m9 its n j u) (r.set rv j) (by rw [List.length_set];exact hz) s.toks
 by_cases h0:0<=k
 ·have hk:k.toNat=j:=by
   rw [seqIndex_of h0 h4] at h1
   exact Option.some.inj h1
  exact PySem.W.ki_setAt ho h0 (by omega) (by rw [List.size_toArray,<- hl];exact h4) (by rw [hk];exact ⟨_,I',q⟩)
 ·have hk:(k+(its.toArray.size:Int)).toNat=j:=by
   rw [seqIndex_neg (by omega) h3] at h1
   rw [List.size_toArray,<- hl]
   exact Option.some.inj h1
  exact PySem.W.ki_setBack ho (by omega) (by rw [List.size_toArray,<- hl];exact h3) (by omega) (by rw [hk];exact ⟨_,I',q⟩)
theorem kz:cQ X (.builtin "len") (fun xs H Q=>∃p ys,xs=[.ref p]/\(SqL X.K H p ys\/SqT X.K H p ys)/\Q (.int ys.length) H):=by
 intro pins s σ H xs us Q I r h
 obtain ⟨p,ys,rfl,hq,q⟩:=h
 obtain ⟨u,rfl,rx⟩:=vals1 r
 cases rx
 have hn:=gu
 rcases hq with hq | hq
 ·obtain ⟨its,r',pl,hz⟩:=I.list hq
  have hlen:=r'.length
  exact Calls.call_len_list pl.isList (by simp only [List.size_toArray] <;> omega) ⟨.int ys.length,H,I.tok _,⟨s.toks+1,by rw [List.size_toArray,hlen]⟩,q⟩
 ·obtain ⟨its,r',pl,hz⟩:=I.tuple hq
  have hlen:=r'.length
  exact len_tuple pl (by simp only [List.size_toArray] <;> omega) ⟨.int ys.length,H,I.tok _,⟨s.toks+1,by rw [List.size_toArray,hlen]⟩,q⟩
theorem kA:cQ X (.type "list") (fun xs H Q=>∃p ys,xs=[.ref p]/\(SqL X.K H p ys\/SqT X.K H p ys)/\∀l,H l=none->Q (.ref l) (upd H l (.lst ys))):=by
 intro pins s σ H xs us Q I r h
 obtain ⟨p,ys,rfl,hq,q⟩:=h
 obtain ⟨u,rfl,rx⟩:=vals1 r
 cases rx
 have fin:∀(its:List Value),Vals ys its->ys.length<=sizeLine->∀(h':Heap) (c':Nat),(∀b o',s.heap.get? b=some o'->h'.get? b=some o') ->
   h'.get? s.heap.objs.size=some { cls:=.type "list",dict:=none,data:=.seq its.toArray c',slots:=#[] }->EP X pins σ Q (.ref s.heap.objs.size) { s with heap:=h' }:=fun its r' hz h' c' kp e=>
  ⟨.ref s.heap.objs.size,_,I.laid (t':=s.toks) kp (Nat.le_refl _) (show bq X.prog X.w _ h' _ (.lst ys) from ⟨hz,its,c',r',e⟩),rfl,q _ (I.hok.fresh (Nat.le_refl _))⟩
 rcases hq with hq | hq
 ·obtain ⟨its,r',pl,hz⟩:=I.list hq
  have hlen:=r'.length
  obtain ⟨o,ho,hc,n,hd⟩:=pl.isList
  exact call_list_seq p (.inl rfl) ho hc hd (fun h' c' kp e=>fin its r' hz h' c' kp e) (by simp only [List.size_toArray] <;> omega)
 ·obtain ⟨its,r',pl,hz⟩:=I.tuple hq
  have hlen:=r'.length
  obtain ⟨o,ho,hc,n,hd⟩:=pl
  exact call_list_seq p (.inr rfl) ho hc hd (fun h' c' kp e=>fin its r' hz h' c' kp e) (by simp only [List.size_toArray] <;> omega)
theorem jD:cQ X (.type "tuple") (fun xs H Q=>∃p ys,xs=[.ref p]/\((SqL X.K H p ys/\∀l,H l=none->Q (.ref l) (upd H l (.tup ys)))\/(SqT X.K H p ys/\Q (.ref p) H))):=by
 intro pins s σ H xs us Q I r h
 obtain ⟨p,ys,rfl,h⟩:=h
 obtain ⟨u,rfl,rx⟩:=vals1 r
 cases rx
 rcases h with ⟨hq,q⟩ | ⟨hq,q⟩
 ·obtain ⟨its,r',pl,hz⟩:=I.list hq
  have hlen:=r'.length
  refine call_tuple_list pl.isList (fun h' kp=>?_) (by simp only [List.size_toArray] <;> omega)
  have I1:Inv X pins σ H { s with heap:=h' }:=I.kept (t':=s.toks) kp
  have I2:Inv X pins σ (upd H h'.objs.size (.tup ys)) { s with heap:=h'.push { cls:=.type "tuple",data:=.seq its.toArray } }:=
   I1.laid (t':=s.toks) (fun b o e=>Heap.get?_push_of_some _ e) (Nat.le_refl _) (show bq X.prog X.w _ _ _ (.tup ys) from ⟨hz,its,r',IsTup.new _ _⟩)
  exact ⟨.ref h'.objs.size,_,I2,rfl,q _ (I1.hok.fresh (Nat.le_refl _))⟩
 ·obtain ⟨its,r',pl,hz⟩:=I.tuple hq
  exact call_tuple_same pl ⟨.ref p,H,I,rfl,q⟩
noncomputable def tyV (K:PySem.W.Frag) (T:String) (x:V) (H:Hp):Prop:=match x with
 | .str _=>T="str"
 | .int _=>T="int"
 | .ref p=>(T="list"/\∃xs,SqL K H p xs)\/(T="tuple"/\∃o,K.lookup p=some o/\o.cls=.type "tuple"/\o.dict=none) \/
   (T="dict"/\((∃kvs,H p=some (.dK kvs))\/∃kvs,H p=some (.dT kvs)))\/(T="set"/\∃S n,H p=some (.set S n))
 | _=>False
theorem zT {pins:List (Addr×Obj)} {σ:St} {H:Hp} {s:Shared} {T:String} {x:V} {v:Value} (I:Inv X pins σ H s) (r:RelV x v) (ty:tyV X.K T x H) :
  s.TypeIs v T/\∀a,v=.ref a->∃ob,s.heap.get? a=some ob/\ob.dict=none:=by
 cases x with
 | str z=>
  obtain ⟨t,rfl⟩:=r
  cases (show T="str" from ty)
  exact ⟨typeIs_str s z t,fun _ e=>nomatch e⟩
 | int i=>
  obtain ⟨t,rfl⟩:=r
  cases (show T="int" from ty)
  exact ⟨typeIs_int s i t,fun _ e=>nomatch e⟩
 | ref p=>
  cases r
  rcases ty with ⟨rfl,xs,hq⟩ | ⟨rfl,o,hk,hc,hd⟩ | ⟨rfl,hk⟩ | ⟨rfl,S,n,hk⟩
  ·obtain ⟨its,_,pl,_⟩:=I.list hq
   refine ⟨pl.isList.typeIs,fun a e=>?_⟩
   cases e
   obtain ⟨o,n,e,c,hd,_⟩:=pl
   exact ⟨o,e,hd⟩
  ·refine ⟨⟨o,I.kIn p o hk,hc⟩,fun a e=>?_⟩
   cases e
   exact ⟨o,I.kIn _ o hk,hd⟩
  ·have z:∃o,s.heap.get? p=some o/\o.ExactDict:=by
    rcases hk with ⟨kvs,hk⟩ | ⟨kvs,hk⟩
    ·obtain ⟨_,_,_,_,o,_,_,e,ex,_⟩:=I.hok p _ hk
     exact ⟨o,e,ex⟩
    ·obtain ⟨_,_,_,_,o,_,_,e,ex,_⟩:=I.hok p _ hk
     exact ⟨o,e,ex⟩
   obtain ⟨o,e,ex⟩:=z
   refine ⟨⟨o,e,ex.1⟩,fun a e2=>?_⟩
   cases e2
   exact ⟨o,e,ex.2.1⟩
  ·obtain ⟨o,_,_,_,e,ex,_⟩:=I.hok p _ hk
   refine ⟨⟨o,e,ex.1⟩,fun a e2=>?_⟩
   cases e2
   exact ⟨o,e,ex.2.1⟩
 | _=>exact False.elim ty
noncomputable def tBM (K:PySem.W.Frag) (T:String) (r:V->List V->Hp->VK->Prop) (to:TE) (t:TA):TE:=fun σ H Q=>to σ H fun x H1=>tyV K T x H1/\t σ H1 fun xs H2=>r x xs H2 Q
variable {o e:Expr} {es:List Expr} {to:TE} {t:TA} {name:Str} {apos cpos:Pos} {T id:String} {r:V->List V->Hp->VK->Prop}
theorem Cj (pa:PlainAttrs T) (slot:Slot T name id) (hty:typeOf (.builtin id)=pure (.type "method_descriptor")) (hm:MtR X id r) (ho:PE X o to) (ha:PA X (e::es) t)
  (hbase:attributeBase o name X.env (eval o X.env)=eval o X.env:=by rfl)
  (hfew:((backTo cpos (starEach (e::es) X.env)).all (fun x=>!x.1)&&(backToKw cpos (keywordEach [] X.env)).all (fun x=>x.1.isSome)
   && decide ((e::es).length+([]:List Keyword).length+(if ([]:List Keyword).isEmpty then 0 else 1) < 30))=true:=by rfl)
  (hline:(apos.endLine==cpos.line)=true:=by rfl) (hs:starEach (e::es) X.env=(false,eval e X.env)::starEach es X.env:=by rfl) (hplain:(backTo cpos (starEach es X.env)).any (·.1)=false:=by rfl) :
  PE X (.Call (.Attribute o name apos) (e::es) [] cpos) (tBM X.K T r to t):=by
 intro pins s σ H Q I h
 refine wpAny_Call_method_late hbase hfew hline rfl (thn (ho pins s σ H _ I h) fun v s1 zr1=>?_)
 obtain ⟨x,H1,I1,r1,ty,q1⟩:=zr1
 obtain ⟨h1,h2⟩:=zT I1 r1 ty
 refine ⟨T,id,pa,slot,hty,h1,h2,?_⟩
 have hA:=ha cpos pins s1 σ H1 _ I1 q1
 rw [hs] at hA ⊢
 refine Calls.callWith_builtin (by show (false||(backTo cpos (starEach es X.env)).any (·.1))=false;rw [hplain] <;> rfl) (Calls.evalArgs_plain ?_)
 exact thn hA fun us s2 zt1=>by obtain ⟨vs,H2,I2,r2,q2⟩:=zt1;exact hm pins s2 σ H2 x vs v us Q I2 r1 r2 q2
end
end L2
namespace L2
open PySem PySem.Spec PyProof.Rows
noncomputable def MtM (X:Cx) (id:String) (r:V->List V->Hp->VK->Prop):Prop:=
 ∀(pins:List (Addr×Obj)) (s:Shared) (σ:St) (H:Hp) (x:V) (xs:List V) (v:Value) (us:List Value) (Q:VK),Inv X pins σ H s->RelV x v->Vals xs us->r x xs H Q ->
  wpAny (model X.prog X.w) X.A (call (.builtin id) (v::us)) (EP X pins σ Q) X.xe s
theorem Vals.one:∀{x:V} {us:List Value},Vals [x] us->∃u,us=[u]/\RelV x u:=by
 intro x us h
 cases h with
 | cons r h=>cases h;exact ⟨_,rfl,r⟩
theorem Vals.two:∀{x y:V} {us:List Value},Vals [x,y] us->∃u v,us=[u,v]/\RelV x u/\RelV y v:=by
 intro x y us h
 cases h with
 | cons r h=>
  cases h with
  | cons q h=>cases h;exact ⟨_,_,rfl,r,q⟩
section
variable {X:Cx} {pins:List (Addr×Obj)} {σ:St} {H:Hp} {s:Shared} {l b:Addr} {xs ys zs:List V}
theorem Inv.lset {its its':List Value} {n:Nat} {f:Array Value->Array Value} {t':Nat} (I:Inv X pins σ H s) (hH:H l=some (.lst xs))
  (e:s.heap.get? l=some { cls:=.type "list",data:=.seq its.toArray n }) (hf:f its.toArray=its'.toArray) (hv:Vals ys its') (hz:ys.length<=sizeLine) :
  Inv X pins σ (upd H l (.lst ys)) { s with heap:=s.heap.update l (Obj.mapSeq f),toks:=t' }:=by
 have q:=PySem.IsL.update e f
 rw [hf] at q
 refine I.write (x:=l) (e:=l) (by rw [hH];exact trivial) (.inl rfl) (fun b' u hb hu=>(Heap.get?_update_other s.heap (Obj.mapSeq f) (Ne.symm hb)).trans hu) ⟨_,q⟩ ?_
 exact ⟨hz,its',_,hv,q⟩
theorem Inv.lnew {its:List Value} {t':Nat} (I:Inv X pins σ H s) (hv:Vals ys its) (hz:ys.length<=sizeLine) :
  Inv X pins σ (upd H s.heap.objs.size (.lst ys)) { s with heap:=s.heap.push { cls:=.type "list",data:=.seq its.toArray },toks:=t' }:=
 I.laid (fun _ _ q=>Heap.get?_push_of_some _ q) (Nat.le_refl _) ⟨hz,its,0,hv,Heap.get?_push_size _ rfl⟩
theorem Inv.fresh (I:Inv X pins σ H s):H s.heap.objs.size=none:=I.hok.fresh (Nat.le_refl _)
theorem Inv.lstM (I:Inv X pins σ H s) (hH:H l=some (.lst xs)):xs.length<=sizeLine/\∃(its:List Value) (n:Nat),Vals xs its/\xs.length=its.length/\s.heap.get? l=some { cls:=.type "list",data:=.seq its.toArray n }:=by
 obtain ⟨z,its,n,r,e⟩:=I.hok l _ hH
 exact ⟨z,its,n,r,r.length,e⟩
end
section
variable {X:Cx}
noncomputable def ij:V->List V->Hp->VK->Prop:=fun x vs H Q=>∃l xs y,x=.ref l/\vs=[y]/\H l=some (.lst xs)/\xs.length < sizeLine/\Q .non (upd H l (.lst (xs++[y])))
theorem pW:MtM X "list.append" ij:=by
 intro pins s σ H x vs v us Q I rx rv h
 obtain ⟨l,xs,y,rfl,rfl,hH,hz,q⟩:=h
 cases rx
 obtain ⟨u,rfl,ru⟩:=rv.one
 obtain ⟨z,its,n,r,hl,e⟩:=I.lstM hH
 refine call_meets F.slot_list_append ⟨_,e,rfl⟩ F.entry_list_append (F.args_list_append_2 _ _) (PySem.list_append l its.toArray n u (by rw [List.size_toArray];omega)) ⟨e,?_⟩
 refine ⟨.non,_,I.lset (its':=its++[u]) hH e (by simp) (r.append (.cons ru .nil)) ?_,rfl,q⟩
 rw [List.length_append,List.length_singleton]
 omega
noncomputable def zU:R2:=fun x y H Q=>∃l b xs zs,x=.ref l/\y=.ref b/\H l=some (.lst xs)/\H b=some (.lst zs)/\xs.length+zs.length<=sizeLine/\∀p,H p=none->Q (.ref p) (upd H p (.lst (xs++zs)))
theorem qU:OpR X (binaryOp .Add) zU:=by
 intro pins s σ H x y v u Q I rx ry h
 obtain ⟨l,b,xs,zs,rfl,rfl,hH,hB,hz,q⟩:=h
 cases rx
 cases ry
 obtain ⟨z,its,n,r,hl,e⟩:=I.lstM hH
 obtain ⟨z2,its2,n2,r2,hl2,e2⟩:=I.lstM hB
 refine PySem.P.add_list e e2 ?_ (by rw [List.size_toArray,List.size_toArray];omega)
 have ea:its.toArray++its2.toArray=(its++its2).toArray:=by simp
 rw [ea]
 exact ⟨.ref _,_,I.lnew (t':=s.toks) (r.append r2) (by rw [List.length_append];omega),rfl,q _ I.fresh⟩
end
end L2
namespace Att
open PySem PySem.W PySem.Calls PyProof.Rows
theorem ig {P:Params} {h:Heap}:∀(ns:List Int) (vs:List Value),WellAll P h vs (ns.map WData.int)->IntsAre vs ns:=by
 intro ns
 induction ns with
 | nil=>
  intro vs w
  rw [List.map_nil] at w
  cases w
  exact .nil
 | cons n ns ih=>
  intro vs w
  rw [List.map_cons] at w
  cases w with
  | cons a b=>
   cases a
   exact .cons _ _ (ih _ b)
theorem pX {l:OpenLaw} {n:Nat} (hn:l.most=some n) {P:Params} {h:Heap} {args:List WData} {vals:List Value}
  (hpre:l.row.toRowW.claim.pre args=true) (hwl:WellAll P h vals args) :
  ∃a vs ns,vals=[Value.ref a]/\args=[WData.list (ns.map WData.int)]/\h.get? a=some { cls:=.type "list",data:=.seq vs.toArray }/\IntsAre vs ns/\ns.length<=n:=by
 have hsh:WShape.hasAll [] args [.list .int]=true:=(pre_splitW hpre).1
 have hc:l.pre.holds [] { args:=args }=true:=(pre_splitW hpre).2
 obtain ⟨d,r,rfl,h1,h2⟩:=hasAllW_cons hsh
 obtain rfl:=hasAllW_nil h2
 obtain ⟨xs,rfl,h3⟩:=hasW_list h1
 obtain ⟨ns,rfl⟩:=items_int h3
 have hlen:ns.length<=n:=by
  unfold OpenLaw.pre at hc
  have h4:(WTm.not (.lt (.lit (.int (n:Int))) (.len (.arg 0)))).holds [] { args:=[.list (ns.map .int)] }=true:=by
   have h4:=(holds_andW hc).1
   rw [hn] at h4
   exact h4
  have h5:=condW_of h4 (w_not (w_lt w_lit (w_len_list (w_arg rfl))))
  rw [List.length_map] at h5
  refine Nat.le_of_not_lt fun q=>?_
  have q':(n:Int) < ((ns.length:Nat):Int):=by omega
  first
   | (rw [decide_eq_true q'] at h5;exact absurd h5 (by decide))
   | (simp at h5;omega)
 cases hwl with
 | cons w1 w2=>
  cases w2
  cases w1 with
  | list ho hall=>exact ⟨_,_,ns,rfl,rfl,ho,ig ns _ hall,hlen⟩
theorem pY (l:OpenLaw) (args:List WData):l.row.toRowW.claim.post args (.bool true) args=true:=
 postW_of (r:=l.row.toRowW) (X:=(true==true))
  (show WShape.has [] (.bool true) .bool=true by first | rfl | decide | simp [WShape.has,WShape.arms,WShape.armsAll])
  (show (WTm.eq .res (.lit (.bool true))).value [] { args:=args,res:=some (.bool true),after:=args }=some (.bool (true==true)) from w_eq_bool (w_res rfl) w_lit) rfl
theorem lQ {l:OpenLaw} {n:Nat} {q:Program} {loose:List Str} {XP:(Str->Option Value)->Heap->Prop} {YP:World->Heap->Prop} {d:DefRec}
  (hn:l.most=some n) (hdf:d.params.defaults=[])
  (call:∀(w:World) (s₀ s₁:Shared) (mg mb:Str->Option Value) (fa:Addr) (o:Obj) (pm cd doc:Value) (a:Addr) (vs:List Value) (ns:List Int),
   Ground q loose [] XP w s₀ mg mb s₁.heap->YP w s₁.heap ->
   s₁.heap.get? fa=some o->o.data=.func (docDef d.name d.params d.body d.scope pm cd doc)->s₁.heap.CodeRec cd d.name->mg d.name=some (.ref fa) ->
   s₁.heap.get? a=some { cls:=.type "list",data:=.seq vs.toArray }->IntsAre vs ns->ns.length<=n->s₁.gens=#[] ->
   codeAny (model l.prog w) callerA (.call (.ref fa) ⟨[.ref a],[]⟩) (fun r s'=>r=.ok (.ret (.bool true))/\OldK s₁.heap s'.heap/\s'.os=s₁.os/\AllBare s'.gens) s₁) :
  WalkO q loose XP YP l.row.toRowW d [] (fun f vs=>PySem.call f vs):=by
 intro w s₀ s₁ mg mb G Y fa o pm cd doc dV kV ho hd hcd hD hmg hg args vals as hpre hlay hrd hwl hlo
 obtain rfl:dV=.none:=Dflts.none hD hdf
 obtain rfl:kV=.none:=Dflts.noKw hD
 obtain ⟨a,vs,ns,rfl,rfl,hobj,hints,hlen⟩:=pX hn hpre hwl
 refine enter_call (codeAny_mono (call w s₀ s₁ mg mb fa o pm cd doc a vs ns G Y ho (fd_plain hd) hcd hmg hobj hints hlen hg) fun r s' hq=>?_)
 obtain ⟨rfl,h2,h3,h4⟩:=hq
 exact ⟨.inl ⟨.bool true,.bool true,[],rfl,fun _=>rfl,.bool true,pY l _,fun _=>⟨List.Pairwise.nil,fun _ hm=>(nomatch hm)⟩⟩,h2,h3,h4⟩
end Att
namespace L2
open PySem PySem.Spec PyProof.Rows
theorem jN:∀{vs:List Value} {ns:List Int},IntsAre vs ns->Vals (ns.map V.int) vs
 | _,_,.nil=>.nil
 | _,_,.cons n t h=>.cons ⟨t,rfl⟩ (jN h)
noncomputable def Only (H:Hp):Prop:=∀b,H b=none\/∃o xs,H b=some (.frz o (.lst xs))
theorem qV {P:Program} {w:World} {K:PySem.W.Frag} {mg mb:Str->Option Value} {CX:CXT} {k:Nat} {fa a:Addr} {fd:FuncData} {x:Str} {sp:Sp} {s₁:Shared} {vs:List Value} {ns:List Int}
  (KX:K.In s₁.heap) (hns:s₁.heap.Ns mainGlobals mg) (hb:s₁.heap.Ns builtinsNs mb) (hbb:∀x:Str,x≠"__name__"->mb x=bootBuiltins x) (hlim:s₁.heap.NoLimit) (hg:s₁.gens=#[])
  (ha:s₁.heap.get? a=some { cls:=.type "list",data:=.seq vs.toArray }) (hi:IntsAre vs ns) (hl:ns.length<=sizeLine) (hr:bV k callerA)
  (F:∀base:Heap,K.In base->base.Ns mainGlobals mg->hW P w K mg base CX k fa fd [x] sp) (hbind:∀(s:Shared) (u:Value),BindsTo s fd ⟨[u],[]⟩ [(x,u)])
  (hsp:∀H:Hp,Only H->SqL K H a (ns.map V.int)->sp [.ref a] H (fun v _=>v=.bl true) fun _ _ _=>False)
  (hCX:∀H e s',CX [] H s₁ (fun _ _ _=>False) e s'->False) :
  codeAny (model P w) callerA (.call (.ref fa) ⟨[.ref a],[]⟩) (fun r s'=>r=.ok (.ret (.bool true))/\OldK s₁.heap s'.heap/\s'.os=s₁.os/\AllBare s'.gens) s₁:=by
 have rv:=jN hi
 have lenV:=hi.length
 -- from an abstract heap in which nothing but the script may be tracked
 have core:∀H:Hp,Only H->SqL K H a (ns.map V.int)->HOk P w H s₁.heap->(∀b,H b≠none->b=a)->(H a≠none->K.lookup a=none) ->
   codeAny (model P w) callerA (.call (.ref fa) ⟨[.ref a],[]⟩) (fun r s'=>r=.ok (.ret (.bool true))/\OldK s₁.heap s'.heap/\s'.os=s₁.os/\AllBare s'.gens) s₁:=by
  intro H hO hS hok hA hK
  have base_of:∀{b:Addr} {o:Obj},s₁.heap.get? b=some o->H b=none->(kq s₁.heap H).get? b=some o:=fun e n=>qG e n
  have noA:∀{b:Addr} {o:Obj} {es:Array DictEntry} {ep:Nat},s₁.heap.get? b=some o->o.data=.dict es ep->H b=none:=fun {b o es ep} e d=>by
   cases q:H b with
   | none=>rfl
   | some u=>
    have e':b=a:=hA b (by rw [q];simp)
    subst e'
    rw [ha] at e;cases e
    have d':Data.seq vs.toArray _=Data.dict es ep:=d
    cases d'
  have nsK:∀{b:Addr} {m:Str->Option Value},s₁.heap.Ns b m->(kq s₁.heap H).Ns b m:=fun {b m} zt1=>by obtain ⟨o,es,ep,e,d,r⟩:=zt1;exact ⟨o,es,ep,base_of e (noA e d),d,r⟩
  have hKb:K.In (kq s₁.heap H):=fun b o e=>base_of (KX b o e) (by
   cases q:H b with
   | none=>rfl
   | some u=>
    have e':b=a:=hA b (by rw [q];simp)
    subst e'
    rw [hK (by rw [q];simp)] at e;cases e)
  have hM:Mod K mg (kq s₁.heap H):=⟨hKb,nsK hns,⟨mb,nsK hb,hbb⟩,let ⟨mc,h1,h2⟩:=hlim;⟨mc,nsK h1,h2⟩⟩
  have e0:Env0 P w K mg (kq s₁.heap H) callerA [] s₁ H:=⟨rfl,hM,fun b o e=>vm e,Nat.le_of_eq (pP _ _),trivial,fun b hb=>absurd (show b∈([]:List Addr) from hb) (by simp),hok,.of_eq hg⟩
  refine codeAny_mono ((F _ hKb (nsK hns)).run callerA [] s₁ H ⟨[.ref a],[]⟩ [.ref a] [.ref a] _ _ hr e0 (hbind s₁ (.ref a)) (.cons rfl .nil) (hsp H hO hS)) fun r s' h=>?_
  cases r with
  | error e=>exact (hCX H e s' h).elim
  | ok fl=>
   cases fl with
   | next=>exact False.elim h
   | brk=>exact False.elim h
   | cont=>exact False.elim h
   | ret u=>
    obtain ⟨v,H',os,bare,un,hok',r',q⟩:=h
    have q':v=.bl true:=q
    subst q'
    obtain rfl:u=Value.bool true:=r'
    refine ⟨rfl,OldK.of_keep fun b o e=>?_,os,bare⟩
    cases q:H b with
    | none=>exact un.keep b o e q (by intro z;exact absurd (show b∈([]:List Addr) from z) (by simp)) (by simp)
    | some u=>
     rcases hO b with z | ⟨ob,xs,z⟩
     ·rw [q] at z;cases z
     ·have z2:=un.frzs b ob _ z
      obtain ⟨e1,_⟩:=hok b _ z
      obtain ⟨e2,_⟩:=hok' b _ z2
      rw [e] at e1;cases e1
      exact e2
 cases hk:K.lookup a with
 | some o=>
  -- the script is one of the module's own objects
  have e:=KX a o hk
  rw [ha] at e
  cases e
  refine core (fun _=>none) (fun _=>.inl rfl) (.inr ⟨_,vs.toArray,_,hk,rfl,rfl,rfl,by rw [List.size_toArray,lenV];exact hl,by simpa using rv⟩) (fun b u z=>by have z':(none:Option HO)=some u:=z;cases z') (fun b z=>absurd rfl z) fun z=>absurd rfl z
 | none=>
  refine core (fun b=>if b=a then some (.frz { cls:=.type "list",data:=.seq vs.toArray } (.lst (ns.map V.int))) else none) (fun b=>?_) (.inl (.inr ⟨{ cls:=.type "list",data:=.seq vs.toArray },if_pos rfl⟩)) (fun b u z=>?_) (fun b z=>?_) fun _=>hk
  ·by_cases hb:b=a
   ·exact .inr ⟨_,_,if_pos hb⟩
   ·exact .inl (if_neg hb)
  ·by_cases hb:b=a
   ·have z':=(if_pos hb).symm.trans z
    cases z'
    subst hb
    exact ⟨ha,by rw [List.length_map];exact hl,vs,_,rv,ha⟩
   ·have z':=(if_neg hb).symm.trans z
    cases z'
  ·by_cases hb:b=a
   ·exact hb
   ·exact absurd (if_neg hb) z
end L2
namespace L2
open PySem PySem.Spec PyProof.Rows
theorem vG {l:PySem.W.OpenLaw} {n k:Nat} {q:Program} {loose:List Str} {XP:(Str->Option Value)->Heap->Prop} {YP:World->Heap->Prop} {d:DefRec} {K:Params->PySem.W.Frag} {CX:World->CXT} {sp:World->Sp} {x:Str}
  (hn:l.most=some n) (hn2:n<=sizeLine) (hdf:d.params.defaults=[]) (hr:bV k callerA)
  (hY:∀(w:World) (h:Heap),YP w h->(K w.params).In h)
  (F:∀(w:World) (mg:Str->Option Value) (fa:Addr) (h:Heap),(K w.params).In h->h.Ns mainGlobals mg->mg d.name=some (.ref fa) ->
   ∃fd:FuncData,(∀(s:Shared) (u:Value),BindsTo s fd ⟨[u],[]⟩ [(x,u)]) /\
    ∀base:Heap,(K w.params).In base->base.Ns mainGlobals mg->hW l.prog w (K w.params) mg base (CX w) k fa fd [x] (sp w))
  (hsp:∀(w:World) (H:Hp) (a:Addr) (ns:List Int),ns.length<=n->Only H->SqL (K w.params) H a (ns.map V.int)->sp w [.ref a] H (fun v _=>v=.bl true) fun _ _ _=>False)
  (hCX:∀(w:World) (H:Hp) (s:Shared) (e:Value) (s':Shared),CX w [] H s (fun _ _ _=>False) e s'->False) :
  PySem.W.WalkO q loose XP YP l.row.toRowW d [] (fun f vs=>PySem.call f vs):=by
 refine Att.lQ hn hdf fun w s₀ s₁ mg mb fa o pm cd doc a vs ns G Y ho hd hcd hmg hobj hints hlen hg=>?_
 have KX:=hY w _ Y
 obtain ⟨fd,hb,hF⟩:=F w mg fa _ KX G.T.g hmg
 exact qV KX G.T.g G.T.b G.T.builtins G.T.nolimit hg hobj hints (Nat.le_trans hlen hn2) hr hF hb (fun H hO hS=>hsp w H a ns hlen hO hS) fun H e s'=>hCX w H s₁ e s'
end L2
namespace L2
open PySem PySem.Spec PyProof.Rows
noncomputable def cC (s:Stmt):Arguments:=match s with
 | .FunctionDef _ a _ _ _ _ _ _ _ _=>a
 | _=>{ posonlyargs:=[],args:=[],vararg:=none,kwonlyargs:=[],kw_defaults:=[],kwarg:=none,defaults:=[] }
noncomputable def bD (s:Stmt):List Stmt:=match s with
 | .FunctionDef _ _ b _ _ _ _ _ _ _=>b
 | _=>[]
noncomputable def ak (s:Stmt):Scope:=match s with
 | .FunctionDef _ _ _ _ _ _ sc _ _ _=>sc
 | _=>{ kind:=.function,names:=[],isGenerator:=false,isCoroutine:=false }
noncomputable abbrev CX0:CXT:=fun _ _ _ _ _ _=>False
noncomputable abbrev E0:XK:=fun _ _ _=>False
theorem Ck {X:Cx}:m8 CX0 X E0:=fun _ _ _ _ _ _ _ h=>h.elim
structure Fun (K:PySem.W.Frag) (x qual:Str) (st:Stmt) (f:Addr) (fd:FuncData):Prop where
 ex:∃(oc:Value) (od:Option Addr) (kV doc pm:Value) (an:Option Addr) (cdv ct:Value) (osl:Array (Option Value)),
  fd=PySem.W.fnOf x qual (cC st) (bD st) (ak st) .none kV doc pm an cdv ct/\K.lookup f=some ⟨oc,od,.func fd,osl⟩/\PySem.W.codeIn K cdv qual=true
 kp:PySem.W.keepIn K (.ref f)=true
section
variable {P:Program} {w:World} {K:PySem.W.Frag} {mg:Str->Option Value} {base:Heap}
theorem Fun.ok {x qual:Str} {st:Stmt} {f:Addr} {fd:FuncData} {N ps:List Str} {k:Nat} {sp:Sp} (F:Fun K x qual st f fd) (S:aF N ps (ak st)) (len:∀vs H Q E,sp vs H Q E->vs.length=ps.length)
  (hbody:∀(cdv:Value) (A:Around) (outer:List Env) (s:Shared) (H:Hp) (vs:List V) (Q:VK) (E:XK),bV k (A.deeper (envOfC qual (ak st) s.heap.objs.size f cdv))->sp vs H Q E ->
   ∃t,PSs (hZ CX0 P w K mg base N qual (ak st) f cdv A outer s H E).nox (bD st) t/\t { nx:=fun _ H'=>Q .non H',rt:=Q } (start N vs) H):hW P w K mg base CX0 (k+1) f fd ps sp:=by
 obtain ⟨oc,od,kV,doc,pm,an,cdv,ct,osl,rfl,lk,hcd⟩:=F.ex
 refine yg lk hcd S len fun A outer s H vs Q E hr hsp=>?_
 obtain ⟨t,h,q⟩:=hbody cdv A outer s H vs Q E hr hsp
 exact ⟨t,h.nox,q⟩
theorem Fun.binds {x qual:Str} {st:Stmt} {f:Addr} {fd:FuncData} {ps:List Str} (F:Fun K x qual st f fd)
  (h:∀(kV doc pm:Value) (an:Option Addr) (cdv ct:Value) (us:List Value),us.length=ps.length->bindArgs (PySem.W.fnOf x qual (cC st) (bD st) (ak st) .none kV doc pm an cdv ct) ⟨us,[]⟩=pure (ps.zip us)):Binds K fd ps []:=by
 obtain ⟨oc,od,kV,doc,pm,an,cdv,ct,osl,rfl,lk,hcd⟩:=F.ex
 exact .all (h kV doc pm an cdv ct)
theorem zV {x qual:Str} {st:Stmt} {f:Addr} {oc:Value} {od an:Option Addr} {osl:Array (Option Value)} {kV doc pm cdv ct:Value} (l:K.lookup f=some ⟨oc,od,.func (PySem.W.fnOf x qual (cC st) (bD st) (ak st) .none kV doc pm an cdv ct),osl⟩)
  (c:PySem.W.codeIn K cdv qual=true) (k:PySem.W.keepIn K (.ref f)=true):Fun K x qual st f (PySem.W.fnOf x qual (cC st) (bD st) (ak st) .none kV doc pm an cdv ct):=⟨⟨oc,od,kV,doc,pm,an,cdv,ct,osl,rfl,l,c⟩,k⟩
end
section
variable {X:Cx}
theorem pv (i:Nat) {x:Str} {pos:Pos} (hN:X.N[i]?=some x:=by rfl) (hv:Vis X.env.scope x:=by first | exact Or.inl rfl | exact Or.inr (Or.inl rfl) | exact Or.inr (Or.inr rfl)) (hd:(x==("__debug__":Str))=false:=by decide)
  (hcd:(x==("__classdict__":Str))=false:=by decide):PE X (.Name x pos) (cG i):=m5 hN hv hd hcd
end
end L2
section
namespace L2
open PySem PySem.Spec PyProof.Rows
theorem ng:bootBuiltins "int"=some (.type "int"):=by decide +kernel
theorem vH:bootBuiltins "bool"=some (.type "bool"):=by decide +kernel
theorem vI:bootBuiltins "list"=some (.type "list"):=by decide +kernel
theorem fF:bootBuiltins "tuple"=some (.type "tuple"):=by decide +kernel
theorem dZ:bootBuiltins "len"=some (.builtin "len"):=by decide +kernel
theorem bw:bootBuiltins "isinstance"=some (.builtin "isinstance"):=by decide +kernel
noncomputable def Has (P:Program) (w:World) (K:PySem.W.Frag) (mg:Str->Option Value) (base:Heap) (k:Nat) (x:Str) (ps:List Str) (sp:Sp):Prop:=
 ∃(f:Addr) (fd:FuncData),hW P w K mg base CX0 k f fd ps sp/\mg x=some (.ref f)/\PySem.W.keepIn K (.ref f)=true/\Binds K fd ps []/\∃(oc:Value) (od:Option Addr) (osl:Array (Option Value)),K.lookup f=some ⟨oc,od,.func fd,osl⟩
theorem oG {X:Cx} {j k:Nat} {x:Str} {ps:List Str} {sp:Sp} {e:Expr} {es:List Expr} {t:TA} {p pos:Pos} (E:Has X.prog X.w X.K X.mg X.base k x ps sp) (hr:bV j X.A) (ha:PA X (e::es) t)
  (hk:k<=j:=by decide) (hg:Gl X x:=by rfl) (hdb:(x==("__debug__":Str))=false:=by decide) (he:starEach (e::es) X.env=(false,eval e X.env)::starEach es X.env:=by rfl)
  (hpl:(backTo pos (starEach es X.env)).any (·.1)=false:=by rfl):PE X (.Call (.Name x p) (e::es) [] pos) (iQ sp [] E0 t):=by
 obtain ⟨f,fd,F,hm,kp,hb,_⟩:=E
 exact oD F (hr.mono hk) hg hm kp hb .nil Ck ha hdb he hpl
noncomputable def Src (K:PySem.W.Frag) (mg:Str->Option Value) (x:Str) (st:Stmt):Prop:=∃(f:Addr) (fd:FuncData),Fun K x x st f fd/\mg x=some (.ref f)
theorem Src.has {P:Program} {w:World} {K:PySem.W.Frag} {mg:Str->Option Value} {base:Heap} {x:Str} {st:Stmt} {N ps:List Str} {k:Nat} {sp:Sp} (S:Src K mg x st) (sc:aF N ps (ak st))
  (hb:∀(kV doc pm:Value) (an:Option Addr) (cdv ct:Value) (us:List Value),us.length=ps.length->bindArgs (PySem.W.fnOf x x (cC st) (bD st) (ak st) .none kV doc pm an cdv ct) ⟨us,[]⟩=pure (ps.zip us))
  (len:∀vs H Q E,sp vs H Q E->vs.length=ps.length)
  (hbody:∀(f:Addr) (cdv:Value) (A:Around) (outer:List Env) (s:Shared) (H:Hp) (vs:List V) (Q:VK) (E:XK),bV k (A.deeper (envOfC x (ak st) s.heap.objs.size f cdv))->sp vs H Q E ->
   ∃t,PSs (hZ CX0 P w K mg base N x (ak st) f cdv A outer s H E).nox (bD st) t/\t { nx:=fun _ H'=>Q .non H',rt:=Q } (start N vs) H):Has P w K mg base (k+1) x ps sp:=by
 obtain ⟨f,fd,F,hm⟩:=S
 exact ⟨f,fd,F.ok sc len fun cdv A outer s H vs Q E hr h=>hbody f cdv A outer s H vs Q E hr h,hm,F.kp,F.binds hb,by obtain ⟨oc,od,kV,doc,pm,an,cdv,ct,osl,_,lk,_⟩:=F.ex;exact ⟨oc,od,osl,lk⟩⟩
theorem aR {K:PySem.W.Frag} {h:Heap} {mg:Str->Option Value} {x:Str} {st:Stmt} {f:Addr} {oc:Value} {od an:Option Addr} {osl:Array (Option Value)} {kV doc pm cdv ct:Value} (X:K.In h) (G:h.Ns mainGlobals mg)
  (a:PySem.W.nsIn K mainGlobals x=some (some (.ref f))) (l:K.lookup f=some ⟨oc,od,.func (PySem.W.fnOf x x (cC st) (bD st) (ak st) .none kV doc pm an cdv ct),osl⟩)
  (c:PySem.W.codeIn K cdv x=true) (k:PySem.W.keepIn K (.ref f)=true):Src K mg x st:=⟨f,_,zV l c k,PySem.W.mg_of X G a⟩
theorem vJ {P:Program} {w:World} {K:PySem.W.Frag} {mg:Str->Option Value} {k:Nat} {st:Stmt} {fa:Addr} {x:Str} {sp:Sp} (S:Src K mg "law" st) (hfa:mg "law"=some (.ref fa))
  (hb:∀(kV doc pm:Value) (an:Option Addr) (cdv ct:Value) (v:Value),bindArgs (PySem.W.fnOf "law" "law" (cC st) (bD st) (ak st) .none kV doc pm an cdv ct) ⟨[v],[]⟩=pure [(x,v)])
  (all:∀base:Heap,Has P w K mg base k "law" [x] sp) :
  ∃fd:FuncData,(∀(s:Shared) (v:Value),BindsTo s fd ⟨[v],[]⟩ [(x,v)])/\∀base:Heap,K.In base->base.Ns mainGlobals mg->hW P w K mg base CX0 k fa fd [x] sp:=by
 obtain ⟨f,fd,F,hm⟩:=S
 have e:=hfa.symm.trans hm
 cases e
 obtain ⟨oc,od,kV,doc,pm,an,cdv,ct,osl,rfl,lk,_⟩:=F.ex
 refine ⟨_,fun s v=>.of_eq (hb kV doc pm an cdv ct v),fun base _ _=>?_⟩
 obtain ⟨f',fd',G',hm',_,_,oc',od',osl',lk'⟩:=all base
 have e:=hm.symm.trans hm'
 cases e
 rw [lk] at lk'
 injection lk' with e1
 injection e1 with _ _ e2 _
 injection e2 with e3
 rw [e3]
 exact G'
noncomputable def tH (ms:List Int):Int:=reduceHash (Builtin.Tuple.tupleHashOf (ms.map hashInt))
noncomputable def qW (x:List Int×Addr×Value):DictEntry:=⟨tH x.1,.ref x.2.1,x.2.2⟩
noncomputable abbrev EV:List (List Int×Addr×V)->List (List Int×Addr×Value)->Prop:=Paired fun p q=>p.1=q.1/\p.2.1=q.2.1/\RelV p.2.2 q.2.2
noncomputable def DctP (a:Addr) (es:List (List Int×Addr×V)) (h:Heap):Prop:=
 es.length<=sizeLine/\(a==sysModules)=false/\(es.map (·.1)).Nodup/\∃xs,EV es xs/\∃o ds ep,h.get? a=some o/\o.ExactDict/\o.data=.dict ds ep/\ds.toList=xs.map qW
noncomputable def bF (a:Addr) (ob:Obj) (es:List (List Int×Addr×V)):HO:=.ext fun h=>DctP a es h/\h.get? a=some ob
theorem DctP.ok {P:Program} {w:World} {H:Hp} {h:Heap} {a:Addr} {ob:Obj} {es:List (List Int×Addr×V)} (d:DctP a es h) (q:h.get? a=some ob):bq P w H h a (bF a ob es):=
 ⟨⟨d,q⟩,⟨ob,q⟩,fun _ _ zt1 k=>by obtain ⟨⟨z,m,nd,xs,ev,o,ds,ep,e,r⟩,q⟩:=zt1;exact ⟨⟨z,m,nd,xs,ev,o,ds,ep,k o e,r⟩,k ob q⟩⟩
theorem dM {X:Cx} {pins:List (Addr×Obj)} {σ:St} {H:Hp} {s:Shared} {a:Addr} {ob:Obj} {es:List (List Int×Addr×V)} (I:Inv X pins σ H s) (e:H a=some (bF a ob es)):DctP a es s.heap/\s.heap.get? a=some ob:=
 (show bq X.prog X.w H s.heap a (.ext fun h=>DctP a es h/\h.get? a=some ob) from I.hok a _ e).1
theorem fG {X:Cx} {pins:List (Addr×Obj)} {σ:St} {H:Hp} {s:Shared} {a:Addr} {ob:Obj} {es:List (List Int×Addr×V)} (I:Inv X pins σ H s) (e:H a=some (bF a ob es)):DctP a es s.heap:=(dM I e).1
inductive TyO (K:PySem.W.Frag) (H:Hp):V->String->Prop where
 | non:TyO K H .non "NoneType"
 | bl (x:Bool):TyO K H (.bl x) "bool"
 | int (i:Int):TyO K H (.int i) "int"
 | str (x:Str):TyO K H (.str x) "str"
 | lst {a:Addr} {xs:List V} (e:SqL K H a xs):TyO K H (.ref a) "list"
 | tup {a:Addr} {xs:List V} (e:SqT K H a xs):TyO K H (.ref a) "tuple"
 | dK {a:Addr} {kvs:List (Key×V)} (e:H a=some (.dK kvs)):TyO K H (.ref a) "dict"
 | dT {a:Addr} {kvs:List (List Key×V)} (e:H a=some (.dT kvs)):TyO K H (.ref a) "dict"
 | dE {a:Addr} {ob:Obj} {es:List (List Int×Addr×V)} (e:H a=some (bF a ob es)):TyO K H (.ref a) "dict"
noncomputable def pZ (t c:String):Option Bool:=PySem.W.kitOne [] (.type t) (.type c)
theorem qX {K:PySem.W.Frag} {t c:String}:PySem.W.kitOne K (.type t) (.type c)=pZ t c:=rfl
theorem kB:pZ "int" "int"=some true:=by decide +kernel
theorem jE:pZ "int" "bool"=some false:=by decide +kernel
noncomputable def zW (K:PySem.W.Frag):List V->Hp->VK->Prop:=fun xs H Q=>∃x t c b,xs=[x,.ty c]/\TyO K H x t/\pZ t c=some b/\Q (.bl b) H
theorem qY {X:Cx}:cQ X (.builtin "isinstance") (zW X.K):=by
 intro pins s σ H xs us Q I r h
 obtain ⟨x,t,c,b,rfl,ty,e,q⟩:=h
 obtain ⟨u,w',rfl,rx,rc⟩:=vals2 r
 obtain rfl:w'=Value.type c:=rc
 have e':PySem.W.kitOne X.K (.type t) (.type c)=some b:=by rw [qX];exact e
 have fin:∀tk,EP X pins σ Q (.bool b) { s with toks:=tk }:=fun tk=>⟨.bl b,H,I.tok tk,rfl,q⟩
 cases ty with
 | non=>exact cP I rx (.non) e' fin
 | bl y=>exact cP I rx (.bl y) e' fin
 | int i=>exact cP I rx (.int i) e' fin
 | str y=>exact cP I rx (.str y) e' fin
 | dK ea=>exact cP I rx (.dK ea) e' fin
 | dT ea=>exact cP I rx (.dT ea) e' fin
 | @dE a ob es ea=>
  cases rx
  obtain ⟨_,_,_,_,_,o,_,_,h1,h2,_⟩:=fG I ea
  exact PySem.W.kia_one PySem.W.kitx_dict I.kIn ⟨o,h1,h2.1⟩ e' (fun z=>nomatch z) fin
 | lst ea=>
  cases rx
  obtain ⟨its,_,pl,_⟩:=I.list ea
  obtain ⟨o,h1,h2,_⟩:=pl.isList
  exact PySem.W.kia_one PySem.W.kitx_list I.kIn ⟨o,h1,h2⟩ e' (fun z=>nomatch z) fin
 | tup ea=>
  cases rx
  obtain ⟨its,_,p,_⟩:=I.tuple ea
  obtain ⟨o,h1,h2,_⟩:=p
  exact PySem.W.kia_one PySem.W.kitx_tuple I.kIn ⟨o,h1,h2⟩ e' (fun z=>nomatch z) fin
section
variable {X:Cx}
noncomputable def iR (K:PySem.W.Frag) (H:Hp) (ps:List Addr) (mss:List (List Int)):Prop:=Paired (fun p ms=>SqT K H p (List.map V.int ms)) ps mss
end
noncomputable def oH:List Value->Option (List Int)
 | []=>some []
 | .int i _::r=>(oH r).map (i::·)
 | _::_=>none
theorem lR:∀{us:List Value} {ns:List Int},oH us=some ns->Vals (ns.map V.int) us
 | [],ns,e=>by cases e;exact .nil
 | u::r,ns,e=>by
  cases u with
  | int i t=>
   obtain ⟨ms,h1,rfl⟩:=Option.map_eq_some_iff.mp (show (oH r).map (i::·)=some ns from e)
   exact .cons ⟨t,rfl⟩ (lR h1)
  | _=>cases e
noncomputable def nh (K:PySem.W.Frag) (a:Addr):Option (List Value):=match K.lookup a with
 | some ⟨.type "tuple",_,.seq its _,_⟩=>if its.toList.length<=1000 then some its.toList else none
 | _=>none
theorem oI {K:PySem.W.Frag} {H:Hp} {a:Addr} {us:List Value} {xs:List V} (e:nh K a=some us) (r:Vals xs us):SqT K H a xs:=by
  unfold nh at e
  split at e
  · rename_i c its n sl lk
    split at e
    · rename_i hz
      cases e
      have hs:sizeLine=16777216:=sizeLine_eq
      exact .inr ⟨_, its, n, lk, rfl, rfl, by have : its.toList.length = its.size := by simp
                                              lia,r⟩
    · cases e
  · cases e
noncomputable def okT (K:PySem.W.Frag) (v:Value) (ns:List Int):Bool:=match v with
 | .ref a=>(match nh K a with | some us=>decide (oH us=some ns) | none=>false)
 | _=>false
theorem zX {K:PySem.W.Frag} {H:Hp} {v:Value} {ns:List Int} (e:okT K v ns=true):∃a,v=.ref a/\SqT K H a (ns.map V.int):=by
 unfold okT at e
 split at e
 ·rename_i a
  split at e
  ·rename_i us h
   exact ⟨a,rfl,oI h (lR (of_decide_eq_true e))⟩
  ·cases e
 ·cases e
noncomputable def vK (K:PySem.W.Frag):List Value->List (List Int)->Bool
 | [],[]=>true
 | v::r,ns::s=>okT K v ns&&vK K r s
 | _,_=>false
theorem kC {K:PySem.W.Frag} {H:Hp}:∀{us:List Value} {nss:List (List Int)},vK K us nss=true->∃ps,Vals (ps.map V.ref) us/\iR K H ps nss
 | [],[],_=>⟨[],.nil,.nil⟩
 | u::r,ns::s,e=>by
  rw [vK,Bool.and_eq_true] at e
  obtain ⟨a,rfl,h⟩:=zX (H:=H) e.1
  obtain ⟨ps,h1,h2⟩:=kC e.2
  exact ⟨a::ps,.cons rfl h1,.cons h h2⟩
 | [],_::_,e=>by cases e
 | _::_,[],e=>by cases e
noncomputable def kE (K:PySem.W.Frag) (v:Value) (nss:List (List Int)):Bool:=match v with
 | .ref a=>(match nh K a with | some us=>vK K us nss | none=>false)
 | _=>false
noncomputable def TTup (K:PySem.W.Frag) (v:V) (nss:List (List Int)):Prop:=∃a ps,v=.ref a/\∀H:Hp,SqT K H a (ps.map V.ref)/\iR K H ps nss
theorem oJ {K:PySem.W.Frag} {v:Value} {nss:List (List Int)} (e:kE K v nss=true):∃x,RelV x v/\TTup K x nss:=by
 unfold kE at e
 split at e
 ·rename_i a
  split at e
  ·rename_i us h
   obtain ⟨ps,h1,h2⟩:=kC (H:=fun _=>none) e
   refine ⟨.ref a,rfl,a,ps,rfl,fun H=>⟨oI h h1,?_⟩⟩
   obtain ⟨ps',h1',h2'⟩:=kC (H:=H) e
   have:=h1.inj h1'
   have e2:ps=ps':=by
    have:=congrArg (List.map (fun v=>match v with | V.ref i=>i | _=>0)) this
    simpa [List.map_map,Function.comp_def] using this
   rw [e2]
   exact h2'
  ·cases e
 ·cases e
noncomputable def vL (K:PySem.W.Frag):List DictEntry->List (Int×List (List Int))->Bool
 | [],[]=>true
 | e::r,p::s=>Value.isInt p.1 e.key&&decide (e.hash=hashInt p.1)&&kE K e.val p.2&&vL K r s
 | _,_=>false
noncomputable def okD (K:PySem.W.Frag) (d:Addr) (rows:List (Int×List (List Int))):Bool:=match K.lookup d with
 | some ⟨.type "dict",none,.dict es _,sl⟩=>sl.size==0&&vL K es.toList rows&&decide (rows.map (·.1)).Nodup
 | _=>false
theorem oK {P:Program} {w:World} {K:PySem.W.Frag}:∀{es:List DictEntry} {rows:List (Int×List (List Int))},vL K es rows=true ->
  ∃kvs:List (Int×Value),Pairs (intKind P w) es kvs/\(∀e∈es,∃k,(intKind P w).is k e.key=true/\e.hash=(intKind P w).hash k)/\kvs.map (·.1)=rows.map (·.1) /\
   ∀k nss,(k,nss)∈rows->(rows.map (·.1)).Nodup->∃v,valueAt kvs k=some v/\kE K v nss=true
 | [],[],_=>⟨[],.nil,(fun _ h=>nomatch h),rfl,(fun _ _ h=>nomatch h)⟩
 | e::r,p::s,h=>by
  rw [vL,Bool.and_eq_true,Bool.and_eq_true,Bool.and_eq_true] at h
  obtain ⟨⟨⟨h1,h2⟩,h3⟩,h4⟩:=h
  obtain ⟨kvs,g1,g2,g3,g4⟩:=oK (P:=P) (w:=w) h4
  refine ⟨(p.1,e.val)::kvs,.cons h1 rfl g1,fun x hx=>?_,by simp [g3],fun k nss hk nd=>?_⟩
  ·rcases List.mem_cons.mp hx with rfl | hx
   ·exact ⟨p.1,h1,of_decide_eq_true h2⟩
   ·exact g2 x hx
  ·rw [List.map_cons,List.nodup_cons] at nd
   rcases List.mem_cons.mp hk with rfl | hk
   ·exact ⟨e.val,by simp [valueAt],h3⟩
   ·obtain ⟨v,e1,e2⟩:=g4 k nss hk nd.2
    refine ⟨v,?_,e2⟩
    have ne:¬ p.1=k:=fun z=>nd.1 (List.mem_map.mpr ⟨(k,nss),hk,z.symm⟩)
    unfold valueAt at e1 ⊢
    rw [List.find?_cons_of_neg (by simpa using ne)]
    exact e1
 | [],_::_,h=>by cases h
 | _::_,[],h=>by cases h
noncomputable def Cm (K:PySem.W.Frag) (rows:List (Int×List (List Int))):R2:=fun x y H Q=>∃d k nss,x=.ref d/\y=.int k/\okD K d rows=true/\(k,nss)∈rows/\∀v,TTup K v nss->Q v H
theorem vM {X:Cx} {rows:List (Int×List (List Int))}:IxR X (Cm X.K rows):=by
 intro value slice pins s σ H x y v u Q I rx ry h hs
 obtain ⟨d,k,nss,rfl,rfl,hd,hk,q⟩:=h
 cases rx
 obtain ⟨t,rfl⟩:=ry
 unfold okD at hd
 split at hd
 ·rename_i es n sl lk
  rw [Bool.and_eq_true,Bool.and_eq_true] at hd
  obtain ⟨⟨h1,h2⟩,h3⟩:=hd
  obtain ⟨kvs,g1,g2,g3,g4⟩:=oK (P:=X.prog) (w:=X.w) h2
  have nd:=of_decide_eq_true h3
  obtain ⟨v,e1,e2⟩:=g4 k nss hk nd
  have sl0:sl=#[]:=by
   have:sl.size=0:=by simpa using h1
   exact Array.eq_empty_of_size_eq_zero this
  have D:s.heap.DictOf (intKind X.prog X.w) d kvs:=⟨_,es,n,I.kIn d _ lk,⟨rfl,rfl,sl0⟩,rfl,fun e he=>g2 e (by simpa using he),g1,by rw [g3];exact nd⟩
  obtain ⟨x,rx,tt⟩:=oJ e2
  exact tail_any D.typeIs slot_dict_getitem.lookup (wpAny_getItem_of (k:=k) (by show Value.isInt k (.int k t)=true;simp [Value.isInt]) D.mapOf e1 ⟨x,H,I.tok _,rx,q x tt⟩) hs
 ·cases hd
end L2
end
variable {H:L2.Hp} {vs:List L2.V} {es:List (List Int×PySem.Addr×L2.V)} {σ:L2.St} {pins:List (PySem.Addr×PySem.Obj)} {ix:List Nat} {v:L2.V} {K:PySem.W.Frag} {ns:List Int} {ms:List Int} {mss:List (List Int)} {tg:List PySem.Str} {cs:List PySem.Str} {bo:List Int}
section
namespace L2
open PySem PySem.Spec PyProof.Rows
noncomputable def cO (env:Env):List (Str×NameKind)->List (Str×Addr)->List (Str×Addr)
 | [],acc=>acc
 | (n,k)::r,acc=>cO env r (if (k==NameKind.free)=true then (match env.cells.lookup n with | some c=>(n,c)::acc | none=>acc) else acc)
theorem fH {env:Env}:∀{l:List (Str×NameKind)} {acc:List (Str×Addr)} {n:Str} {c:Addr},(n,c)∈cO env l acc->(n,c)∈acc\/env.cells.lookup n=some c
 | [],_,_,_,h=>.inl h
 | (m,k)::r,acc,n,c,h=>by
  unfold cO at h
  rcases fH h with h | h
  ·split at h
   ·split at h
    ·rename_i c' e
     rcases List.mem_cons.mp h with h | h
     ·cases h;exact .inr e
     ·exact .inl h
    ·exact .inl h
   ·exact .inl h
  ·exact .inr h
theorem jO {env:Env}:∀{l:List (Str×NameKind)} {acc:List (Str×Addr)} {p:Str×Addr},p∈acc->p∈cO env l acc
 | [],_,_,h=>h
 | (m,k)::r,acc,p,h=>by
  unfold cO
  refine jO ?_
  split
  ·split
   ·exact List.mem_cons_of_mem _ h
   ·exact h
  ·exact h
theorem lS {env:Env}:∀{l:List (Str×NameKind)} {acc:List (Str×Addr)} {n:Str} {c:Addr},(n,NameKind.free)∈l->env.cells.lookup n=some c->(n,c)∈cO env l acc
 | (m,k)::r,acc,n,c,h,e=>by
  unfold cO
  rcases List.mem_cons.mp h with h | h
  ·cases h
   refine jO ?_
   rw [if_pos (show (NameKind.free==NameKind.free)=true from rfl),e]
   exact List.mem_cons_self
  ·exact lS h e
theorem cellOf_eq {env:Env} {n:Str} {c:Addr} (h:env.cells.lookup n=some c):cellOf env n=pure c:=by
 unfold cellOf
 rw [h]
theorem iS {env:Env} {scope:Scope} (h:∀n,(n,NameKind.free)∈scope.names->∃c,env.cells.lookup n=some c):closureFor scope env=pure (cO env scope.names []):=by
 have all:∀(l:List (Str×NameKind)) (acc:List (Str×Addr)),(∀n,(n,NameKind.free)∈l->∃c,env.cells.lookup n=some c) ->
   (forIn l acc fun (x:Str×NameKind) (cs:List (Str×Addr))=>(if (x.2==NameKind.free)=true then (do let c <- cellOf env x.1;pure (ForInStep.yield ((x.1,c)::cs))) else pure (ForInStep.yield cs):Sem (ForInStep (List (Str×Addr)))))=pure (cO env l acc):=by
  intro l
  induction l with
  | nil=>intro acc _;rfl
  | cons x r ih=>
   intro acc hl
   obtain ⟨n,k⟩:=x
   rw [List.forIn_cons]
   unfold cO
   cases hk:(k==NameKind.free) with
   | true=>
    have hk':k=NameKind.free:=by simpa using hk
    subst hk'
    obtain ⟨c,e⟩:=hl n List.mem_cons_self
    simp only [if_true,cellOf_eq e,pure_bind,e]
    exact ih _ fun m hm=>hl m (List.mem_cons_of_mem _ hm)
   | false=>
    simp only [Bool.false_eq_true,if_false,pure_bind]
    exact ih _ fun m hm=>hl m (List.mem_cons_of_mem _ hm)
 have q:=all scope.names [] h
 unfold closureFor
 first
  | (simp only [bind_pure_comp,map_pure] at q ⊢;rw [q];rfl)
  | (rw [q];rfl)
  | exact q
noncomputable def aE (X:Cx) (scope:Scope) (N:List Str) (C:Addr) (fp:List Addr) (s₀:Shared) (H₀:Hp):Cx:=
 { X with N:=N,s₀:=s₀,H₀:=H₀,env:=compEnvC scope (cO X.env scope.names []) C X.env,outer:=X.stack,stack:=X.stack,ex:=fp,fn:=fun _=>false,pn:=[],xe:=fun _ _=>False }
noncomputable def capt (n:Nat) (ix:List Nat) (σ:St):St:=List.replicate n none++ix.map fun i=>(σ[i]?).getD none
structure bB (X:Cx) (scope:Scope) (tg cs:List Str) (ix:List Nat):Prop where
 kind:scope.kind=.function
 nocell:∀y∈scope.names,y.2≠.cell
 names:∀y∈scope.names,y.2=.local->scope.names.lookup y.1=some .local
 nd:(tg++cs).Nodup
 at_:ix.map (fun i=>X.N[i]?)=cs.map some
 free:∀x∈cs,(x,NameKind.free)∈scope.names/\scope.names.lookup x=some .free
 out:∀x,(x,NameKind.free)∈scope.names->X.env.scope.names.lookup x=some .cell\/X.env.scope.names.lookup x=some .free
theorem fI {f:Str×NameKind->Str×NameKind} (hf:∀p,(f p).1=p.1):∀(names:List (Str×NameKind)) (x:Str),(names.map f).lookup x=(names.lookup x).map fun k=>(f (x,k)).2
 | [],_=>rfl
 | p::r,x=>by
  have e:f p=(p.1,(f p).2):=by rw [<- hf p]
  rw [List.map_cons,e,List.lookup_cons,List.lookup_cons,fI hf r x]
  cases q:x==p.1 with
  | false=>rfl
  | true=>
   have z:x=p.1:=by simpa using q
   subst z
   rfl
noncomputable def freed (env:Env) (p:Str×NameKind):Bool:=p.2==NameKind.free&&env.scope.kind==.function&&env.kindOf p.1==some .cell
theorem fJ {env:Env} {names:List (Str×NameKind)} {x:Str} :
  (names.map fun (n,k)=>if (k==NameKind.free&&env.scope.kind==.function&&env.kindOf n==some .cell) then (n,NameKind.cell) else (n,k)).lookup x=(names.lookup x).map fun k=>if freed env (x,k)=true then .cell else k:=by
 refine (fI (fun p=>?_) names x).trans ?_
 ·dsimp only
  split <;> rfl
 ·congr 1
  funext k
  unfold freed
  dsimp only
  split <;> rfl
theorem cL {env:Env} {names:List (Str×NameKind)} {x:Str} {k:NameKind}
  (h:(names.map fun (n,k)=>if (k==NameKind.free&&env.scope.kind==.function&&env.kindOf n==some .cell) then (n,NameKind.cell) else (n,k)).lookup x=some k) (hk:k=.cell\/k=.free) (nc:∀y∈names,y.2≠.cell):(x,NameKind.free)∈names:=by
 rw [fJ] at h
 cases q:names.lookup x with
 | none=>rw [q] at h;cases h
 | some k0=>
  have hm:=PySem.mem_of_lookup q
  suffices z:k0=.free by rw [<- z];exact hm
  rw [q] at h
  by_cases c:freed env (x,k0)=true
  ·unfold freed at c
   simp only [Bool.and_eq_true,beq_iff_eq] at c
   exact c.1.1
  ·have h2:k0=k:=by simpa [c] using h
   rcases hk with e | e
   ·exact absurd (h2.trans e) (nc _ hm)
   ·exact h2.trans e
theorem eX {env:Env} {names:List (Str×NameKind)} {x:Str} (h:names.lookup x=some .free) :
  (names.map fun (n,k)=>if (k==NameKind.free&&env.scope.kind==.function&&env.kindOf n==some .cell) then (n,NameKind.cell) else (n,k)).lookup x=some .cell \/
  (names.map fun (n,k)=>if (k==NameKind.free&&env.scope.kind==.function&&env.kindOf n==some .cell) then (n,NameKind.cell) else (n,k)).lookup x=some .free:=by
 rw [fJ,h]
 by_cases c:freed env (x,.free)=true
 ·exact .inl (by simp [c])
 ·exact .inr (by simp [c])
section
variable {X:Cx} {pins:List (Addr×Obj)} {σ:St} {H H1:Hp} {s:Shared}
theorem Inv.track {D:Addr} {o:HO} (I:Inv X pins σ H s) (hn:H D=none) (hs:X.s₀.heap.objs.size<=D) (hL:D≠X.env.locals) (hc:∀x c,X.env.cells.lookup x=some c->c≠D) (hp:∀p∈X.pn++pins,p.1≠D)
  (new:bq X.prog X.w (upd H D o) s.heap D o):Inv X pins σ (upd H D o) s:=by
 have nb:∀b ob,X.s₀.heap.get? b=some ob->b≠D:=fun b ob e z=>by subst z;exact absurd (Nat.lt_of_lt_of_le (Heap.lt_size e) hs) (Nat.lt_irrefl _)
 refine ⟨I.ok,I.os,I.bare,⟨I.base.keep,I.base.slot,fun b ob e n hx=>?_,I.base.there,fun b xs e=>?_,fun b ob u e=>?_,fun b ps e=>?_⟩,I.loc,I.cell,?_,fun x c e=>?_,fun p hpp=>?_,fun b u e=>?_,I.len⟩
 ·rw [aD (nb b ob e)];exact I.base.free b ob e n hx
 ·have q:=I.base.tups b xs e
  rw [aD (aZ q hn)];exact q
 ·have q:=I.base.frzs b ob u e
  rw [aD (aZ q hn)];exact q
 ·obtain ⟨more,q⟩:=I.base.tbls b ps e
  exact ⟨more,by rw [aD (aZ q hn)];exact q⟩
 ·rw [aD hL.symm];exact I.free
 ·rw [aD (hc x c e)];exact I.freeC x c e
 ·obtain ⟨a,b,c,d,e⟩:=I.pin p hpp
  exact ⟨a,by rw [aD (hp p hpp)];exact b,c,d,e⟩
 ·by_cases hb:b=D
  ·subst hb;rw [aH] at e;cases e;exact new
  ·rw [aD hb] at e
   exact (I.hok b u e).stay (fun _ _ _ q=>q) (fun c q=>by rw [aD (aZ q hn)];exact q) fun c xs q=>by rw [aD (aZ q hn)];exact q
theorem dw {X:Cx} {tg cs:List Str} (hat:ix.map (fun i=>X.N[i]?)=cs.map some) {i:Nat} {x:Str} (h1:(tg++cs)[i]?=some x) (h2:(capt tg.length ix σ)[i]?=some (some v)) :
  x∈cs/\∃k:Nat,X.N[k]?=some x/\σ[k]?=some (some v):=by
 unfold capt at h2
 by_cases hi:i < tg.length
 ·rw [List.getElem?_append_left (by simpa using hi),List.getElem?_replicate,if_pos hi] at h2
  cases h2
 ·rw [List.getElem?_append_right (by simpa using hi),List.length_replicate,List.getElem?_map] at h2
  rw [List.getElem?_append_right (by lia)] at h1
  cases e:ix[i-tg.length]? with
  | none=>rw [e] at h2;cases h2
  | some k=>
   rw [e] at h2
   have h2:(σ[k]?).getD none=some v:=Option.some.inj h2
   have q:=congrArg (fun l=>l[i-tg.length]?) hat
   simp only [List.getElem?_map,e,h1,Option.map_some] at q
   refine ⟨List.mem_of_getElem? h1,k,Option.some.inj q,?_⟩
   cases z:σ[k]? with
   | none=>rw [z] at h2;cases h2
   | some y=>rw [z] at h2;exact congrArg some h2
end
noncomputable def PTs (X:Cx) (ifs:List Expr) (t:TT):Prop:=
 ∀(pins:List (Addr×Obj)) (s:Shared) (σ:St) (H:Hp) (Q:Bool->Hp->Prop),Inv X pins σ H s->t σ H Q ->
  wpAny (model X.prog X.w) X.A (forIn ifs true fun c r=>if r=true then do let ok <- isTrue c X.env (eval c X.env);pure (ForInStep.yield ok) else pure (ForInStep.yield r)) (TP X pins σ Q) X.xe s
noncomputable def yi:TT:=fun _ H Q=>Q true H
theorem vN {X:Cx}:PTs X [] yi:=fun _ _ _ H _ I h=>wpAny_tests_nil ⟨H,I,h⟩
theorem vO {X:Cx} {c:Expr} {t:TT} (h:PT X c t):PTs X [c] t:=fun pins s σ H Q I hw=>wpAny_tests_one (h pins s σ H Q I hw)
noncomputable def cT (n:Nat) (ix:List Nat) (g:TG):Prop:=∀x σ H Q,g x (capt n ix σ) H Q->g x (capt n ix σ) H fun σ2 H2=>(σ2.length=(capt n ix σ).length/\∀(i:Nat) (v:V),(capt n ix σ)[i]?=some (some v)->σ2[i]?=some (some v))/\Q σ2 H2
theorem gw {n:Nat} {j:Nat} (h:j < n) (e:(capt n ix σ)[j]?=some (some v)):False:=by
 unfold capt at e
 rw [List.getElem?_append_left (by simpa using h),List.getElem?_replicate,if_pos h] at e
 cases e
theorem bK {n:Nat} {j:Nat} (h:j < n):cT n ix (bQ j):=fun x σ H Q q=>⟨⟨by simp,fun i v e=>by
 by_cases hi:j=i
 ·subst hi;exact (gw h e).elim
 ·rw [List.getElem?_set_ne hi];exact e⟩,q⟩
theorem bM {n:Nat} {m j k:Nat} (h:j < n) (h':k < n):cT n ix (zD K m (ou (bQ j) (ou (bQ k) zC))):=fun x σ H Q q=>by
 obtain ⟨a,xs,e1,hq,hl,v,r,e2,v',r',e3,e4,q⟩:=q
 refine ⟨a,xs,e1,hq,hl,v,r,e2,v',r',e3,e4,⟨by simp,fun i v e=>?_⟩,q⟩
 by_cases hi:j=i
 ·subst hi;exact (gw h e).elim
 ·by_cases hk:k=i
  ·subst hk;exact (gw h' e).elim
  ·rw [List.getElem?_set_ne hk,List.getElem?_set_ne hi];exact e
noncomputable def iT (wi:TI) (n:Nat) (ix:List Nat) (g:TG) (tc:TT) (te:TE):TE:=fun σ H Q=>wi σ H fun J H1=>∃W:Nat->Nat->List V->Hp->Prop,(∃m,W 0 m [] H1)/\∀i m ys H2,W i m ys H2 ->
 (J.stop i H2/\ys.length<=sizeLine/\∀D,H2 D=none->Q (.ref D) (upd H2 D (.lst ys))) \/
 (J.go i H2/\ys.length < sizeLine/\∃Nx:List V->Hp->Prop,(∀ys' H',Nx ys' H'->∃m',m' < m/\W (i+1) m' ys' H') /\
  ∀x H3,J.yld i H2 x H3->g x (capt n ix σ) H3 fun σ2 H4=>tc σ2 H4 fun b H5=>if b=true then te σ2 H5 fun v H6=>Nx (ys++[v]) H6 else Nx ys H5)
section
variable {X:Cx} {pins:List (Addr×Obj)} {σ:St} {H H1:Hp} {s:Shared}
theorem lT {scope:Scope} {tg cs:List Str} {fp:List Addr} {s4:Shared} (S:bB X scope tg cs ix) (I:Inv X pins σ H s) (hf:∀b∈fp,jC X pins H b) (ho:∀b∈fp,∃o,s.heap.get? b=some o) {C:Addr} (hC:s.heap.objs.size<=C)
  (hk:∀b o,s.heap.get? b=some o->s4.heap.get? b=some o) (hns:s4.heap.Ns C fun _=>none) (os:s4.os=s.os) (bare:AllBare s4.gens) (hn:H C=none) :
  Inv (aE X scope (tg++cs) C fp s H) [] (capt tg.length ix σ) H s4:=by
 have clX:∀x c,(cO X.env scope.names []).lookup x=some c->X.env.cells.lookup x=some c:=fun x c e=>by
  rcases fH (PySem.mem_of_lookup e) with h | h
  ·cases h
  ·exact h
 have hasC:∀x,(x,NameKind.free)∈scope.names->∃c,(cO X.env scope.names []).lookup x=some c:=fun x hx=>by
  obtain ⟨c,e⟩:=I.ok.has x (S.out x hx)
  have m:=lS (acc:=[]) hx e
  cases q:(cO X.env scope.names []).lookup x with
  | some c'=>exact ⟨c',rfl⟩
  | none=>
   have:=List.lookup_eq_none_iff.mp q (x,c) m
   simp at this
 refine ⟨⟨I.ok.mod,?_,I.ok.glob,I.ok.blt,hC,fun x y c e1 e2=>I.ok.inj x y c (clX x c e1) (clX y c e2),fun x hx=>?_,fun x c h=>?_,I.ok.hd,I.ok.frames,.inl rfl,fun b hb=>⟨?_,fun x c e=>?_⟩,I.bs,Nat.le_trans I.ok.bsz I.sz,fun b o e hb=>?_,fun b hb hx=>?_,I.stack,I.stkFree⟩,
  os,bare,Un.kept hk,⟨_,hns,fun i x v e1 e2 e3=>?_⟩,fun x c e=>?_,hn,fun x c e=>I.freeC x c (clX x c e),fun p hp=>(by cases hp),I.hok.kept hk,?_⟩
 ·show (relabel scope X.env).kind=.function
  exact S.kind
 ·have hx':(relabel scope X.env).names.lookup x=some .cell\/(relabel scope X.env).names.lookup x=some .free:=hx
  rcases hx' with h | h
  ·exact hasC x (cL h (.inl rfl) S.nocell)
  ·exact hasC x (cL h (.inr rfl) S.nocell)
 ·cases h
 ·obtain ⟨o,e⟩:=ho b hb
  exact Nat.ne_of_lt (Nat.lt_of_lt_of_le (Heap.lt_size e) hC)
 ·exact (hf b hb).2.2.2.2.1 x c (clX x c e)
 ·obtain ⟨_,_,_,h,_⟩:=hf b hb
  rcases h with h | h
  ·exact I.ok.noex b o e h
  ·exact absurd (Nat.lt_of_lt_of_le (Heap.lt_size (I.ok.bs b o e).1) h) (Nat.lt_irrefl _)
 ·have hx:b∈frs X.stack:=hx
  obtain ⟨_,h1,h2,_⟩:=hf b hb
  rcases List.mem_cons.mp (I.stkSub b hx) with h | h
  ·exact h1 h
  ·exact h2 h
 ·obtain ⟨hx,k,h1,h2⟩:=dw (X:=X) S.at_ e1 e2
  obtain ⟨hx1,hx2⟩:=S.free x hx
  obtain ⟨m,hnm,hl⟩:=I.loc
  have ov:=S.out x hx1
  obtain ⟨u,r,l⟩:=hl k x v h1 h2 (by rcases ov with z | z;exact .inr (.inl z);exact .inr (.inr z))
  refine ⟨u,r,?_⟩
  rcases l with ⟨l,_⟩ | ⟨_,c,lc,ic⟩
  ·have l:X.env.scope.names.lookup x=some .local:=l
   rcases ov with z | z <;> rw [z] at l <;> cases l
  ·obtain ⟨c',e'⟩:=hasC x hx1
   have:=(clX x c' e').symm.trans lc
   cases this
   refine .inr ⟨eX hx2,c,e',?_⟩
   obtain ⟨o,ho1,ho2⟩:=ic
   exact ⟨o,hk c o ho1,ho2⟩
 ·obtain ⟨v,o,ho1,ho2⟩:=I.cell x c (clX x c e)
  exact ⟨v,o,hk c o ho1,ho2⟩
 ·show (capt tg.length ix σ).length=(tg++cs).length
  have:=congrArg List.length S.at_
  simp only [List.length_map] at this
  unfold capt
  simp [this]
theorem jP {use:Option (Value->Sem Unit)} {Qc:Value->Shared->Prop} {pos':Pos} {elt target iter:Expr} {ifs:List Expr} {scope:Scope} {pos:Pos} {tg cs:List Str} {wi:TI} {g:TG} {tc:TT} {te:TE} (S:bB X scope tg cs ix) (hcalm:X.calm=true) (kg:cT tg.length ix g)
    (hi:PI X target iter wi) (hg:∀C fp s H,PG (aE X scope (tg++cs) C fp s H) target g) (hc:∀C fp s H,PTs (aE X scope (tg++cs) C fp s H) ifs tc) (he:∀C fp s H,PE (aE X scope (tg++cs) C fp s H) elt te)
    (hs:∀x,foldedSetIterable iter X.env x=pure x) {pins:List (Addr×Obj)} {s:Shared} {σ:St} {H:Hp} {Q:VK} (I:Inv X pins σ H s) (h:iT wi tg.length ix g tc te σ H Q)
    (fin:∀D C H' s' v,Inv X pins σ H' s'->Q (.ref D) H'->jC X pins H' C->(∃m,s'.heap.Ns C m)->compPost (model X.prog X.w) X.A X.xe use Qc (.ref D) C (.ok v) s') :
    wpAny (model X.prog X.w) X.A (comprehension (.ListComp elt [⟨target,iter,ifs,0⟩] scope pos) scope X.env pos' (newList []) false (eval iter X.env) use) Qc X.xe s:=by
  refine wpAny_comprehension_free (use:=use) (cl:=cO X.env scope.names []) rfl hs (iS fun n hn=>I.ok.has n (S.out n hn)) S.kind S.names ?_
  refine wpAny_mono (hi pins s σ H _ I h) (fun v s1 h1=>wpAny_mono h1 (fun itv s2 h2=>?_) fun _ _ e=>e) fun _ _ e=>e
  obtain ⟨it,fp,tn,J,H2,rfl,I2,T,st2,f2,W,⟨m0,w0⟩,turn⟩:=h2
  refine wpAny_newObj_type (wpAny_newFunctionEnv S.nocell (by intro y hy;simp at hy) (fun h1 hns1 hsb1=>?_) S.kind)
  dsimp only at hns1 hsb1 ⊢
  generalize hP:s2.heap.push { cls:=.type "list",dict:=none,data:=.seq ([]:List Value).toArray }=P2 at hns1 hsb1 ⊢
  have hCs:P2.objs.size=s2.heap.objs.size+1:=by rw [<- hP,Heap.size_push]
  have hDC:s2.heap.objs.size≠P2.objs.size:=by rw [hCs];exact Nat.ne_of_lt (Nat.lt_succ_self _)
  have hCle:s2.heap.objs.size<=P2.objs.size:=by rw [hCs];exact Nat.le_succ _
  generalize hCg:P2.objs.size=C at *
  have old:∀b o,s2.heap.get? b=some o->h1.get? b=some o:=fun b o e=>hsb1.extBut b o (Nat.ne_of_lt (Nat.lt_of_lt_of_le (Heap.lt_size e) hCle)) (Heap.get?_push_of_some _ (hP▸Heap.get?_push_of_some _ e))
  generalize hDg:s2.heap.objs.size=D at *
  have hD0:h1.get? D=some { cls:=.type "list",data:=.seq ([]:List Value).toArray 0 }:=hsb1.extBut _ _ hDC (Heap.get?_push_of_some _ (hP▸hDg▸Heap.get?_push_size _ rfl))
  have nC:H2 C=none:=I2.hok.fresh (by rw [hDg];exact hCle)
  have nD:H2 D=none:=I2.hok.fresh (by rw [hDg];exact Nat.le_refl _)
  have fo:∀b∈fp,∃o,s2.heap.get? b=some o:=fun b hb=>let ⟨o,e,_⟩:=T.obj _ _ st2 b hb;⟨o,e⟩
  have Dfp:D∉fp:=fun z=>by
    obtain ⟨o,e⟩:=fo D z
    have:=Heap.lt_size e
    rw [hDg] at this
    exact absurd this (Nat.lt_irrefl _)
  have Dfs:D∉frs X.stack:=fun z=>by
    rcases List.mem_cons.mp (I2.stkSub D z) with e | e
    · have:=I2.lt
      rw [<- e,hDg] at this
      exact absurd this (Nat.lt_irrefl _)
    · exact I2.nofs (by rw [hDg];exact Nat.le_refl _) e
  have DcY:∀x c,(cO X.env scope.names []).lookup x=some c->c≠D:=fun x c e=>by
    rcases fH (PySem.mem_of_lookup e) with h | h
    · cases h
    · exact (I2.fpOk (H':=H2) (b:=D) (by rw [hDg];exact Nat.le_refl _) nD).2.2.2.2.1 x c h
  -- the block's context
  have Yok:∀s4:Shared,s4={ s2 with heap:=h1,toks:=s2.toks+([]:List (Str×Value)).length }->Inv (aE X scope (tg++cs) C fp s2 H2) [] (capt tg.length ix σ) H2 s4:=by
    rintro s4 rfl
    exact lT S I2 f2 fo (by rw [hDg];exact hCle) old (by simpa using hns1) rfl I2.bare nC
  -- the loop
  have loop:∀s4:Shared,s4={ s2 with heap:=h1,toks:=s2.toks+([]:List (Str×Value)).length } ->
      codeAny (model X.prog X.w) X.A (.compLoop (.ListComp elt [⟨target,iter,ifs,0⟩] scope pos) 0 (.ref it) (.ref D) (compEnvC scope (cO X.env scope.names []) C X.env)) (compPost (model X.prog X.w) X.A X.xe use Qc (.ref D) C) s4:=by
    intro s4 e4
    refine codeAny_loop rfl (fun n s'=>∃i ys its k H',Inv (aE X scope (tg++cs) C fp s2 H2) [] (capt tg.length ix σ) H' s'/\tn i s'.heap/\(∀b∈fp,H' b=none)/\H' D=none/\s'.heap.get? D=some { cls:=.type "list",data:=.seq (its:List Value).toArray k }/\Vals ys its/\W i n ys H')
      ?_ m0 ⟨0,[],[],0,H2,Yok s4 e4,?_,fun b hb=>(f2 b hb).1,nD,by rw [e4];exact hD0,.nil,w0⟩
    · rintro n s5 ⟨i,ys,its,k,H5,I5,st5,fr5,d5,o5,v5,w5⟩
      show wpAny _ X.A ((compTurn (.ListComp elt [⟨target,iter,ifs,0⟩] scope pos) 0 (.ref it) (.ref D) (compEnvC scope (cO X.env scope.names []) C X.env)).onRaise (fun x=>do noteFrame x (compEnvC scope (cO X.env scope.names []) C X.env);theTreesLotGoes x)) _ _ s5
      refine wpAny_noted ?_
      rw [compTurn_list]
      have pin0:Inv (aE X scope (tg++cs) C fp s2 H2) [(D,{ cls:=.type "list",data:=.seq its.toArray k })] (capt tg.length ix σ) H5 s5:=I5.pins_of fun p hp=>by
        have e:p=(D,{ cls:=.type "list",data:=.seq its.toArray k }):=by simpa using hp
        subst e
        exact ⟨o5,d5,hDC,Dfs,fun v z=>by have z':Data.seq _ _=Data.cell v:=z;cases z'⟩
      have fpY:∀{H':Hp},(∀b∈fp,H' b=none)->∀b∈fp,jC (aE X scope (tg++cs) C fp s2 H2) [(D,{ cls:=.type "list",data:=.seq its.toArray k })] H' b:=fun hn b hb=>
        ⟨hn b hb,(I5.ok.exf b hb).1,fun z=>I5.ok.exfs b hb z,.inl hb,(I5.ok.exf b hb).2,fun p hp z=>by
          have hp:p∈([]:List (Addr×Obj))++[(D,{ cls:=.type "list",data:=.seq its.toArray k })]:=hp
          have e:p=(D,{ cls:=.type "list",data:=.seq its.toArray k }):=by simpa using hp
          subst e
          have z:D=b:=z
          exact Dfp (z▸hb)⟩
      refine wpAny_bind (wpAny_standAt (wpAny_bind ?_))
      rcases turn i n ys H5 w5 with ⟨stop,hz,qn⟩ | ⟨go,hz,Nx,hN,step⟩
      · refine thn (T.done (aE X scope (tg++cs) C fp s2 H2) rfl rfl rfl hcalm i _ s5 _ H5 _ pin0 (fpY fr5) st5 stop) fun r s6 zr1=>?_
        obtain ⟨hr,I6⟩:=zr1
        subst hr
        refine wpAny_pure ?_
        obtain ⟨mC,hnsC,_⟩:=id I6.loc
        have IX:Inv X pins σ H5 s6:=I2.call' (ch:=fp) I6.os I6.base I6.hok I6.bare fun b hb=>let ⟨_,a1,_,a3,a4,a5⟩:=f2 b hb;⟨a3,a1,a4,a5⟩
        obtain ⟨_,b1,_,b3,b4,b5⟩:=I2.fpOk (H':=H5) (b:=D) (by rw [hDg];exact Nat.le_refl _) d5
        obtain ⟨_,c1,c2,c3,c4,c5⟩:=I2.fpOk (H':=H5) (b:=C) (by rw [hDg];exact hCle) I6.free
        have gD:s6.heap.get? D=some { cls:=.type "list",data:=.seq its.toArray k }:=(I6.pin (D,{ cls:=.type "list",data:=.seq its.toArray k }) (List.mem_append_right _ List.mem_cons_self)).1
        have IXD:Inv X pins σ (upd H5 D (.lst ys)) s6:=IX.track d5 (by rw [<- hDg];exact I2.sz) b1 b4 b5 ⟨hz,its,k,v5,gD⟩
        exact fin D C _ s6 _ IXD (qn D d5) ⟨by rw [aD (Ne.symm hDC)];exact I6.free,c1,c2,c3,c4,c5⟩ ⟨mC,hnsC⟩
      · refine thn (T.item (aE X scope (tg++cs) C fp s2 H2) rfl rfl rfl hcalm i _ s5 _ H5 _ pin0 (fpY fr5) st5 go) fun r s6 zr1=>?_
        obtain ⟨u,hr,h6⟩:=zr1
        subst hr
        refine wpAny_bind (thn h6 fun _ s7 zr1=>?_)
        obtain ⟨x,H7,I7,r7,y7,st7,fr7⟩:=zr1
        have I7':=I7.pinned (fpY fr7) (T.obj _ _ st7)
        -- the next turn
        have again:∀{σ2:St} {H8:Hp} {s8:Shared} {ys':List V} {its':List Value} {k':Nat} , Inv (aE X scope (tg++cs) C fp s2 H2) [] σ2 H8 s8->(σ2.length=(capt tg.length ix σ).length/\∀(i:Nat) (v:V),(capt tg.length ix σ)[i]?=some (some v)->σ2[i]?=some (some v)) ->
            (∀b∈fp,∀o,s7.heap.get? b=some o->s8.heap.get? b=some o)->(∀b∈fp,H8 b=none)->H8 D=none->s8.heap.get? D=some { cls:=.type "list",data:=.seq its'.toArray k' }->Vals ys' its'->Nx ys' H8 ->
            ∃m,m < n/\∃i ys its k H',Inv (aE X scope (tg++cs) C fp s2 H2) [] (capt tg.length ix σ) H' s8/\tn i s8.heap/\(∀b∈fp,H' b=none)/\H' D=none/\s8.heap.get? D=some { cls:=.type "list",data:=.seq (its:List Value).toArray k }/\Vals ys its/\W i m ys H':=by
          intro σ2 H8 s8 ys' its' k' I8 kp fk fn dn dg vv nx
          obtain ⟨m',hm,w8⟩:=hN ys' H8 nx
          exact ⟨m',hm,i+1,ys',its',k',H8,I8.weak kp.1.symm kp.2,T.keep _ _ _ st7 fk,fn,dn,dg,vv,w8⟩
        refine wpAny_bind (wpAny_mono (hg C fp s2 H2 _ s7 _ H7 x u _ I7' r7 (kg x σ H7 _ (step x H7 y7))) (fun _ s8 zr1=>?_) fun _ _ z=>z.elim)
        obtain ⟨σ8,H8,I8,kp8,q8⟩:=zr1
        refine wpAny_bind (wpAny_mono (hc C fp s2 H2 _ s8 σ8 H8 _ I8 q8) (fun ok s9 zr1=>?_) fun _ _ z=>z.elim)
        obtain ⟨H9,I9,q9⟩:=zr1
        have pinsOf:∀{σ':St} {H':Hp} {s':Shared},Inv (aE X scope (tg++cs) C fp s2 H2) ([(D,{ cls:=.type "list",data:=.seq its.toArray k })]++gq fp s7.heap) σ' H' s' ->
            (∀b∈fp,∀o,s7.heap.get? b=some o->s'.heap.get? b=some o)/\(∀b∈fp,H' b=none)/\H' D=none/\s'.heap.get? D=some { cls:=.type "list",data:=.seq its.toArray k }:=by
          intro σ' H' s' I'
          refine ⟨fun b hb o e=>(I'.pin (b,o) (List.mem_append_right _ (List.mem_append_right _ (cq hb e)))).1,fun b hb=>?_,(I'.pin (D,{ cls:=.type "list",data:=.seq its.toArray k }) (List.mem_append_right _ (List.mem_append_left _ List.mem_cons_self))).2.1,(I'.pin (D,{ cls:=.type "list",data:=.seq its.toArray k }) (List.mem_append_right _ (List.mem_append_left _ List.mem_cons_self))).1⟩
          obtain ⟨o,e,d⟩:=T.obj _ _ st7 b hb
          exact (I'.pin (b,o) (List.mem_append_right _ (List.mem_append_right _ (cq hb e)))).2.1
        cases ok with
        | false=>
          obtain ⟨p1,p2,p3,p4⟩:=pinsOf I9
          exact wpAny_pure ⟨rfl,again (I9.pins_of fun p hp=>nomatch hp) kp8 p1 p2 p3 p4 v5 q9⟩
        | true=>
          have q9:te σ8 H9 fun v H6=>Nx (ys++[v]) H6:=q9
          refine wpAny_bind (wpAny_bind (wpAny_mono (he C fp s2 H2 _ s9 σ8 H9 _ I9 q9) (fun y s10 zr1=>?_) fun _ _ z=>z.elim))
          obtain ⟨v,H10,I10,rv,nx⟩:=zr1
          obtain ⟨p1,p2,p3,p4⟩:=pinsOf I10
          have hl5:=v5.length
          refine wpAny_bind (call_meets F.slot_list_append ⟨_,p4,rfl⟩ F.entry_list_append (F.args_list_append_2 _ _) (PySem.list_append D its.toArray k y (by rw [List.size_toArray];lia)) ⟨p4,?_⟩)
          have g10:=PySem.IsL.update p4 (·.push y)
          rw [show its.toArray.push y=(its++[y]).toArray by simp] at g10
          have I11:Inv (aE X scope (tg++cs) C fp s2 H2) [] σ8 H10 s10:=I10.pins_of fun p hp=>nomatch hp
          have I12:Inv (aE X scope (tg++cs) C fp s2 H2) [] σ8 H10 { s10 with heap:=s10.heap.update D (Obj.mapSeq (·.push y)) }:=
            I11.turned (t':=s10.toks) (fun b o hb e=>(Heap.get?_update_other s10.heap (Obj.mapSeq (·.push y)) (Ne.symm hb)).trans e) p3 hDC (.inr (by show s2.heap.objs.size<=D;rw [hDg];exact Nat.le_refl _)) DcY (fun p hp=>nomatch hp)
          refine wpAny_pure (wpAny_pure ⟨rfl,again (its':=its++[y]) I12 kp8 (fun b hb o e=>?_) p2 p3 g10 (v5.append (.cons rv .nil)) nx⟩)
          exact (Heap.get?_update_other s10.heap (Obj.mapSeq (·.push y)) (fun z:D=b=>Dfp (z▸hb))).trans (p1 b hb o e)
    · rw [e4];exact T.keep _ _ _ st2 fun b _ o e=>old b o e
  exact codeAny_compStart_list (loop _ rfl) (T.self _ 0 _ _ _ (T.keep _ _ _ st2 fun b _ o e=>old b o e) (loop _ rfl))
theorem oM {elt target iter:Expr} {ifs:List Expr} {scope:Scope} {pos:Pos} {tg cs:List Str} {wi:TI} {g:TG} {tc:TT} {te:TE} (S:bB X scope tg cs ix) (hcalm:X.calm=true) (kg:cT tg.length ix g)
  (hi:PI X target iter wi) (hg:∀C fp s H,PG (aE X scope (tg++cs) C fp s H) target g) (hc:∀C fp s H,PTs (aE X scope (tg++cs) C fp s H) ifs tc) (he:∀C fp s H,PE (aE X scope (tg++cs) C fp s H) elt te)
  (hs:∀x,foldedSetIterable iter X.env x=pure x:=by intro _;rfl):PE X (.ListComp elt [⟨target,iter,ifs,0⟩] scope pos) (iT wi tg.length ix g tc te):=by
 intro pins s σ H Q I h
 rw [eval_ListComp]
 refine jP S hcalm kg hi hg hc he hs I h fun D C H' s' v I' q fp z=>?_
 obtain ⟨f0,c1,_,c3,c4,c5⟩:=fp
 obtain ⟨m,hm⟩:=z
 exact ⟨m,hm,fun h' sb=>⟨.ref D,H',I'.turned (t':=s'.toks) (fun b o hb e=>(sb.2 b hb).trans e) f0 c1 c3 c4 c5,rfl,q⟩⟩
end
end L2
end
section
namespace L2
open PySem PySem.Spec PyProof.Rows
theorem lex_irrefl:∀a:List Int,HT.lexLt a a=false
 | []=>rfl
 | x::r=>by rw [HT.cS,if_pos rfl];exact lex_irrefl r
theorem lex_trans:∀a b c:List Int,HT.lexLt a b=true->HT.lexLt b c=true->HT.lexLt a c=true
 | [],_,[],h1,h2=>by
  rename_i b
  cases b with
  | nil=>exact h1
  | cons y r=>cases h2
 | [],_,_::_,_,_=>rfl
 | x::r,[],_,h1,_=>by cases h1
 | x::r,y::t,[],_,h2=>by cases h2
 | x::r,y::t,z::u,h1,h2=>by
  rw [HT.cS] at *
  by_cases e1:x=y
  ·rw [if_pos e1] at h1
   by_cases e2:y=z
   ·rw [if_pos e2] at h2
    rw [if_pos (e1.trans e2)]
    exact lex_trans r t u h1 h2
   ·rw [if_neg e2] at h2
    rw [if_neg (by lia)]
    rw [e1];exact h2
  ·rw [if_neg e1] at h1
   have h1:=of_decide_eq_true h1
   by_cases e2:y=z
   ·rw [if_neg (by lia)]
    exact decide_eq_true (by lia)
   ·rw [if_neg e2] at h2
    have h2:=of_decide_eq_true h2
    rw [if_neg (by lia)]
    exact decide_eq_true (by lia)
theorem eK:∀a b:List Int,HT.lexLt a b=false->HT.lexLt b a=false->a=b
 | [],[],_,_=>rfl
 | [],_::_,h,_=>by cases h
 | _::_,[],_,h=>by cases h
 | x::r,y::t,h1,h2=>by
  rw [HT.cS] at *
  by_cases e:x=y
  ·rw [if_pos e] at h1
   rw [if_pos e.symm] at h2
   rw [e,eK r t h1 h2]
  ·rw [if_neg e] at h1
   rw [if_neg (Ne.symm e)] at h2
   have h1:=of_decide_eq_false h1
   have h2:=of_decide_eq_false h2
   lia
theorem fK:∀a b c:List Int,HT.lexLt a c=true->HT.lexLt a b=true\/HT.lexLt b c=true:=fun a b c h=>by
 cases h1:HT.lexLt a b with
 | true=>exact .inl rfl
 | false=>
  right
  cases h2:HT.lexLt b a with
  | true=>exact lex_trans b a c h2 h
  | false=>rw [<- eK a b h1 h2];exact h
noncomputable def lexOrd:KeyOrd:=⟨List Int,HT.lexLt,lex_irrefl,lex_trans,fK,eK⟩
noncomputable def lexLe (a b:List Int):Bool:=!HT.lexLt b a
theorem lU (a b c:List Int) (h1:lexLe a b=true) (h2:lexLe b c=true):lexLe a c=true:=by
 unfold lexLe at *
 cases h:HT.lexLt c a with
 | false=>rfl
 | true=>
  rcases fK c b a h with z | z
  ·rw [z] at h2;cases h2
  ·rw [z] at h1;cases h1
theorem lV (a b:List Int):(lexLe a b||lexLe b a)=true:=by
 unfold lexLe
 cases h:HT.lexLt b a with
 | false=>rfl
 | true=>
  cases h':HT.lexLt a b with
  | false=>rfl
  | true=>have:=lex_trans a b a h' h;rw [lex_irrefl] at this;cases this
theorem ni (a b:List Int) (h1:lexLe a b=true) (h2:lexLe b a=true):a=b:=by
 unfold lexLe at *
 exact eK a b (by simpa using h2) (by simpa using h1)
noncomputable def srt (l:List (List Int)):List (List Int):=l.mergeSort lexLe
theorem aQ (l:List (List Int)):(srt l).Perm l:=List.mergeSort_perm l lexLe
theorem fe (l:List (List Int)):(srt l).Pairwise (fun a b=>lexLe a b=true):=List.pairwise_mergeSort (le:=lexLe) lU lV l
theorem eZ:∀{a b:List (List Int)},a.Perm b->a.Pairwise (fun a b=>lexLe a b=true)->b.Pairwise (fun a b=>lexLe a b=true)->a=b
 | [],b,p,_,_=>(List.perm_nil.mp p.symm).symm
 | x::r,[],p,_,_=>by have:=p.length_eq;simp at this
 | x::r,y::t,p,ha,hb=>by
  rw [List.pairwise_cons] at ha hb
  have e:x=y:=by
   have hx:x∈y::t:=p.mem_iff.mp List.mem_cons_self
   have hy:y∈x::r:=p.mem_iff.mpr List.mem_cons_self
   rcases List.mem_cons.mp hx with h | h
   ·exact h
   ·rcases List.mem_cons.mp hy with h' | h'
    ·exact h'.symm
    ·exact ni x y (ha.1 y h') (hb.1 x h)
  subst e
  rw [eZ (List.Perm.cons_inv p) ha.2 hb.2]
theorem gA {a l:List (List Int)} (p:a.Perm l) (h:a.Pairwise (fun a b=>lexLe a b=true)):a=srt l:=eZ (p.trans (aQ l).symm) h (fe l)
section
variable {X:Cx} {pins:List (Addr×Obj)} {σ:St} {H:Hp} {s:Shared}
theorem Inv.kept_led {h':Heap} {m:Str->Option Value} (I:Inv X pins σ H s) (F':Fr X.base X.env.locals h' m) (N':News X.base X.env.locals h' (fB X.base s.heap X.env.locals)):∀b o,b≠X.env.locals->s.heap.get? b=some o->h'.get? b=some o:=fun b o hb e=>by
 cases q:X.base.get? b with
 | some u=>
  have:=I.bk b u q
  rw [e] at this;cases this
  exact F'.keep b _ q
 | none=>exact (N' (b,o) (lJ hb q e)).1
theorem Inv.led {h':Heap} {m:Str->Option Value} {t':Nat} (I:Inv X pins σ H s) (hm:s.heap.Ns X.env.locals m) (F':Fr X.base X.env.locals h' m) (N':News X.base X.env.locals h' (fB X.base s.heap X.env.locals)) :
  Inv X pins σ H { s with heap:=h',toks:=t' }:=by
 have k:=I.kept_led F' N'
 refine I.step (g':=s.gens) (d':=s.drawn) (ch:=[]) (fun _ z=>nomatch z) (fun b o hb _ _ e _=>k b o hb e) (fun b o hb _ _ e _=>⟨o.slots,k b o hb e⟩) (fun _ _ _ _ n=>n) (fun b o _ e=>?_) (fun _ _ e=>e) (fun _ _ _ e=>e) (fun b ps e=>⟨#[],by rw [e];simp⟩) (fun m' hm'=>?_) (fun b u e=>?_) I.bare
 ·by_cases hb:b=X.env.locals
  ·obtain ⟨o',_,_,ho,_⟩:=F'.ns
   exact ⟨o',by rw [hb];exact ho⟩
  ·exact ⟨o,k b o hb e⟩
 ·have em:m'=m:=by
   obtain ⟨o,es,ep,ho,hd,_,hf⟩:=hm
   obtain ⟨o2,es2,ep2,ho2,hd2,_,hf2⟩:=hm'
   rw [ho] at ho2;cases ho2
   rw [hd] at hd2;cases hd2
   funext x
   rw [<- hf x,<- hf2 x]
  rw [em];exact F'.ns
 ·refine (I.hok b u e).stay (fun c v hc q=>k c v ?_ q) (fun _ q=>q) fun _ _ q=>q
  rcases hc with z | z
  ·rw [z];exact aZ e I.free
  ·exact aZ z I.free
end
section
variable {prog:Program} {w:World} {A:Around} {E:Value->Shared->Prop} {s:Shared}
theorem qZ {a:Addr} {vs:List Value} {n:Nat} {R:PySem.Fin->Shared->Prop} (ho:s.heap.get? a=some (seqObj "list" vs.toArray n)) (hf:vs.length < 2)
  (h:R (.done (.ret .none)) { s with heap:=sortedHeap s.heap a vs vs.toArray }):wpAny (model prog w) A (Builtin.«list.sort» ⟨[.ref a],[]⟩) R E s:=by
 have hlt:a < s.heap.objs.size:=Heap.lt_size ho
 have few:vs.toArray.size < 2:=by rw [List.size_toArray];exact hf
 have hz:vs.length<=sizeLine:=by rw [sizeLine_eq];lia
 obtain ⟨e,he⟩:∃e,(s.heap.update a (Obj.mapSeq fun _=>#[])).get? a=some (seqObj "list" #[] e):=⟨_,get?_update_seq ho (fun _=>#[])⟩
 rw [list_sort_plain]
 refine wpAny_bind (listItems_at ho rfl (wpAny_bind (listUpdate_at ho rfl (wpAny_bind (seqEpoch_at he rfl (wpAny_bind (wpAny_newTuple (wpAny_bind (wpAny_newList (wpAny_holding ?_))) (hsz:=hz))))) (by rw [List.size_toArray];lia))))
 have he2:(((s.heap.update a (Obj.mapSeq fun _=>#[])).push (seqObj "tuple" vs.toArray 0)).push (seqObj "list" #[] 0)).get? a=some (seqObj "list" #[] e):=Heap.get?_push_of_some _ (Heap.get?_push_of_some _ he)
 dsimp only
 rw [if_pos few,if_pos few]
 refine wpAny_bind (wpAny_pure ?_);rw [StateT.run_pure];refine wpAny_bind (wpAny_pure ?_);dsimp only
 have em:Array.map (fun x:Value×Value=>x.2) (arrOf (SortSt.mk' general' (vs.toArray.zip vs.toArray) #[] 7 none))=vs.toArray:=by
  show Array.map (fun x:Value×Value=>x.2) (vs.toArray.zip vs.toArray)=vs.toArray
  apply Array.ext <;> simp
 refine wpAny_bind (seqEpoch_at he2 rfl (wpAny_bind (listUpdate_at he2 rfl ?_ (hsz2:=by rw [em,List.size_toArray];lia))))
 rw [em]
 simp only [bne_self_eq_false,Bool.false_eq_true,if_false]
 exact wpAny_pure h
theorem nj {l:Addr} {vs:List Value} {Q:Value->Shared->Prop} (hl:s.heap.IsList l vs.toArray) (hf:vs.length < 2) (h:Q (.ref (s.heap.objs.size+1)) { s with heap:=sortedAll s.heap vs vs.toArray }):wpAny (model prog w) A (call (.builtin "sorted") [.ref l]) Q E s:=by
 have hz:vs.length<=sizeLine:=by rw [sizeLine_eq];lia
 have z1:((s.heap.push (seqObj "list" #[] 0)).update s.heap.objs.size (Obj.mapSeq (·++vs.toArray))).objs.size=s.heap.objs.size+1:=by rw [Heap.size_update,size_push']
 have z2:(((s.heap.push (seqObj "list" #[] 0)).update s.heap.objs.size (Obj.mapSeq (·++vs.toArray))).push (seqObj "list" vs.toArray 0)).get? (s.heap.objs.size+1)=some (seqObj "list" vs.toArray 0):=z1▸Heap.get?_push_size _ rfl
 have col:=fun R r=>collect_list (prog:=prog) (w:=w) (A:=A.in1) (E:=E) (Q:=R) hl r hz
 refine Calls.call_function_entry kind_sorted plain_sorted entry_sorted (args_sorted1 _) (wpAny_bind (m:=checkCount "sorted" 1 1 _) (wpAny_pure (wpAny_bind (m:=collect (.ref l)) (col _ (wpAny_bind (wpAny_newList ?_ (hsz:=hz)))))))
 dsimp only
 rw [z1]
 refine wpAny_bind (wpAny_holding (wpAny_call_entry slot_list_sort ⟨_,z2,rfl⟩ entry_list_sort (qZ z2 hf ⟨_,rfl,wpAny_pure ⟨_,rfl,h⟩⟩) (args_list_sort _)))
end
section
variable {X:Cx} {pins:List (Addr×Obj)} {σ:St} {H:Hp} {s:Shared}
theorem Inv.trackN {D:Addr} {o:HO} (I:Inv X pins σ H s) (hn:H D=none) (hs:X.s₀.heap.get? D=none) (hL:D≠X.env.locals) (hc:∀x c,X.env.cells.lookup x=some c->c≠D) (hp:∀p∈X.pn++pins,p.1≠D)
  (new:bq X.prog X.w (upd H D o) s.heap D o):Inv X pins σ (upd H D o) s:=by
 have nb:∀b ob,X.s₀.heap.get? b=some ob->b≠D:=fun b ob e z=>by subst z;rw [hs] at e;cases e
 have nt:∀b u,H b=some u->b≠D:=fun b u e=>aZ e hn
 refine ⟨I.ok,I.os,I.bare,⟨I.base.keep,I.base.slot,fun b ob e n hx=>by rw [aD (nb b ob e)];exact I.base.free b ob e n hx,I.base.there,fun b xs e=>?_,fun b ob u e=>?_,fun b ps e=>?_⟩,I.loc,I.cell,by rw [aD hL.symm];exact I.free,fun x c e=>by rw [aD (hc x c e)];exact I.freeC x c e,fun p hpp=>?_,fun b u e=>?_,I.len⟩
 ·have q:=I.base.tups b xs e
  rw [aD (nt b _ q)];exact q
 ·have q:=I.base.frzs b ob u e
  rw [aD (nt b _ q)];exact q
 ·obtain ⟨more,q⟩:=I.base.tbls b ps e
  exact ⟨more,by rw [aD (nt b _ q)];exact q⟩
 ·obtain ⟨a,b,c,d,e⟩:=I.pin p hpp
  exact ⟨a,by rw [aD (hp p hpp)];exact b,c,d,e⟩
 ·by_cases hb:b=D
  ·subst hb;rw [aH] at e;cases e;exact new
  ·rw [aD hb] at e
   exact (I.hok b u e).stay (fun _ _ _ q=>q) (fun c q=>by rw [aD (nt c _ q)];exact q) fun c xs q=>by rw [aD (nt c _ q)];exact q
theorem vP {prog:Program} {w:World} {A:Around} {Q:Bool->Shared->Prop}:∀(ns ms:List Int) {us vs:List Value} (i:Nat) {fin:Bool},Vals (ns.map V.int) us->Vals (ms.map V.int) vs->fin=decide (us.length < vs.length)->Q (HT.lexLt ns ms) s ->
  PySem.W.KatLex prog w A true fin Q (us.zip vs) i s:=by
 intro ns
 induction ns with
 | nil=>
  intro ms us vs i fin r r' hf h
  have r:Vals [] us:=r
  cases r
  cases ms with
  | nil=>
   have r':Vals [] vs:=r'
   cases r'
   subst hf
   exact h
  | cons m ms=>
   have r':Vals (V.int m::ms.map V.int) vs:=r'
   cases r' with
   | cons a b=>
    subst hf
    exact h
 | cons n ns ih=>
  intro ms us vs i fin r r' hf h
  have r:Vals (V.int n::ns.map V.int) us:=r
  cases r with
  | cons q1 t=>
   cases ms with
   | nil=>
    have r':Vals [] vs:=r'
    cases r'
    subst hf
    exact h
   | cons m ms=>
    have r':Vals (V.int m::ms.map V.int) vs:=r'
    cases r' with
    | cons q2 t'=>
     obtain ⟨tk,rfl⟩:=q1
     obtain ⟨tk',rfl⟩:=q2
     rw [HT.cS] at h
     rw [List.zip_cons_cons]
     refine PySem.W.kat_cons (SeqAt.EqAt.int_int n tk m tk' prog w _ _ ?_)
     by_cases e:n=m
     ·rw [if_pos e] at h
      rw [show (n==m)=true by simpa using e]
      refine PySem.W.kat_yes (ih ms (i+1) t t' ?_ h)
      rw [hf]
      simp
     ·rw [if_neg e] at h
      rw [show (n==m)=false by simpa using e]
      refine PySem.W.kat_no ?_
      by_cases hi:i=0
      ·subst hi
       exact oneLt_int h
      ·rw [show (true&&i==0)=false by simp [hi]]
       exact PySem.W.kat_one _ _ (lt_int (show PySem.W.BoolBack _ (Value.bool _) _ from h))
theorem rf {h:Heap} {p:Addr} {its:List Value} (hne:ms≠[]) (r:Vals (ms.map V.int) its) (ht:IsTup h p its.toArray):∃(f:Value) (o:Obj) (n:Nat),(∃i t,f=Value.int i t)/\h.get? p=some o/\o.cls=.type "tuple"/\o.data=.seq its.toArray n/\its.toArray[0]?=some f:=by
 obtain ⟨o,ho,hc,n,hd⟩:=ht
 cases ms with
 | nil=>exact absurd rfl hne
 | cons m ms=>
  have r:Vals (V.int m::ms.map V.int) its:=r
  cases r with
  | cons r1 r2=>
   obtain ⟨t,rfl⟩:=r1
   exact ⟨_,o,n,⟨m,t,rfl⟩,ho,hc,hd,by simp⟩
theorem nq {h:Heap} (hT:∀a xs,SqT X.K H a xs->∃its:List Value,Vals xs its/\IsTup h a its.toArray) {ps:List Addr} (ht:iR X.K H ps mss):(∀ms∈mss,ms≠[]) ->
  ∃fs:List Value,PySem.W.KatTups h (ps.map Value.ref) fs/\fs.length=ps.length/\∀v∈fs,∃i t,v=Value.int i t:=by
 unfold iR at ht
 induction ht with
 | nil=>exact fun _=>⟨[],trivial,rfl,(fun _ h=>nomatch h)⟩
 | cons hp t ih=>
  intro hne
  obtain ⟨fs,h1,h2,h3⟩:=ih fun m hm=>hne m (List.mem_cons_of_mem _ hm)
  obtain ⟨its,r,tt⟩:=hT _ _ hp
  obtain ⟨f,o,n,hi,ho,hc,hd,h0⟩:=rf (hne _ List.mem_cons_self) r tt
  refine ⟨f::fs,PySem.W.KatTups.cons ho hc hd h0 h1,by simp [h2],fun v hv=>?_⟩
  rcases List.mem_cons.mp hv with rfl | hv
  ·exact hi
  ·exact h3 v hv
theorem jQ:∀{ps:List Addr} {us:List Value},Vals (ps.map V.ref) us->us=ps.map Value.ref
 | [],_,.nil=>rfl
 | p::ps,_,.cons r t=>by
  rw [jQ t]
  cases r
  rfl
theorem jR:∀(ps:List Addr),Vals (ps.map V.ref) (ps.map Value.ref)
 | []=>.nil
 | p::ps=>.cons rfl (jR ps)
end
end L2
end
section
namespace L2
open PySem PySem.Spec PyProof.Rows
theorem bq.there {P:Program} {w:World} {h:Heap} {a:Addr} {o:HO} (x:bq P w H h a o):∃ob,h.get? a=some ob:=by
 cases o with
 | lst xs=>obtain ⟨_,_,_,_,e⟩:=x;exact ⟨_,e⟩
 | tup xs=>obtain ⟨_,_,_,ob,e,_⟩:=x;exact ⟨_,e⟩
 | dK kvs=>obtain ⟨_,_,_,_,o,_,_,e,_⟩:=x;exact ⟨_,e⟩
 | dT kvs=>obtain ⟨_,_,_,_,o,_,_,e,_⟩:=x;exact ⟨_,e⟩
 | set S n=>obtain ⟨o,_,_,_,e,_⟩:=x;exact ⟨_,e⟩
 | ins C dx fs=>obtain ⟨_,_,_,e,_⟩:=x;exact ⟨_,e⟩
 | own y=>exact x
 | xd fs=>obtain ⟨_,⟨_,_,_,e,_⟩,_⟩:=x;exact ⟨_,e⟩
 | rng lo hi=>obtain ⟨_,_,_,e⟩:=x;exact ⟨_,e⟩
 | frz ob u=>obtain ⟨e,_⟩:=x;exact ⟨_,e⟩
 | tbl ps=>obtain ⟨_,e,_⟩:=x;exact ⟨_,e⟩
 | met f y=>exact ⟨_,x⟩
 | ext φ=>exact x.2.1
end L2
end
section
namespace L2
open PySem PySem.Spec PyProof.Rows
noncomputable def nu (scope osc:Scope) (N tg cs:List Str) (ix:List Nat):Prop:=
 (∀y∈scope.names,y.2≠.cell)/\(∀y∈scope.names,y.2=.local->scope.names.lookup y.1=some .local)/\(tg++cs).Nodup/\ix.map (fun i=>N[i]?)=cs.map some /\
 (∀x∈cs,(x,NameKind.free)∈scope.names/\scope.names.lookup x=some .free)/\∀y∈scope.names,y.2=.free->osc.names.lookup y.1=some .cell\/osc.names.lookup y.1=some .free
noncomputable instance (scope osc:Scope) (N tg cs:List Str) (ix:List Nat):Decidable (nu scope osc N tg cs ix):=by unfold nu;infer_instance
theorem aS {X:Cx} {scope:Scope} {tg cs:List Str} (osc:Scope) (N:List Str) (h:nu scope osc N tg cs ix) (hk:scope.kind=.function:=by rfl) (ho:X.env.scope=osc:=by rfl) (hN:X.N=N:=by rfl):bB X scope tg cs ix:=by
 obtain ⟨h1,h2,h3,h4,h5,h6⟩:=h
 exact ⟨hk,h1,h2,h3,by rw [hN];exact h4,h5,fun x hx=>by rw [ho];exact h6 (x,.free) hx rfl⟩
end L2
end
section
namespace L2
open PySem PySem.Spec PyProof.Rows
section
variable {X:Cx} {pins:List (Addr×Obj)} {σ:St} {H H1:Hp} {s:Shared}
theorem lW {elt target iter:Expr} {ifs:List Expr} {scope:Scope} {pos spos py:Pos} {yy:Str} {ii:Nat} {tg cs:List Str} {wi:TI} {g:TG} {tc:TT} {te:TE} (hN0:X.N.Nodup) (hi0:X.N[ii]?=some yy) (hx0:Loc X.env.scope yy)
  (S:bB X scope tg cs ix) (hcalm:X.calm=true) (kg:cT tg.length ix g)
  (hi:PI X target iter wi) (hg:∀C fp s H,PG (aE X scope (tg++cs) C fp s H) target g) (hc:∀C fp s H,PTs (aE X scope (tg++cs) C fp s H) ifs tc) (he:∀C fp s H,PE (aE X scope (tg++cs) C fp s H) elt te)
  (hf0:X.fn yy=true\/X.env.scope.names.lookup yy=some .local)
  (hsw:swapsWith (.ListComp elt [⟨target,iter,ifs,0⟩] scope pos) (some (.Name yy py)) spos.line X.env=pure true)
  (hs:∀x,foldedSetIterable iter X.env x=pure x:=by intro _;rfl):PS X (.Assign [.Name yy py] (.ListComp elt [⟨target,iter,ifs,0⟩] scope pos) spos) (dI (iT wi tg.length ix g tc te) (bQ ii)):=by
 intro pins s σ H Dn I h
 rw [exec_Assign_Name_used _ _ _ _ hsw]
 refine wpAny_bind (wpAny_standAt (wpAny_bind ?_))
 show wpAny _ X.A (do let _ <- comprehension (.ListComp elt [⟨target,iter,ifs,0⟩] scope pos) scope X.env _ (newList []) false (eval iter X.env) (some (assign (.Name yy py) X.env))) _ _ s
 refine wpAny_bind (wpAny_mono (jP (use:=some (assign (.Name yy py) X.env)) (Qc:=fun _ s'=>SP X pins Dn .next s') S hcalm kg hi hg hc he hs I h fun D C H' s' v I' q fp z=>?_) (fun _ s' hq=>wpAny_pure (wpAny_pure hq)) fun _ _ e=>e)
 obtain ⟨f0,c1,_,c3,c4,c5⟩:=fp
 obtain ⟨m,hm⟩:=z
 show wpAny _ X.A (assign (.Name yy py) X.env (.ref D)) _ _ s'
 refine wpAny_assign_Name (jG (v:=.ref D) I' hN0 hi0 hx0 rfl (fun s'' I'' zq=>?_) hf0)
 obtain ⟨a,sb,ha⟩:=zq
 have hCa:C≠a:=by
  rcases ha with rfl | ha
  ·exact c1
  ·exact (c4 _ _ ha).symm
 exact ⟨m,hm.sameBut sb hCa,fun h' sb'=>⟨_,_,I''.turned (t':=s''.toks) (it:=C) (fun b o hb e=>(sb'.2 b hb).trans e) f0 c1 c3 c4 c5,q⟩⟩
end
end L2
end
section
namespace VL
open PySem L2
noncomputable def IsM:Option HO->Prop
 | some (.lst _)=>True
 | some (.ext _)=>True
 | _=>False
theorem IsM.ne {o:Option HO} (h:IsM o):o≠none:=by rintro rfl;exact h
noncomputable abbrev AP:=Addr->Prop
noncomputable abbrev FP:=Option Addr->Prop
structure Co where
 ok:PySem.W.Frag->AP->FP->Hp->Addr->Prop
 mono:∀{K:PySem.W.Frag} {N N':AP} {F F':FP} {H H':Hp} {v:Addr},(∀a,N a->H a≠none->N' a/\H' a=H a)->(∀o,F o->F' o)->ok K N F H v->ok K N' F' H' v
 avoid:∀{K:PySem.W.Frag} {N N':AP} {F:FP} {H:Hp} {v:Addr},(∀a,¬N' a->IsM (H a))->(∀a,F (some a)->N' a)->ok K N F H v->ok K N' F H v
 both:∀{K:PySem.W.Frag} {N:AP} {F F':FP} {H:Hp} {v:Addr},(∀a,N a->IsM (H a)->F (some a)->F' (some a))->(F none->F' none)->ok K N F H v->ok K N F' H v
 reN:∀{K:PySem.W.Frag} {N N':AP} {F:FP} {H:Hp} {v:Addr},(∀a,IsM (H a)->N' a)->ok K N F H v->ok K N' F H v
inductive D where
 | int (i:Int) | bl (b:Bool) | non | str (x:Str) | ty (n:String) | tup (ds:List D) | lst (ds:List D) | dic (ks:List (List Int)) (vs:List D) | exc (c:Value) | dib (kds:List D) (vs:List D) | oth (k:Co)
noncomputable def kT (ms:List Int):D:=.tup (ms.map .int)
noncomputable def EB:D->Int
 | .int i=>i
 | .bl b=>if b then 1 else 0
 | _=>0
noncomputable def zY:D->Bool
 | .int _=>true
 | .bl _=>true
 | _=>false
noncomputable def kN:D->List Int
 | .tup ds=>ds.map EB
 | _=>[]
noncomputable def EC:D->Bool
 | .tup ds=>ds.all zY
 | _=>false
noncomputable def Any:AP:=fun _=>True
noncomputable def AnyF:FP:=fun _=>True
noncomputable def Fr (H0:Hp):FP:=fun o=>∃a,o=some a/\H0 a=none
mutual
inductive Rep (K:PySem.W.Frag) (N:AP) (F:FP) (H:Hp):V->D->Prop where
 | int (i:Int):Rep K N F H (.int i) (.int i)
 | bl (b:Bool):Rep K N F H (.bl b) (.bl b)
 | non:Rep K N F H .non .non
 | str (x:Str):Rep K N F H (.str x) (.str x)
 | ty (x:String):Rep K N F H (.ty x) (.ty x)
 | tup {a:Addr} {vs:List V} {ds:List D} (n:N a) (h:Rd H a (.tup vs)) (r:Reps K N F H vs ds):Rep K N F H (.ref a) (.tup ds)
 | tupK {a:Addr} {vs:List V} {ds:List D} (h:SqT K (fun _=>none) a vs) (r:Reps K N F H vs ds):Rep K N F H (.ref a) (.tup ds)
 | lst {a:Addr} {vs:List V} {ds:List D} (n:N a) (f:F (some a)) (h:H a=some (.lst vs)) (r:Reps K N F H vs ds):Rep K N F H (.ref a) (.lst ds)
 | lstF {a:Addr} {vs:List V} {ds:List D} {o:Obj} (n:N a) (f:F none) (h:H a=some (.frz o (.lst vs))) (r:Reps K N F H vs ds):Rep K N F H (.ref a) (.lst ds)
 | lstK {a:Addr} {vs:List V} {ds:List D} (f:F none) (h:SqL K (fun _=>none) a vs) (r:Reps K N F H vs ds):Rep K N F H (.ref a) (.lst ds)
 | dic {a:Addr} {ob:Obj} {es:List (List Int×Addr×V)} {ks:List (List Int)} {ds:List D} (n:N a) (f:F (some a)) (h:H a=some (bF a ob es)) (e:es.map (·.1)=ks) (rk:Reps K N F H (es.map fun x=>.ref x.2.1) (ks.map kT)) (r:Reps K N F H (es.map (·.2.2)) ds):Rep K N F H (.ref a) (.dic ks ds)
 | exc {x:Addr} {c:Value} {o:Obj} (n:N x) (h:H x=some (.frz o (.own x))) (e:o.cls=c):Rep K N F H (.ref x) (.exc c)
 | dib {a:Addr} {ob:Obj} {es:List (List Int×Addr×V)} {kds:List D} {ds:List D} (n:N a) (f:F (some a)) (h:H a=some (bF a ob es)) (e:es.map (·.1)=kds.map kN) (g:kds.all EC=true) (rk:Reps K N F H (es.map fun x=>.ref x.2.1) kds) (r:Reps K N F H (es.map (·.2.2)) ds):Rep K N F H (.ref a) (.dib kds ds)
 | oth {a:Addr} {k:Co} (h:k.ok K N F H a):Rep K N F H (.ref a) (.oth k)
inductive Reps (K:PySem.W.Frag) (N:AP) (F:FP) (H:Hp):List V->List D->Prop where
 | nil:Reps K N F H [] []
 | cons {v:V} {d:D} {vs:List V} {ds:List D} (h:Rep K N F H v d) (t:Reps K N F H vs ds):Reps K N F H (v::vs) (d::ds)
end
section
variable {K:PySem.W.Frag} {N N':AP} {F F':FP} {H H' H0:Hp}
theorem Rd.there {a:Addr} {u:HO} (h:Rd H a u):H a≠none:=by rcases h with h | ⟨o,h⟩ <;> simp [h]
theorem Rd.keep {a:Addr} {u:HO} (h:Rd H a u) (e:H' a=H a):Rd H' a u:=by
 rcases h with h | ⟨o,h⟩
 ·exact .inl (e.trans h)
 ·exact .inr ⟨o,e.trans h⟩
mutual
theorem Rep.mono (hN:∀a,N a->H a≠none->N' a/\H' a=H a) (hF:∀o,F o->F' o) {v:V} {d:D}:Rep K N F H v d->Rep K N' F' H' v d
 | .int i=>.int i
 | .bl i=>.bl i
 | .non=>.non
 | .str i=>.str i
 | .ty i=>.ty i
 | .tup n h r=>.tup (hN _ n (Rd.there h)).1 (Rd.keep h (hN _ n (Rd.there h)).2) (Reps.mono hN hF r)
 | .tupK h r=>.tupK h (Reps.mono hN hF r)
 | .lst n f h r=>.lst (hN _ n (by simp [h])).1 (hF _ f) ((hN _ n (by simp [h])).2.trans h) (Reps.mono hN hF r)
 | .lstF n f h r=>.lstF (hN _ n (by simp [h])).1 (hF _ f) ((hN _ n (by simp [h])).2.trans h) (Reps.mono hN hF r)
 | .lstK f h r=>.lstK (hF _ f) h (Reps.mono hN hF r)
 | .dic n f h e rk r=>.dic (hN _ n (by simp [h])).1 (hF _ f) ((hN _ n (by simp [h])).2.trans h) e (Reps.mono hN hF rk) (Reps.mono hN hF r)
 | .exc n h e=>.exc (hN _ n (by simp [h])).1 ((hN _ n (by simp [h])).2.trans h) e
 | .dib n f h e g rk r=>.dib (hN _ n (by simp [h])).1 (hF _ f) ((hN _ n (by simp [h])).2.trans h) e g (Reps.mono hN hF rk) (Reps.mono hN hF r)
 | .oth (k:=k) h=>.oth (k.mono hN hF h)
theorem Reps.mono (hN:∀a,N a->H a≠none->N' a/\H' a=H a) (hF:∀o,F o->F' o) {vs:List V} {ds:List D}:Reps K N F H vs ds->Reps K N' F' H' vs ds
 | .nil=>.nil
 | .cons h t=>.cons (Rep.mono hN hF h) (Reps.mono hN hF t)
end
theorem Rep.any {d:D} (h:Rep K N F H v d):Rep K Any AnyF H v d:=h.mono (fun _ _ _=>⟨trivial,rfl⟩) (fun _ _=>trivial)
theorem Reps.any {ds:List D} (h:Reps K N F H vs ds):Reps K Any AnyF H vs ds:=h.mono (fun _ _ _=>⟨trivial,rfl⟩) (fun _ _=>trivial)
mutual
theorem Rep.avoid (h1:∀a,¬N' a->IsM (H a)) (h2:∀a,F (some a)->N' a) {v:V} {d:D}:Rep K N F H v d->Rep K N' F H v d
 | .int i=>.int i
 | .bl i=>.bl i
 | .non=>.non
 | .str i=>.str i
 | .ty i=>.ty i
 | .tup (a:=a) n h r=>.tup (Classical.byContradiction fun z=>by
   have e:=h1 a z
   rcases h with h | ⟨o,h⟩ <;> rw [h] at e <;> exact e) h (Reps.avoid h1 h2 r)
 | .tupK h r=>.tupK h (Reps.avoid h1 h2 r)
 | .lst n f h r=>.lst (h2 _ f) f h (Reps.avoid h1 h2 r)
 | .lstF (a:=a) n f h r=>.lstF (Classical.byContradiction fun z=>by
   have e:=h1 a z
   rw [h] at e;exact e) f h (Reps.avoid h1 h2 r)
 | .lstK f h r=>.lstK f h (Reps.avoid h1 h2 r)
 | .dic n f h e rk r=>.dic (h2 _ f) f h e (Reps.avoid h1 h2 rk) (Reps.avoid h1 h2 r)
 | .exc (x:=a) n h e=>.exc (Classical.byContradiction fun z=>by
   have e:=h1 a z
   rw [h] at e;exact e) h e
 | .dib n f h e g rk r=>.dib (h2 _ f) f h e g (Reps.avoid h1 h2 rk) (Reps.avoid h1 h2 r)
 | .oth (k:=k) h=>.oth (k.avoid h1 h2 h)
theorem Reps.avoid (h1:∀a,¬N' a->IsM (H a)) (h2:∀a,F (some a)->N' a) {vs:List V} {ds:List D}:Reps K N F H vs ds->Reps K N' F H vs ds
 | .nil=>.nil
 | .cons h t=>.cons (Rep.avoid h1 h2 h) (Reps.avoid h1 h2 t)
end
mutual
noncomputable def flat:D->Bool
 | .lst _=>false
 | .dic _ _=>false
 | .dib _ _=>false
 | .oth _=>false
 | .tup ds=>flats ds
 | _=>true
noncomputable def flats:List D->Bool
 | []=>true
 | d::r=>flat d&&flats r
end
theorem gU:∀ms:List Int,flats (ms.map D.int)=true
 | []=>rfl
 | _::r=>by simp [flats,flat,gU r]
theorem iU:∀ks:List (List Int),flats (ks.map kT)=true
 | []=>rfl
 | _::r=>by simp [flats,kT,flat,gU,iU r]
mutual
theorem Rep.flat {v:V} {d:D}:Rep K N F H v d->VL.flat d=true->Rep K N F' H v d:=fun hh ee=>by
 cases hh with
 | int i=>exact .int i
 | bl i=>exact .bl i
 | non=>exact .non
 | str i=>exact .str i
 | ty i=>exact .ty i
 | tup n h r=>have e:=ee;exact .tup n h (Reps.flat r (by simpa [VL.flat] using e))
 | tupK h r=>have e:=ee;exact .tupK h (Reps.flat r (by simpa [VL.flat] using e))
 | lst n f h r=>have e:=ee;simp [VL.flat] at e
 | lstF n f h r=>have e:=ee;simp [VL.flat] at e
 | lstK f h r=>have e:=ee;simp [VL.flat] at e
 | dic n f h _ _ r=>have e:=ee;simp [VL.flat] at e
 | exc n h e0=>exact .exc n h e0
 | dib n f h _ _ _ r=>have e:=ee;simp [VL.flat] at e
 | oth h=>have e:=ee;simp [VL.flat] at e
theorem Reps.flat {vs:List V} {ds:List D}:Reps K N F H vs ds->flats ds=true->Reps K N F' H vs ds:=fun hh ee=>by
 cases hh with
 | nil=>exact .nil
 | cons h t=>
  have e:=ee
  simp only [flats,Bool.and_eq_true] at e
  exact .cons (Rep.flat h e.1) (Reps.flat t e.2)
end
theorem Reps.length:∀{vs:List V} {ds:List D},Reps K N F H vs ds->vs.length=ds.length
 | _,_,.nil=>rfl
 | _,_,.cons _ t=>by simp [Reps.length t]
theorem Reps.get:∀{vs:List V} {ds:List D} {i:Nat} {v:V},Reps K N F H vs ds->vs[i]?=some v->∃d,ds[i]?=some d/\Rep K N F H v d
 | _,_,0,_,.cons h _,e=>by simp at e;subst e;exact ⟨_,rfl,h⟩
 | _,_,i+1,v,.cons _ t,e=>by
  obtain ⟨d,h1,h2⟩:=Reps.get (i:=i) (v:=v) t (by simpa using e)
  exact ⟨d,by simpa using h1,h2⟩
 | _,_,_,_,.nil,e=>by simp at e
theorem Reps.getD:∀{vs:List V} {ds:List D} {i:Nat} {d:D},Reps K N F H vs ds->ds[i]?=some d->∃v,vs[i]?=some v/\Rep K N F H v d
 | _,_,0,_,.cons h _,e=>by simp at e;subst e;exact ⟨_,rfl,h⟩
 | _,_,i+1,v,.cons _ t,e=>by
  obtain ⟨d,h1,h2⟩:=Reps.getD (i:=i) (d:=v) t (by simpa using e)
  exact ⟨d,by simpa using h1,h2⟩
 | _,_,_,_,.nil,e=>by simp at e
theorem Reps.append:∀{vs ws:List V} {ds es:List D},Reps K N F H vs ds->Reps K N F H ws es->Reps K N F H (vs++ws) (ds++es)
 | _,_,_,_,.nil,s=>s
 | _,_,_,_,.cons h t,s=>.cons h (Reps.append t s)
theorem Reps.set {d:D} (h:Rep K N F H v d):∀{vs:List V} {ds:List D} (i:Nat),Reps K N F H vs ds->Reps K N F H (vs.set i v) (ds.set i d)
 | _,_,_,.nil=>by simpa using .nil
 | _,_,0,.cons _ t=>by simpa using .cons h t
 | _,_,i+1,.cons q t=>by simpa using .cons q (Reps.set h i t)
theorem Reps.ints:∀{ns:List Int},Reps K N F H (ns.map V.int) (ns.map D.int)
 | []=>.nil
 | _::r=>.cons (.int _) (Reps.ints (ns:=r))
theorem Reps.toInts:∀{vs:List V} {ns:List Int},Reps K N F H vs (ns.map D.int)->vs=ns.map V.int
 | _,[],.nil=>rfl
 | _,n::ns,.cons h t=>by cases h;rw [Reps.toInts t];rfl
theorem fL {a:Addr} (h:SqT K (fun _=>none) a vs):SqT K H a vs:=by
 rcases h with (h | ⟨o,h⟩) | h
 ·cases h
 ·cases h
 ·exact .inr h
theorem iV {a:Addr} (h:SqL K (fun _=>none) a vs):SqL K H a vs:=by
 rcases h with (h | ⟨o,h⟩) | h
 ·cases h
 ·cases h
 ·exact .inr h
theorem Rep.sqT {ds:List D} (h:Rep K N F H v (.tup ds)):∃a vs,v=.ref a/\SqT K H a vs/\Reps K N F H vs ds:=by
 cases h with
 | tup n h r=>exact ⟨_,_,rfl,.inl h,r⟩
 | tupK h r=>exact ⟨_,_,rfl,fL h,r⟩
theorem Rep.sqL {ds:List D} (h:Rep K N F H v (.lst ds)):∃a vs,v=.ref a/\SqL K H a vs/\Reps K N F H vs ds:=by
 cases h with
 | lst n f h r=>exact ⟨_,_,rfl,.inl (.inl h),r⟩
 | lstF n f h r=>exact ⟨_,_,rfl,.inl (.inr ⟨_,h⟩),r⟩
 | lstK f h r=>exact ⟨_,_,rfl,iV h,r⟩
theorem Rep.of_sqL {a:Addr} {ds:List D} (h:SqL K H a vs) (n:N a) (f:∀o,F o) (r:Reps K N F H vs ds):Rep K N F H (.ref a) (.lst ds):=by
 rcases h with (h | ⟨o,h⟩) | h
 ·exact .lst n (f _) h r
 ·exact .lstF n (f _) h r
 ·exact .lstK (f _) (.inr h) r
end
structure Cp where
 ok:PySem.W.Frag->Hp->AP->Hp->Addr->Prop
 ism:∀{K:PySem.W.Frag} {H0:Hp} {N:AP} {H:Hp} {a:Addr},ok K H0 N H a->IsM (H a)
 mono:∀{K:PySem.W.Frag} {H0:Hp} {N N':AP} {H H':Hp} {a:Addr},(∀b,N b->H b≠none->N' b/\H' b=H b)->H' a=H a->ok K H0 N H a->ok K H0 N' H' a
inductive Sl where
 | no | val (d:D) | fre (d:D) | own (ds:List D) | pen (ad:Option Addr) (ns:List Int) | odi (ks:List (List Int)) (vs:List D) | obj (k:Cp)
noncomputable def Sl.mut:Sl->Bool
 | .own _=>true
 | .pen _ _=>true
 | .odi _ _=>true
 | .obj _=>true
 | _=>false
noncomputable def Mo (Z:AP) (σ:St) (S:List Sl) (a:Addr):Prop:=(∃(i:Nat) (s:Sl),S[i]?=some s/\s.mut=true/\σ[i]?=some (some (V.ref a)))\/Z a
noncomputable abbrev NM (Z:AP) (σ:St) (S:List Sl):AP:=fun a=>¬Mo Z σ S a
noncomputable def p6 (K:PySem.W.Frag) (H0:Hp) (N:AP) (H:Hp) (o:Option V):Sl->Prop
 | .no=>True
 | .val d=>∃v,o=some v/\Rep K N AnyF H v d
 | .fre d=>∃v,o=some v/\Rep K N (Fr H0) H v d
 | .own ds=>∃a vs,o=some (.ref a)/\H a=some (.lst vs)/\H0 a=none/\Reps K N (Fr H0) H vs ds
 | .pen ad ns=>∃a,o=some (.ref a)/\(∀b,ad=some b->a=b)/\H a=some (.lst (ns.map .int))
 | .odi ks ds=>∃a es,o=some (.ref a)/\(∃ob,H a=some (bF a ob es))/\H0 a=none/\(es.map (·.1)=ks/\Reps K N AnyF H (es.map fun x=>V.ref x.2.1) (ks.map kT))/\Reps K N (Fr H0) H (es.map (·.2.2)) ds
 | .obj k=>∃a,o=some (.ref a)/\H0 a=none/\k.ok K H0 N H a
structure OK (K:PySem.W.Frag) (H0:Hp) (Z:AP) (σ:St) (H:Hp) (S:List Sl):Prop where
 len:σ.length=S.length
 at_:∀(i:Nat) (o:Option V) (s:Sl),σ[i]?=some o->S[i]?=some s->p6 K H0 (NM Z σ S) H o s
 inj:∀(i j:Nat) (a:Addr) (s t:Sl),S[i]?=some s->S[j]?=some t->s.mut=true->t.mut=true->σ[i]?=some (some (V.ref a))->σ[j]?=some (some (V.ref a))->i=j
 dom:∀a,H a=none->H0 a=none
 zl:∀a,Z a->IsM (H a)
 nz:∀(i:Nat) (s:Sl) (a:Addr),S[i]?=some s->s.mut=true->σ[i]?=some (some (V.ref a))->¬Z a
noncomputable def Step (Z:AP) (σ:St) (S:List Sl) (H:Hp) (σ':St) (S':List Sl) (H':Hp):Prop:=(∀a,NM Z σ S a->H a≠none->H' a=H a/\NM Z σ' S' a)/\(∀a,H' a=none->H a=none)/\∀a,Z a->H a≠none->H' a=H a
section
variable {K:PySem.W.Frag} {N N':AP} {F F':FP} {H H' H'' H0:Hp} {Z:AP} {σ σ' σ'':St} {S S' S'':List Sl}
theorem Step.refl:Step Z σ S H σ S H:=⟨fun _ n _=>⟨rfl,n⟩,fun _ h=>h,fun _ _ _=>rfl⟩
theorem Step.trans (a:Step Z σ S H σ' S' H') (b:Step Z σ' S' H' σ'' S'' H''):Step Z σ S H σ'' S'' H'':=
 ⟨fun x n h=>by
  obtain ⟨e1,n1⟩:=a.1 x n h
  obtain ⟨e2,n2⟩:=b.1 x n1 (by rw [e1];exact h)
  exact ⟨e2.trans e1,n2⟩,fun x h=>a.2.1 x (b.2.1 x h),fun x z h=>by
  have e1:=a.2.2 x z h
  exact (b.2.2 x z (by rw [e1];exact h)).trans e1⟩
theorem Rep.step {d:D} (h:Rep K (NM Z σ S) F H v d) (st:Step Z σ S H σ' S' H'):Rep K (NM Z σ' S') F H' v d:=h.mono (fun a n e=>⟨(st.1 a n e).2,(st.1 a n e).1⟩) fun _ x=>x
theorem Reps.step {ds:List D} (h:Reps K (NM Z σ S) F H vs ds) (st:Step Z σ S H σ' S' H'):Reps K (NM Z σ' S') F H' vs ds:=h.mono (fun a n e=>⟨(st.1 a n e).2,(st.1 a n e).1⟩) fun _ x=>x
theorem Rep.stp {d:D} (h:Rep K (NM Z σ S) F H v d) (st:∀a,NM Z σ S a->H a≠none->H' a=H a/\NM Z σ' S' a):Rep K (NM Z σ' S') F H' v d:=h.mono (fun a n e=>⟨(st a n e).2,(st a n e).1⟩) fun _ x=>x
theorem Reps.stp {ds:List D} (h:Reps K (NM Z σ S) F H vs ds) (st:∀a,NM Z σ S a->H a≠none->H' a=H a/\NM Z σ' S' a):Reps K (NM Z σ' S') F H' vs ds:=h.mono (fun a n e=>⟨(st a n e).2,(st a n e).1⟩) fun _ x=>x
theorem OK.mo (k:OK K H0 Z σ H S) {a:Addr} (h:Mo Z σ S a):IsM (H a):=by
 rcases h with ⟨i,s,e1,e2,e3⟩ | h
 case inr=>exact k.zl a h
 have q:=k.at_ i _ s e3 e1
 cases s with
 | no=>cases e2
 | val d=>cases e2
 | fre d=>cases e2
 | own ds=>obtain ⟨b,vs,h1,h2,_⟩:=q;cases h1;rw [h2];trivial
 | pen ad ns=>obtain ⟨b,h1,_,h2⟩:=q;cases h1;rw [h2];trivial
 | odi ks ds=>obtain ⟨b,kvs,h1,⟨ob,h2⟩,_⟩:=q;cases h1;rw [h2];trivial
 | obj k=>obtain ⟨b,h1,_,h2⟩:=q;cases h1;exact k.ism h2
theorem OK.grow (k:OK K H0 Z σ H S) (h:∀a,H a≠none->H' a=H a):OK K H0 Z σ H' S where
 len:=k.len
 inj:=k.inj
 nz:=k.nz
 zl:=fun a z=>by
  have e:=k.zl a z
  rw [h a e.ne];exact e
 dom:=fun a e=>k.dom a (Classical.byContradiction fun z=>by rw [h a z] at e;exact z e)
 at_:=fun i o s e1 e2=>by
  have q:=k.at_ i o s e1 e2
  have hm:∀a,NM Z σ S a->H a≠none->NM Z σ S a/\H' a=H a:=fun a n e=>⟨n,h a e⟩
  cases s with
  | no=>trivial
  | val d=>obtain ⟨v,e,r⟩:=q;exact ⟨v,e,r.mono hm fun _ x=>x⟩
  | fre d=>obtain ⟨v,e,r⟩:=q;exact ⟨v,e,r.mono hm fun _ x=>x⟩
  | own ds=>obtain ⟨a,vs,e,e',e0,r⟩:=q;exact ⟨a,vs,e,by rw [h a (by simp [e'])];exact e',e0,r.mono hm fun _ x=>x⟩
  | pen ad ns=>obtain ⟨a,e,e1,e'⟩:=q;exact ⟨a,e,e1,by rw [h a (by simp [e'])];exact e'⟩
  | odi ks ds=>obtain ⟨a,vs,e,⟨ob,e'⟩,e0,ek,r⟩:=q;exact ⟨a,vs,e,⟨ob,by rw [h a (by simp [e'])];exact e'⟩,e0,⟨ek.1,ek.2.mono hm fun _ x=>x⟩,r.mono hm fun _ x=>x⟩
  | obj k=>obtain ⟨a,e,e0,r⟩:=q;exact ⟨a,e,e0,k.mono hm (h a (k.ism r).ne) r⟩
theorem Step.grow (h:∀a,H a≠none->H' a=H a):Step Z σ S H σ S H':=⟨fun a n e=>⟨h a e,n⟩,fun a e=>Classical.byContradiction fun z=>by rw [h a z] at e;exact z e,fun a _ e=>h a e⟩
theorem aX {p:Addr} {o:HO} (hp:H p=none):∀a,H a≠none->upd H p o a=H a:=fun a e=>aD fun z=>e (by rw [z];exact hp)
end
inductive VR where
 | d (x:D) | own (i:Nat)
noncomputable def getO:Option Sl->Option D
 | some (.own ds)=>some (.lst ds)
 | some (.pen _ ns)=>some (.lst (ns.map .int))
 | some (.odi ks vs)=>some (.dic ks vs)
 | _=>none
noncomputable def get (S:List Sl):VR->Option D
 | .d x=>some x
 | .own i=>getO S[i]?
noncomputable def d0 (K:PySem.W.Frag) (F:FP) (Z:AP) (σ:St) (S:List Sl) (H:Hp) (v:V):VR->Prop
 | .d x=>Rep K (NM Z σ S) F H v x
 | .own i=>σ[i]?=some (some v)
section
variable {K:PySem.W.Frag} {N N':AP} {F F':FP} {H H' H'' H0:Hp} {Z:AP} {σ σ' σ'':St} {S S' S'':List Sl}
theorem d0.step {r:VR} (h:d0 K F Z σ S H v r) (st:Step Z σ S H σ S' H'):d0 K F Z σ S' H' v r:=by
 cases r with
 | d x=>exact Rep.step h st
 | own i=>exact h
theorem d0.get {r:VR} {x:D} (h:d0 K F Z σ S H v r) (k:OK K H0 Z σ H S) (e:get S r=some x):Rep K Any AnyF H v x:=by
 cases r with
 | d y=>cases e;exact Rep.any h
 | own i=>
  have h:σ[i]?=some (some v):=h
  have e:getO S[i]?=some x:=e
  cases es:S[i]? with
  | none=>rw [es] at e;cases e
  | some s=>
   rw [es] at e
   cases s with
   | no=>cases e
   | val d=>cases e
   | fre d=>cases e
   | own ds=>
    cases e
    obtain ⟨a,vs,h1,h2,h3,h4⟩:=k.at_ i _ _ h es
    cases h1
    exact .lst trivial trivial h2 h4.any
   | pen ad ns=>
    cases e
    obtain ⟨a,h1,_,h2⟩:=k.at_ i _ _ h es
    cases h1
    exact .lst trivial trivial h2 Reps.ints
   | odi ks ds=>
    cases e
    obtain ⟨a,kvs,h1,⟨ob,h2⟩,h3,h4,h5⟩:=k.at_ i _ _ h es
    cases h1
    exact .dic trivial trivial h2 h4.1 h4.2.any h5.any
   | obj k=>cases e
end
noncomputable abbrev VT:=List Sl->(VR->List Sl->Prop)->Prop
noncomputable abbrev VTT:=List Sl->(Bool->List Sl->Prop)->Prop
noncomputable abbrev VTA:=List Sl->(List VR->List Sl->Prop)->Prop
noncomputable abbrev VTN:=List Sl->(List D->List Sl->Prop)->Prop
noncomputable def FM (H0:Hp) (m:Bool):FP:=fun o=>m=true->Fr H0 o
noncomputable def SndE (K:PySem.W.Frag) (m:Bool) (te:TE) (t:VT):Prop:=∀H0 Z σ H S Q C,OK K H0 Z σ H S->t S Q->(∀v H' r S',OK K H0 Z σ H' S'->Step Z σ S H σ S' H'->d0 K (FM H0 m) Z σ S' H' v r->Q r S'->C v H')->te σ H C
noncomputable def SndT (K:PySem.W.Frag) (te:TT) (t:VTT):Prop:=∀H0 Z σ H S Q C,OK K H0 Z σ H S->t S Q->(∀b H' S',OK K H0 Z σ H' S'->Step Z σ S H σ S' H'->Q b S'->C b H')->te σ H C
inductive cM (K:PySem.W.Frag) (F:FP) (Z:AP) (σ:St) (S:List Sl) (H:Hp):List V->List VR->Prop where
 | nil:cM K F Z σ S H [] []
 | cons {v:V} {r:VR} {vs:List V} {rs:List VR} (h:d0 K F Z σ S H v r) (t:cM K F Z σ S H vs rs):cM K F Z σ S H (v::vs) (r::rs)
noncomputable def gets (S:List Sl):List VR->Option (List D)
 | []=>some []
 | r::rs=>match get S r,gets S rs with
  | some d,some ds=>some (d::ds)
  | _,_=>none
noncomputable def zZ (K:PySem.W.Frag) (m:Bool) (te:TA) (t:VTA):Prop:=∀H0 Z σ H S Q C,OK K H0 Z σ H S->t S Q->(∀vs H' rs S',OK K H0 Z σ H' S'->Step Z σ S H σ S' H'->cM K (FM H0 m) Z σ S' H' vs rs->Q rs S'->C vs H')->te σ H C
noncomputable def ED (K:PySem.W.Frag) (te:TE) (t:VTN):Prop:=∀H0 Z σ H S Q C,OK K H0 Z σ H S->t S Q->(∀a vs ds H1 H' S',OK K H0 Z σ H1 S'->Step Z σ S H σ S' H1->H1 a=none->(∀b,H1 b≠none->H' b=H1 b)->H' a=some (.lst vs) ->
 Reps K (fun b=>NM Z σ S' b/\b≠a) (Fr H0) H' vs ds->Q ds S'->C (.ref a) H')->te σ H C
structure VE (K:PySem.W.Frag) (X:Cx) (m:Bool) (e:Expr) (te:TE) (t:VT):Prop where
 pe:PE X e te
 snd:SndE K m te t
structure VTe (K:PySem.W.Frag) (X:Cx) (e:Expr) (te:TT) (t:VTT):Prop where
 pe:PT X e te
 snd:SndT K te t
structure VWe (K:PySem.W.Frag) (X:Cx) (e:Expr) (te:TT) (t:VTT):Prop where
 pe:PW X e te
 snd:SndT K te t
structure VA (K:PySem.W.Frag) (X:Cx) (m:Bool) (es:List Expr) (te:TA) (t:VTA):Prop where
 pe:PA X es te
 snd:zZ K m te t
structure VN (K:PySem.W.Frag) (X:Cx) (e:Expr) (te:TE) (t:VTN):Prop where
 pe:PE X e te
 snd:ED K te t
section
variable {K:PySem.W.Frag} {N N':AP} {F F':FP} {H H' H'' H0:Hp} {Z:AP} {σ σ' σ'':St} {S S' S'':List Sl}
theorem cM.gets {rs:List VR} {ds:List D} (h:cM K F Z σ S H vs rs) (k:OK K H0 Z σ H S) (e:gets S rs=some ds):Reps K Any AnyF H vs ds:=by
 induction h generalizing ds with
 | nil=>cases e;exact .nil
 | cons h t ih=>
  unfold VL.gets at e
  split at e
  ·rename_i d es h1 h2
   cases e
   exact .cons (h.get k h1) (ih h2)
  ·cases e
end
end VL
end
variable {kvs:List (List Int×VL.D)} {ds:List VL.D} {S:List VL.Sl} {d:VL.D} {r:VL.VR} {F:VL.FP} {Z:VL.AP} {H0:L2.Hp} {rs:List VL.VR} {q:VL.D->Prop} {p:List VL.D->(VL.D->Prop)->Prop}
section
namespace VL
open PySem L2
section
variable {K:PySem.W.Frag} {X:Cx} {m:Bool} {e a b c:Expr} {ta tb tc te:TE} {va vb vc:VT} {pos:Pos}
theorem FM.any {a:Option Addr}:FM H0 false a:=fun z=>nomatch z
noncomputable def vC (d:D):VT:=fun S Q=>Q (.d d) S
theorem af {i j}:VE K X m (.Constant (.int i) j pos) (tC (.int i)) (vC (.int i)):=⟨gm,fun _ _ _ _ _ _ _ k h q=>q _ _ (.d (.int i)) _ k .refl (Rep.int i) h⟩
theorem dU {i j}:VE K X m (.Constant (.bool i) j pos) (tC (.bl i)) (vC (.bl i)):=⟨B0,fun _ _ _ _ _ _ _ k h q=>q _ _ (.d (.bl i)) _ k .refl (Rep.bl i) h⟩
theorem bX {j}:VE K X m (.Constant .none j pos) (tC .non) (vC .non):=⟨zp,fun _ _ _ _ _ _ _ k h q=>q _ _ (.d .non) _ k .refl Rep.non h⟩
theorem kF {i j}:VE K X m (.Constant (.str i) j pos) (tC (.str i)) (vC (.str i)):=⟨zr,fun _ _ _ _ _ _ _ k h q=>q _ _ (.d (.str i)) _ k .refl (Rep.str i) h⟩
theorem iW (h:PE X e (tC v)) (r:∀N H,Rep K N AnyF H v d):VE K X false e (tC v) (vC d):=⟨h,fun _ _ _ _ _ _ _ k h q=>q _ _ (.d d) _ k .refl (show Rep K _ _ _ v d from (r _ _).mono (fun _ n _=>⟨n,rfl⟩) (fun _ _=>FM.any)) h⟩
noncomputable def rdO (i:Nat):Option Sl->Option VR
 | some (.val d)=>some (.d d)
 | some (.fre d)=>some (.d d)
 | some (.own _)=>some (.own i)
 | some (.pen _ _)=>some (.own i)
 | some (.odi _ _)=>some (.own i)
 | some (.obj _)=>some (.own i)
 | _=>none
noncomputable def lX (i:Nat):VT:=fun S Q=>∃r,rdO i S[i]?=some r/\Q r S
theorem OK.var {H0 H:Hp} (k:OK K H0 Z σ H S) {i:Nat} (h:rdO i S[i]?=some r):∃v,σ[i]?=some (some v)/\d0 K (FM H0 false) Z σ S H v r:=by
 have hl:=k.len
 cases es:S[i]? with
 | none=>rw [es] at h;cases h
 | some s=>
  have hi:i < σ.length:=by rw [hl];exact (List.getElem?_eq_some_iff.mp es).1
  have q:=k.at_ i _ s (List.getElem?_eq_getElem hi) es
  rw [es] at h
  cases s with
  | no=>cases h
  | val d=>obtain ⟨v,e,r'⟩:=q;cases h;exact ⟨v,by rw [List.getElem?_eq_getElem hi,e],r'.mono (fun _ n _=>⟨n,rfl⟩) fun _ _=>FM.any⟩
  | fre d=>obtain ⟨v,e,r'⟩:=q;cases h;exact ⟨v,by rw [List.getElem?_eq_getElem hi,e],r'.mono (fun _ n _=>⟨n,rfl⟩) fun _ x _=>x⟩
  | own ds=>obtain ⟨a,vs,e,_⟩:=q;cases h;exact ⟨.ref a,by rw [List.getElem?_eq_getElem hi,e],by show σ[i]?=_;rw [List.getElem?_eq_getElem hi,e]⟩
  | pen ad ds=>obtain ⟨a,e,_⟩:=q;cases h;exact ⟨.ref a,by rw [List.getElem?_eq_getElem hi,e],by show σ[i]?=_;rw [List.getElem?_eq_getElem hi,e]⟩
  | odi ks ds=>obtain ⟨a,_,e,_⟩:=q;cases h;exact ⟨.ref a,by rw [List.getElem?_eq_getElem hi,e],by show σ[i]?=_;rw [List.getElem?_eq_getElem hi,e]⟩
  | obj k=>obtain ⟨a,e,_⟩:=q;cases h;exact ⟨.ref a,by rw [List.getElem?_eq_getElem hi,e],by show σ[i]?=_;rw [List.getElem?_eq_getElem hi,e]⟩
theorem ae (i:Nat) (h:PE X e (cG i)):VE K X false e (cG i) (lX i):=⟨h,fun H0 Z σ H S Q C k zq1 hc=>by
 obtain ⟨r,h,q⟩:=zq1
 obtain ⟨v,e,rr⟩:=k.var h
 exact ⟨v,e,hc _ _ _ _ k .refl rr q⟩⟩
noncomputable def oN (t:VT):VT:=fun S Q=>t S fun r S'=>(match r with | .d d=>flat d=true | .own _=>True)/\Q r S'
theorem aP (h:VE K X false e te va):VE K X m e te (oN va):=⟨h.pe,fun H0 Z σ H S Q C k t hc=>h.snd H0 Z σ H S _ C k t fun v H' r S' k' st rr ⟨f,q⟩=>hc v H' r S' k' st (by
 cases r with
 | d x=>exact Rep.flat rr f
 | own i=>exact rr) q⟩
noncomputable def v2 (w:D->D->(D->Prop)->Prop) (va vb:VT):VT:=fun S Q=>va S fun ra S1=>vb S1 fun rb S2=>∃d1 d2,get S2 ra=some d1/\get S2 rb=some d2/\w d1 d2 fun d=>Q (.d d) S2
noncomputable def dA (K:PySem.W.Frag) (r:R2) (w:D->D->(D->Prop)->Prop):Prop:=∀(x y:V) (H:Hp) (d1 d2:D) (q:D->Prop) (C:VK),Rep K Any AnyF H x d1->Rep K Any AnyF H y d2->w d1 d2 q->(∀z dz,q dz->(∀N F,Rep K N F H z dz)->C z H)->r x y H C
theorem Aa {r:R2} {w:D->D->(D->Prop)->Prop} (L:dA K r w) (ha:SndE K false ta va) (hb:SndE K false tb vb):SndE K m (tOp r ta tb) (v2 w va vb):=by
 intro H0 Z σ H S Q C k t hc
 refine ha H0 Z σ H S _ _ k t fun x H1 ra S1 k1 st1 r1 t1=>?_
 refine hb H0 Z σ H1 S1 _ _ k1 t1 fun y H2 rb S2 k2 st2 r2 zr1=>?_
 obtain ⟨d1,d2,e1,e2,t2⟩:=zr1
 exact L x y H2 d1 d2 _ _ ((r1.step st2).get k2 e1) (r2.get k2 e2) t2 fun z dz q rz=>hc z H2 (.d dz) S2 k2 (st1.trans st2) (rz _ _) q
theorem az {op:Operator} {r:R2} {w:D->D->(D->Prop)->Prop} (ho:OpR X (binaryOp op) r) (L:dA K r w) (ha:VE K X false a ta va) (hb:VE K X false b tb vb):VE K X m (.BinOp a op b pos) (tOp r ta tb) (v2 w va vb):=⟨ow ho ha.pe hb.pe,Aa L ha.snd hb.snd⟩
@[reducible] def ofV:V->D
 | .int i=>.int i
 | .bl b=>.bl b
 | .str x=>.str x
 | .ty x=>.ty x
 | _=>.non
noncomputable def scV:V->Bool
 | .int _=>true | .bl _=>true | .str _=>true | .non=>true | .ty _=>true | _=>false
theorem nv (h:scV v=true) {N:AP}:Rep K N F H v (ofV v):=by
 cases v <;> first | exact .int _ | exact .bl _ | exact .str _ | exact .non | exact .ty _ | cases h
noncomputable def wI (C:Int->Int->Prop) (g:Int->Int->V):D->D->(D->Prop)->Prop:=fun d1 d2 q=>∃i j,d1=.int i/\d2=.int j/\C i j/\q (ofV (g i j))
noncomputable def wI0 (g:Int->Int->V):D->D->(D->Prop)->Prop:=fun d1 d2 q=>∃i j,d1=.int i/\d2=.int j/\q (ofV (g i j))
theorem bI {C:Int->Int->Prop} {g:Int->Int->V} (hg:∀i j,scV (g i j)=true:=by intro _ _;rfl):dA K (rI C g) (wI C g):=by
 rintro x y H d1 d2 q Cc r1 r2 ⟨i,j,rfl,rfl,c,h⟩ hc
 cases r1;cases r2
 exact ⟨i,j,rfl,rfl,c,hc _ _ h fun _ _=>nv (hg i j)⟩
theorem aM {g:Int->Int->V} (hg:∀i j,scV (g i j)=true:=by intro _ _;rfl):dA K (rI0 g) (wI0 g):=by
 rintro x y H d1 d2 q Cc r1 r2 ⟨i,j,rfl,rfl,h⟩ hc
 cases r1;cases r2
 exact ⟨i,j,rfl,rfl,hc _ _ h fun _ _=>nv (hg i j)⟩
noncomputable def toV:D->Option V
 | .int i=>some (.int i)
 | .bl b=>some (.bl b)
 | .str x=>some (.str x)
 | .non=>some .non
 | _=>none
theorem ik {u:V} {N:AP} (h:Rep K N F H v d) (e:toV d=some u):v=u:=by
 cases h <;> cases e <;> rfl
noncomputable def wEq:D->D->(D->Prop)->Prop:=fun d1 d2 q=>∃x y,toV d1=some x/\toV d2=some y/\vz x y=true/\q (.bl (decide (x=y)))
noncomputable def wNe:D->D->(D->Prop)->Prop:=fun d1 d2 q=>∃x y,toV d1=some x/\toV d2=some y/\vz x y=true/\q (.bl (!decide (x=y)))
theorem dX:dA K rEq wEq:=by
 rintro x y H d1 d2 q C r1 r2 ⟨x',y',e1,e2,s,h⟩ hc
 obtain rfl:=ik r1 e1
 obtain rfl:=ik r2 e2
 exact ⟨s,hc _ _ h fun _ _=>.bl _⟩
theorem Cq:dA K rNe wNe:=by
 rintro x y H d1 d2 q C r1 r2 ⟨x',y',e1,e2,s,h⟩ hc
 obtain rfl:=ik r1 e1
 obtain rfl:=ik r2 e2
 exact ⟨s,hc _ _ h fun _ _=>.bl _⟩
noncomputable def rh:D->Bool
 | .non=>true
 | _=>false
theorem lY {N:AP} (h:Rep K N F H v d):decide (v=.non)=rh d:=by cases h <;> rfl
noncomputable def Ab (neg:Bool):D->D->(D->Prop)->Prop:=fun d1 d2 q=>d2=.non/\q (.bl (if neg then !rh d1 else rh d1))
theorem lZ:dA K (fun x y H Q=>y=.non/\Q (.bl (decide (x=.non))) H) (Ab false):=by
 rintro x y H d1 d2 q C r1 r2 ⟨rfl,h⟩ hc
 cases r2
 exact ⟨rfl,by rw [lY r1];exact hc _ _ h fun _ _=>.bl _⟩
theorem rj:dA K (fun x y H Q=>y=.non/\Q (.bl (!decide (x=.non))) H) (Ab true):=by
 rintro x y H d1 d2 q C r1 r2 ⟨rfl,h⟩ hc
 cases r2
 exact ⟨rfl,by rw [lY r1];exact hc _ _ h fun _ _=>.bl _⟩
noncomputable def fM (t:VT):VTT:=fun S Q=>t S fun r S'=>∃k,r=.d (.bl k)/\Q k S'
theorem vQ (h:SndE K m te va):SndT K (oB te) (fM va):=fun H0 Z σ H S Q C k t hc=>h H0 Z σ H S _ _ k t fun v H' r S' k' st rr zq1=>by
 obtain ⟨b,e,q⟩:=zq1
 subst e
 cases (show Rep K _ _ H' v (.bl b) from rr)
 exact ⟨b,rfl,hc b H' S' k' st q⟩
theorem EE (h:SndE K m te va):SndT K (tB te) (fM va):=fun H0 Z σ H S Q C k t hc=>h H0 Z σ H S _ _ k t fun v H' r S' k' st rr zq1=>by
 obtain ⟨b,e,q⟩:=zq1
 subst e
 cases (show Rep K _ _ H' v (.bl b) from rr)
 exact ⟨b,rfl,hc b H' S' k' st q⟩
theorem aO {op:CmpOp} {r:R2} {w:D->D->(D->Prop)->Prop} (ho:OpR X (compareOp op) r) (L:dA K r w) (ha:VE K X false a ta va) (hb:VE K X false b tb vb) (hm:behindInMarks op b=false):VTe K X (.Compare a [op] [b] pos) (oB (tOp r ta tb)) (fM (v2 w va vb)):=
 ⟨oC ho ha.pe hb.pe hm,vQ (m:=false) (Aa L ha.snd hb.snd)⟩
theorem cU {op:CmpOp} {r:R2} {w:D->D->(D->Prop)->Prop} (ho:OpR X (compareOp op) r) (L:dA K r w) (ha:VE K X false a ta va) (hb:VE K X false b tb vb) (hm:behindInMarks op b=false):VE K X m (.Compare a [op] [b] pos) (tOp r ta tb) (v2 w va vb):=
 ⟨vA ho ha.pe hb.pe hm,Aa L ha.snd hb.snd⟩
theorem cu (h:VE K X false e te va) (he:∀whole,isTrue e X.env whole=(do let v <- whole;standAt e.pos;holding [v] (truthy v)):=by intro _;rfl):VTe K X e (tB te) (fM va):=⟨zt h.pe he,EE h.snd⟩
noncomputable def tru:D->Option Bool
 | .bl b=>some b
 | .int i=>some (i != 0)
 | .non=>some false
 | .lst ds=>some !ds.isEmpty
 | .tup ds=>some !ds.isEmpty
 | _=>none
section
variable {tA tB':TT} {wA wB:VTT} {rest:List Expr}
noncomputable def Cr (t u:VTT):VTT:=fun S Q=>t S fun c S1=>if c=true then u S1 Q else Q false S1
noncomputable def vOr (t u:VTT):VTT:=fun S Q=>t S fun c S1=>if c=true then Q true S1 else u S1 Q
noncomputable def Ac (t:VTT):VTT:=fun S Q=>t S fun c S1=>Q (!c) S1
theorem vR (h:VTe K X a tA wA):VWe K X (.BoolOp .And [a] pos) tA wA:=⟨vp h.pe,h.snd⟩
theorem gB (h:VTe K X a tA wA):VWe K X (.BoolOp .Or [a] pos) tA wA:=⟨zu h.pe,h.snd⟩
theorem Ad (ha:VTe K X a tA wA) (hb:VWe K X (.BoolOp .And (b::rest) pos) tB' wB):VWe K X (.BoolOp .And (a::b::rest) pos) (B1 tA tB') (Cr wA wB):=⟨zv ha.pe hb.pe,fun H0 Z σ H S Q C k t hc=>
 ha.snd H0 Z σ H S _ _ k t fun c H1 S1 k1 st1 q=>by
  cases c with
  | true=>rw [if_pos rfl] at q ⊢;exact hb.snd H0 Z σ H1 S1 _ _ k1 q fun c2 H2 S2 k2 st2 q2=>hc c2 H2 S2 k2 (st1.trans st2) q2
  | false=>rw [if_neg Bool.false_ne_true] at q ⊢;exact hc false H1 S1 k1 st1 q⟩
theorem jS (ha:VTe K X a tA wA) (hb:VWe K X (.BoolOp .Or (b::rest) pos) tB' wB):VWe K X (.BoolOp .Or (a::b::rest) pos) (tOr tA tB') (vOr wA wB):=⟨B3 ha.pe hb.pe,fun H0 Z σ H S Q C k t hc=>
 ha.snd H0 Z σ H S _ _ k t fun c H1 S1 k1 st1 q=>by
  cases c with
  | false=>rw [if_neg Bool.false_ne_true] at q ⊢;exact hb.snd H0 Z σ H1 S1 _ _ k1 q fun c2 H2 S2 k2 st2 q2=>hc c2 H2 S2 k2 (st1.trans st2) q2
  | true=>rw [if_pos rfl] at q ⊢;exact hc true H1 S1 k1 st1 q⟩
theorem iX (h:VWe K X e tA wA):VTe K X e tA wA:=⟨h.pe.pt,h.snd⟩
theorem cw (h:VTe K X a tA wA):VTe K X (.UnaryOp .Not a pos) (B2 tA) (Ac wA):=⟨zw h.pe,fun H0 Z σ H S Q C k t hc=>h.snd H0 Z σ H S _ _ k t fun c H1 S1 k1 st1 q=>hc (!c) H1 S1 k1 st1 q⟩
noncomputable def yj (ta tb:VT):VT:=fun S Q=>ta S fun r S1=>∃c,r=.d (.bl c)/\if c=true then tb S1 Q else Q (.d (.bl false)) S1
noncomputable def Cs (ta tb:VT):VT:=fun S Q=>ta S fun r S1=>∃c,r=.d (.bl c)/\if c=true then Q (.d (.bl true)) S1 else tb S1 Q
theorem ny {op} (h:VE K X m a ta va):VE K X m (.BoolOp op [a] pos) ta va:=⟨zx h.pe,h.snd⟩
theorem rm (ha:VE K X m a ta va) (hb:VE K X m (.BoolOp .And (b::rest) pos) tb vb):VE K X m (.BoolOp .And (a::b::rest) pos) (x6 ta tb) (yj va vb):=⟨zy ha.pe hb.pe,fun H0 Z σ H S Q C k t hc=>
 ha.snd H0 Z σ H S _ _ k t fun v H1 r S1 k1 st1 rr zq1=>by
  obtain ⟨c,e,q⟩:=zq1
  subst e
  cases (show Rep K _ _ H1 v (.bl c) from rr)
  refine ⟨c,rfl,?_⟩
  cases c with
  | true=>rw [if_pos rfl] at q ⊢;exact hb.snd H0 Z σ H1 S1 _ _ k1 q fun v2 H2 r2 S2 k2 st2 rr2 q2=>hc v2 H2 r2 S2 k2 (st1.trans st2) rr2 q2
  | false=>rw [if_neg Bool.false_ne_true] at q ⊢;exact hc _ H1 (.d (.bl false)) S1 k1 st1 (Rep.bl false) q⟩
theorem Ct (ha:VE K X m a ta va) (hb:VE K X m (.BoolOp .Or (b::rest) pos) tb vb):VE K X m (.BoolOp .Or (a::b::rest) pos) (B4 ta tb) (Cs va vb):=⟨B5 ha.pe hb.pe,fun H0 Z σ H S Q C k t hc=>
 ha.snd H0 Z σ H S _ _ k t fun v H1 r S1 k1 st1 rr zq1=>by
  obtain ⟨c,e,q⟩:=zq1
  subst e
  cases (show Rep K _ _ H1 v (.bl c) from rr)
  refine ⟨c,rfl,?_⟩
  cases c with
  | false=>rw [if_neg Bool.false_ne_true] at q ⊢;exact hb.snd H0 Z σ H1 S1 _ _ k1 q fun v2 H2 r2 S2 k2 st2 rr2 q2=>hc v2 H2 r2 S2 k2 (st1.trans st2) rr2 q2
  | true=>rw [if_pos rfl] at q ⊢;exact hc _ H1 (.d (.bl true)) S1 k1 st1 (Rep.bl true) q⟩
noncomputable def vIf (t:VTT) (ta tb:VT):VT:=fun S Q=>t S fun c S1=>if c=true then ta S1 Q else tb S1 Q
theorem md (hc:VTe K X c tA wA) (ha:VE K X m a ta va) (hb:VE K X m b tb vb):VE K X m (.IfExp c a b pos) (tIf tA ta tb) (vIf wA va vb):=⟨qH hc.pe ha.pe hb.pe,fun H0 Z σ H S Q C k t hq=>
 hc.snd H0 Z σ H S _ _ k t fun c H1 S1 k1 st1 q=>by
  cases c with
  | true=>rw [if_pos rfl] at q ⊢;exact ha.snd H0 Z σ H1 S1 _ _ k1 q fun v2 H2 r2 S2 k2 st2 rr2 q2=>hq v2 H2 r2 S2 k2 (st1.trans st2) rr2 q2
  | false=>rw [if_neg Bool.false_ne_true] at q ⊢;exact hb.snd H0 Z σ H1 S1 _ _ k1 q fun v2 H2 r2 S2 k2 st2 rr2 q2=>hq v2 H2 r2 S2 k2 (st1.trans st2) rr2 q2⟩
end
noncomputable def vUn (g:Int->V) (va:VT):VT:=fun S Q=>va S fun r S1=>∃i,get S1 r=some (.int i)/\Q (.d (ofV (g i))) S1
theorem gV {op:UnaryOp} {g:Int->V} (ho:UnR X (unaryOp op) (rU g)) (ha:VE K X false a ta va) (hg:∀i,scV (g i)=true:=by intro _;rfl):VE K X m (.UnaryOp op a pos) (tUn (rU g) ta) (vUn g va):=⟨Ca ho ha.pe,fun H0 Z σ H S Q C k t hc=>
 ha.snd H0 Z σ H S _ _ k t fun v H1 r S1 k1 st1 rr zq1=>by
  obtain ⟨i,e,q⟩:=zq1
  cases rr.get k1 e
  exact ⟨i,rfl,hc _ H1 (.d (ofV (g i))) S1 k1 st1 (nv (hg i)) q⟩⟩
section
variable {es:List Expr} {tr:TA} {vr:VTA}
noncomputable def nA:VTA:=fun S Q=>Q [] S
noncomputable def e7 (va:VT) (vr:VTA):VTA:=fun S Q=>va S fun r S1=>vr S1 fun rs S2=>Q (r::rs) S2
theorem ah:VA K X m [] lO nA:=⟨fc,fun _ _ _ _ _ _ _ k h q=>q _ _ _ _ k .refl .nil h⟩
theorem aa (ha:VE K X m e te va) (hr:VA K X m es tr vr) (hs:starEach (e::es) X.env=(false,eval e X.env)::starEach es X.env:=by rfl):VA K X m (e::es) (eY te tr) (e7 va vr):=⟨bW ha.pe hr.pe hs,fun H0 Z σ H S Q C k t hc=>
 ha.snd H0 Z σ H S _ _ k t fun v H1 r S1 k1 st1 rr q=>hr.snd H0 Z σ H1 S1 _ _ k1 q fun vs H2 rs S2 k2 st2 rrs q2=>hc (v::vs) H2 (r::rs) S2 k2 (st1.trans st2) (.cons (rr.step st2) rrs) q2⟩
noncomputable def allD:List VR->Option (List D)
 | []=>some []
 | .d x::r=>(allD r).map (x::·)
 | _::_=>none
theorem cM.allD (h:cM K F Z σ S H vs rs) (e:VL.allD rs=some ds):Reps K (NM Z σ S) F H vs ds:=by
 induction h generalizing ds with
 | nil=>cases e;exact .nil
 | @cons v r vs rs h t ih=>
  cases r with
  | d x=>
   obtain ⟨es,h1,rfl⟩:=Option.map_eq_some_iff.mp (show (VL.allD rs).map (x::·)=some ds from e)
   exact .cons h (ih h1)
  | own i=>cases e
theorem cM.length (h:cM K F Z σ S H vs rs):vs.length=rs.length:=by
 induction h with
 | nil=>rfl
 | cons h t ih=>simp [ih]
theorem d7:∀{rs:List VR} {ds:List D},allD rs=some ds->ds.length=rs.length
 | [],_,e=>by cases e;rfl
 | .d x::r,ds,e=>by
  obtain ⟨es,h1,rfl⟩:=Option.map_eq_some_iff.mp (show (VL.allD r).map (x::·)=some ds from e)
  simp [d7 h1]
 | .own _::_,_,e=>by cases e
noncomputable def Cu (vr:VTA):VT:=fun S Q=>vr S fun rs S1=>∃ds,allD rs=some ds/\ds.length<=1000/\Q (.d (.tup ds)) S1
theorem small {n:Nat} (h:n<=1000):n<=sizeLine:=by rw [sizeLine_eq];lia
theorem OK.nm {H0 H:Hp} (k:OK K H0 Z σ H S) {p:Addr} (hp:H p=none):NM Z σ S p:=fun z=>by
 have e:=k.mo z
 rw [hp] at e;exact e
theorem aj {x1} (h:VA K X m es tr vr):VE K X m (.Tuple es x1 pos) (zN tr) (Cu vr):=⟨qS h.pe,fun H0 Z σ H S Q C k t hc=>
 h.snd H0 Z σ H S _ _ k t fun vs H1 rs S1 k1 st1 rrs ⟨ds,e,hl,q⟩=>⟨small (by rw [rrs.length,<- d7 e];exact hl),fun p hp=>by
  have g:=aX (o:=.tup vs) hp
  exact hc _ _ (.d (.tup ds)) S1 (k1.grow g) (st1.trans (.grow g)) (Rep.tup (k1.nm hp) (.inl aH) ((rrs.allD e).mono (fun a n e=>⟨n,g a e⟩) fun _ x=>x)) q⟩⟩
noncomputable def Ae (vr:VTA):VTN:=fun S Q=>vr S fun rs S1=>∃ds,allD rs=some ds/\ds.length<=1000/\Q ds S1
theorem bY {H0 H:Hp} {p:Addr} {o:HO} (hp:H p=none) (h:Reps K (NM Z σ S) (FM H0 true) H vs ds):Reps K (fun b=>NM Z σ S b/\b≠p) (Fr H0) (upd H p o) vs ds:=
 h.mono (fun a n e=>⟨⟨n,fun z=>e (by rw [z];exact hp)⟩,aX hp a e⟩) fun _ x=>x rfl
theorem ba (h:VA K X true es tr vr):VN K X (.List es pos) (Ce tr) (Ae vr):=⟨zO h.pe,fun H0 Z σ H S Q C k t hc=>
 h.snd H0 Z σ H S _ _ k t fun vs H1 rs S1 k1 st1 rrs ⟨ds,e,hl,q⟩=>⟨small (by rw [rrs.length,<- d7 e];exact hl),fun p hp=>
  hc p vs ds H1 _ S1 k1 st1 hp (aX hp) aH (bY hp (rrs.allD e)) q⟩⟩
noncomputable def p7 (t:VTN):VT:=fun S Q=>t S fun ds S1=>Q (.d (.lst ds)) S1
theorem aJ {t:VTN} (h:VN K X e te t):VE K X m e te (p7 t):=⟨h.pe,fun H0 Z σ H S Q C k t hc=>h.snd H0 Z σ H S _ _ k t fun a vs ds H1 H' S1 k1 st1 ha hg hl rr q=>by
 refine hc _ H' (.d (.lst ds)) S1 (k1.grow hg) (st1.trans (.grow hg)) (Rep.lst (k1.nm ha) (fun _=>⟨a,rfl,k1.dom a ha⟩) hl (rr.mono (fun b n e=>⟨n.1,rfl⟩) fun _ x _=>x)) q⟩
end
theorem d0.elems {H0 H:Hp} (h:d0 K F Z σ S H v r) (k:OK K H0 Z σ H S) (e:VL.get S r=some (.lst ds)):∃a vs,v=.ref a/\SqL K H a vs/\Reps K (NM Z σ S) AnyF H vs ds:=by
 cases r with
 | d y=>
  cases e
  obtain ⟨a,vs,rfl,hq,rr⟩:=Rep.sqL h
  exact ⟨a,vs,rfl,hq,rr.mono (fun _ n _=>⟨n,rfl⟩) fun _ _=>trivial⟩
 | own i=>
  have h:σ[i]?=some (some v):=h
  have e:getO S[i]?=some (.lst ds):=e
  cases es:S[i]? with
  | none=>rw [es] at e;cases e
  | some s=>
   rw [es] at e
   cases s with
   | no=>cases e
   | val d=>cases e
   | fre d=>cases e
   | own ds=>
    cases e
    obtain ⟨a,vs,h1,h2,h3,h4⟩:=k.at_ i _ _ h es
    cases h1
    exact ⟨a,vs,rfl,.inl (.inl h2),h4.mono (fun _ n _=>⟨n,rfl⟩) fun _ _=>trivial⟩
   | pen ad ns=>
    cases e
    obtain ⟨a,h1,_,h2⟩:=k.at_ i _ _ h es
    cases h1
    exact ⟨a,_,rfl,.inl (.inl h2),Reps.ints⟩
   | odi ks ds=>cases e
   | obj k=>cases e
theorem d0.elemsT {H0 H:Hp} (h:d0 K F Z σ S H v r) (k:OK K H0 Z σ H S) (e:VL.get S r=some (.tup ds)):∃a vs,v=.ref a/\SqT K H a vs/\Reps K (NM Z σ S) AnyF H vs ds:=by
 cases r with
 | d y=>
  cases e
  cases (show Rep K (NM Z σ S) F H v (.tup ds) from h) with
  | tup n h2 r2=>exact ⟨_,_,rfl,.inl h2,r2.mono (fun _ n _=>⟨n,rfl⟩) fun _ _=>trivial⟩
  | tupK h2 r2=>exact ⟨_,_,rfl,fL h2,r2.mono (fun _ n _=>⟨n,rfl⟩) fun _ _=>trivial⟩
 | own i=>
  have e:getO S[i]?=some (.tup ds):=e
  cases es:S[i]? with
  | none=>rw [es] at e;cases e
  | some s=>rw [es] at e;cases s <;> cases e
end
end VL
end
section
namespace VL
open PySem L2
section
variable {K:PySem.W.Frag} {X:Cx} {m:Bool} {e a b c:Expr} {ta tb tc te:TE} {va vb vc:VT} {pos:Pos}
theorem me {N:AP} {i:Int} (r:Reps K N F H vs ds) (h:atI ds i=some d):∃v,atI vs i=some v/\Rep K N F H v d:=by
 unfold atI at h ⊢
 rw [r.length]
 cases e:ixN ds.length i with
 | none=>rw [e] at h;cases h
 | some j=>
  rw [e] at h
  exact r.getD h
noncomputable def vIx (va vb:VT):VT:=fun S Q=>va S fun ra S1=>vb S1 fun rb S2=>∃ds i d,(get S2 ra=some (.lst ds)\/get S2 ra=some (.tup ds))/\get S2 rb=some (.int i)/\atI ds i=some d/\Q (.d d) S2
theorem aI (hK:X.K=K) (ha:VE K X false a ta va) (hb:VE K X false b tb vb) (hs:dJ b):VE K X false (.Subscript a b pos) (tOp (rIx K) ta tb) (vIx va vb):=⟨by subst hK;exact oF zS ha.pe hb.pe hs,fun H0 Z σ H S Q C k t hc=>
 ha.snd H0 Z σ H S _ _ k t fun x H1 ra S1 k1 st1 r1 t1=>hb.snd H0 Z σ H1 S1 _ _ k1 t1 fun y H2 rb S2 k2 st2 r2 zq1=>by
  obtain ⟨ds,i,d,e1,e2,e3,q⟩:=zq1
  cases r2.get k2 e2
  have fin:∀v,Rep K (NM Z σ S2) AnyF H2 v d->C v H2:=fun v rv=>hc v H2 (.d d) S2 k2 (st1.trans st2) (show Rep K _ _ H2 v d from rv.mono (fun _ n _=>⟨n,rfl⟩) fun _ _=>FM.any) q
  rcases e1 with e1 | e1
  ·obtain ⟨p,vs,rfl,hq,rr⟩:=(r1.step st2).elems k2 e1
   obtain ⟨v,h1,h2⟩:=me rr e3
   exact .inl ⟨p,vs,i,v,rfl,rfl,hq,h1,fin v h2⟩
  ·obtain ⟨p,vs,rfl,hq,rr⟩:=(r1.step st2).elemsT k2 e1
   obtain ⟨v,h1,h2⟩:=me rr e3
   exact .inr (.inl ⟨p,vs,i,v,rfl,rfl,hq,h1,fin v h2⟩)⟩
section
variable {es:List Expr} {tr:TA} {vr:VTA} {x:Str} {p:Pos} {id T:String} {r:List V->Hp->VK->Prop}
noncomputable def vCB (w:List D->(D->Prop)->Prop) (vr:VTA):VT:=fun S Q=>vr S fun rs S1=>∃ds,gets S1 rs=some ds/\w ds fun d=>Q (.d d) S1
noncomputable def iY (K:PySem.W.Frag) (r:List V->Hp->VK->Prop) (w:List D->(D->Prop)->Prop):Prop:=∀(xs:List V) (H:Hp) (ds:List D) (q:D->Prop) (C:VK),Reps K Any AnyF H xs ds->w ds q->(∀z dz,q dz->(∀N F,Rep K N F H z dz)->C z H)->r xs H C
theorem Cv {w:List D->(D->Prop)->Prop} (L:iY K r w) (ha:zZ K false tr vr):SndE K m (tCB r tr) (vCB w vr):=fun H0 Z σ H S Q C k t hc=>
 ha H0 Z σ H S _ _ k t fun vs H1 rs S1 k1 st1 rrs zt1=>by obtain ⟨ds,e,q⟩:=zt1;exact L vs H1 ds _ _ (rrs.gets k1 e) q fun z dz q rz=>hc z H1 (.d dz) S1 k1 st1 (rz _ _) q
theorem bh {w:List D->(D->Prop)->Prop} (hc:cQ X (.builtin id) r) (L:iY K r w) (hg:Gl X x) (hm:X.mg x=none) (hv:bootBuiltins x=some (.builtin id)) (ha:VA K X false (e::es) tr vr) (hn:x≠"__name__":=by decide) (hdb:(x==("__debug__":Str))=false:=by decide)
  (he:starEach (e::es) X.env=(false,eval e X.env)::starEach es X.env:=by rfl) (hpl:(backTo pos (starEach es X.env)).any (·.1)=false:=by rfl):VE K X m (.Call (.Name x p) (e::es) [] pos) (tCB r tr) (vCB w vr):=⟨fD hc hg hm hv ha.pe hn hdb he hpl,Cv L ha.snd⟩
theorem jT {w:List D->(D->Prop)->Prop} (hc:cQ X (.type T) r) (L:iY K r w) (hg:Gl X x) (hm:X.mg x=none) (hv:bootBuiltins x=some (.type T)) (ha:VA K X false (e::es) tr vr) (hn:x≠"__name__":=by decide) (hdb:(x==("__debug__":Str))=false:=by decide)
  (he:starEach (e::es) X.env=(false,eval e X.env)::starEach es X.env:=by rfl) (hpl:(backTo pos (starEach es X.env)).any (·.1)=false:=by rfl):VE K X m (.Call (.Name x p) (e::es) [] pos) (tCB r tr) (vCB w vr):=⟨gv hc hg hm hv ha.pe hn hdb he hpl,Cv L ha.snd⟩
theorem rep1 {N:AP} {xs:List V} (h:Reps K N F H xs [d]):∃v,xs=[v]/\Rep K N F H v d:=by
 cases h with | cons h t=>cases t;exact ⟨_,rfl,h⟩
theorem rep2 {N:AP} {xs:List V} {d d':D} (h:Reps K N F H xs [d,d']):∃v u,xs=[v,u]/\Rep K N F H v d/\Rep K N F H u d':=by
 cases h with | cons h t=>cases t with | cons h' t=>cases t;exact ⟨_,_,rfl,h,h'⟩
noncomputable def Cw:List D->(D->Prop)->Prop:=fun ds q=>∃es,(ds=[.lst es]\/ds=[.tup es])/\q (.int es.length)
theorem gW:iY K (fun xs H Q=>∃p ys,xs=[.ref p]/\(SqL K H p ys\/SqT K H p ys)/\Q (.int ys.length) H) Cw:=by
 rintro xs H ds q C r ⟨es,rfl | rfl,h⟩ hc
 ·obtain ⟨v,rfl,rv⟩:=rep1 r
  obtain ⟨a,vs,rfl,hq,rr⟩:=rv.sqL
  exact ⟨a,vs,rfl,.inl hq,by rw [rr.length];exact hc _ _ h fun _ _=>.int _⟩
 ·obtain ⟨v,rfl,rv⟩:=rep1 r
  obtain ⟨a,vs,rfl,hq,rr⟩:=rv.sqT
  exact ⟨a,vs,rfl,.inr hq,by rw [rr.length];exact hc _ _ h fun _ _=>.int _⟩
noncomputable def EF:List D->(D->Prop)->Prop:=fun ds q=>(∃i,ds=[.int i]/\q (.int i))\/∃k:Bool,ds=[.bl k]/\q (.int (if k then 1 else 0))
theorem yk:iY K (fun xs H Q=>(∃i,xs=[.int i]/\Q (.int i) H)\/∃k,xs=[.bl k]/\Q (.int (if k then 1 else 0)) H) EF:=by
 rintro xs H ds q C r (⟨i,rfl,h⟩ | ⟨i,rfl,h⟩) hc
 ·obtain ⟨v,rfl,rv⟩:=rep1 r
  cases rv
  exact .inl ⟨i,rfl,hc _ _ h fun _ _=>.int _⟩
 ·obtain ⟨v,rfl,rv⟩:=rep1 r
  cases rv
  exact .inr ⟨i,rfl,hc _ _ h fun _ _=>.int _⟩
noncomputable def tyD:D->String
 | .int _=>"int" | .bl _=>"bool" | .non=>"NoneType" | .str _=>"str" | .tup _=>"tuple" | .lst _=>"list" | .ty _=>"type" | .dic _ _=>"dict" | .exc _=>"" | .dib _ _=>"dict" | .oth _=>""
noncomputable def isE:D->Bool
 | .exc _=>true
 | .oth _=>true
 | _=>false
noncomputable def vS:List D->(D->Prop)->Prop:=fun ds q=>∃x c b,ds=[x,.ty c]/\(∀n,x≠.ty n)/\isE x=false/\pZ (tyD x) c=some b/\q (.bl b)
theorem mh:iY K (zW K) vS:=by
 rintro xs H ds q C r ⟨x,c,b,rfl,hn,hE,e,h⟩ hc
 obtain ⟨v,u,rfl,rv,ru⟩:=rep2 r
 cases ru
 refine ⟨v,tyD x,c,b,rfl,?_,e,hc _ _ h fun _ _=>.bl _⟩
 cases rv with
 | int i=>exact .int i
 | bl i=>exact .bl i
 | non=>exact .non
 | str i=>exact .str i
 | ty i=>exact (hn _ rfl).elim
 | tup n h r=>exact .tup (.inl h)
 | tupK h r=>exact .tup (fL h)
 | lst n f h r=>exact .lst (.inl (.inl h))
 | lstF n f h r=>exact .lst (.inl (.inr ⟨_,h⟩))
 | lstK f h r=>exact .lst (iV h)
 | dic n f h e _ r=>exact .dE h
 | exc n h e=>cases hE
 | oth h=>cases hE
 | dib n f h e _ _ r=>exact .dE h
theorem cM.one {r:VR} (h:cM K F Z σ S H vs [r]):∃v,vs=[v]/\d0 K F Z σ S H v r:=by
 cases h with | cons h t=>cases t;exact ⟨_,rfl,h⟩
noncomputable def oO (vr:VTA):VTN:=fun S Q=>vr S fun rs S1=>∃r ds,rs=[r]/\(get S1 r=some (.lst ds)\/get S1 r=some (.tup ds))/\flats ds=true/\Q ds S1
theorem jU {H0 H:Hp} {p:Addr} {o:HO} (hp:H p=none) (h:Reps K (NM Z σ S) F H vs ds) (f:flats ds=true):Reps K (fun b=>NM Z σ S b/\b≠p) (Fr H0) (upd H p o) vs ds:=
 bY hp (Reps.flat h f)
theorem fN (hK:X.K=K) (hg:Gl X "list") (hm:X.mg "list"=none) (ha:VA K X false [e] tr vr) (he:starEach [e] X.env=[(false,eval e X.env)]:=by rfl) :
  VN K X (.Call (.Name "list" p) [e] [] pos) (tCB (fun xs H Q=>∃p ys,xs=[.ref p]/\(SqL K H p ys\/SqT K H p ys)/\∀l,H l=none->Q (.ref l) (upd H l (.lst ys))) tr) (oO vr):=
 ⟨by subst hK;exact gv kA hg hm vI ha.pe (by decide) (by decide) he rfl,fun H0 Z σ H S Q C k t hc=>ha.snd H0 Z σ H S _ _ k t fun vs H1 rs S1 k1 st1 rrs zq1=>by
  obtain ⟨r,ds,e1,e2,f,q⟩:=zq1
  subst e1
  obtain ⟨v,rfl,rv⟩:=rrs.one
  rcases e2 with e2 | e2
  ·obtain ⟨a,ys,rfl,hq,rr⟩:=rv.elems k1 e2
   exact ⟨a,ys,rfl,.inl hq,fun l hl=>hc l ys ds H1 _ S1 k1 st1 hl (aX hl) aH (jU hl rr f) q⟩
  ·obtain ⟨a,ys,rfl,hq,rr⟩:=rv.elemsT k1 e2
   exact ⟨a,ys,rfl,.inr hq,fun l hl=>hc l ys ds H1 _ S1 k1 st1 hl (aX hl) aH (jU hl rr f) q⟩⟩
noncomputable def rn (vr:VTA):VT:=fun S Q=>vr S fun rs S1=>∃r ds,rs=[r]/\(get S1 r=some (.lst ds)\/r=.d (.tup ds))/\flats ds=true/\Q (.d (.tup ds)) S1
theorem fh (hK:X.K=K) (hg:Gl X "tuple") (hm:X.mg "tuple"=none) (ha:VA K X false [e] tr vr) (he:starEach [e] X.env=[(false,eval e X.env)]:=by rfl) :
  VE K X m (.Call (.Name "tuple" p) [e] [] pos) (tCB (fun xs H Q=>∃p ys,xs=[.ref p]/\((SqL K H p ys/\∀l,H l=none->Q (.ref l) (upd H l (.tup ys)))\/(SqT K H p ys/\Q (.ref p) H))) tr) (rn vr):=
 ⟨by subst hK;exact gv jD hg hm fF ha.pe (by decide) (by decide) he rfl,fun H0 Z σ H S Q C k t hc=>ha.snd H0 Z σ H S _ _ k t fun vs H1 rs S1 k1 st1 rrs zq1=>by
  obtain ⟨r,ds,e1,e2,f,q⟩:=zq1
  subst e1
  obtain ⟨v,rfl,rv⟩:=rrs.one
  rcases e2 with e2 | e2
  ·obtain ⟨a,ys,rfl,hq,rr⟩:=rv.elems k1 e2
   refine ⟨a,ys,rfl,.inl ⟨hq,fun l hl=>?_⟩⟩
   have g:=aX (o:=.tup ys) hl
   exact hc _ _ (.d (.tup ds)) S1 (k1.grow g) (st1.trans (.grow g)) (Rep.tup (k1.nm hl) (.inl aH) ((Reps.flat rr f).mono (fun a n e=>⟨n,g a e⟩) fun _ x=>x)) q
  ·subst e2
   obtain ⟨a,ys,rfl,hq,rr⟩:=Rep.sqT (show Rep K _ _ H1 v (.tup ds) from rv)
   refine ⟨a,ys,rfl,.inr ⟨hq,hc _ _ (.d (.tup ds)) S1 k1 st1 ?_ q⟩⟩
   exact Rep.flat (show Rep K _ _ H1 _ (.tup ds) from rv) (by simpa [flat] using f)⟩
@[reducible] def eT (ms:List Int):D:=.tup (ms.map .int)
@[reducible] def eL (mss:List (List Int)):D:=.lst (mss.map eT)
theorem bj:∀ms:List Int,flats (ms.map D.int)=true
 | []=>rfl
 | _::r=>by simp [flats,flat,bj r]
theorem cV:∀mss:List (List Int),flats (mss.map eT)=true
 | []=>rfl
 | _::r=>by simp [flats,eT,flat,bj,cV r]
theorem jV {N:AP}:∀{vs:List V} {mss:List (List Int)},Reps K N F H vs (mss.map eT)->∃ps,vs=ps.map V.ref/\iR K H ps mss/\(∀p∈ps,H p=none->N p->False\/True)
 | _,[],.nil=>⟨[],rfl,.nil,fun _ h=>nomatch h⟩
 | _,ms::r,.cons h t=>by
  obtain ⟨ps,rfl,h1,h2⟩:=jV t
  obtain ⟨a,vs,rfl,hq,rr⟩:=Rep.sqT h
  cases Reps.toInts rr
  exact ⟨a::ps,rfl,.cons hq h1,fun _ _ _ _=>.inr trivial⟩
theorem fO {N:AP} (hN:∀p vs,Rd H p (.tup vs)->N p):∀{ps:List Addr} {mss:List (List Int)},iR K H ps mss->Reps K N F H (ps.map V.ref) (mss.map eT)
 | _,_,.nil=>.nil
 | _,_,.cons h t=>by
  refine .cons ?_ (fO hN t)
  rcases h with h | h
  ·exact .tup (hN _ _ h) h Reps.ints
  ·exact .tupK (.inr h) Reps.ints
theorem OK.tupN {H0 H:Hp} (k:OK K H0 Z σ H S):∀p vs,Rd H p (.tup vs)->NM Z σ S p:=fun p vs h z=>by
 have e:=k.mo z
 rcases h with h | ⟨o,h⟩ <;> rw [h] at e <;> exact e
end
noncomputable def spP (K:PySem.W.Frag) (p:List D->(D->Prop)->Prop):Sp:=fun vs H Q _=>∃ds R,Reps K Any AnyF H vs ds/\p ds R/\∀d v H',R d->(∀a,H a≠none->H' a=H a)->Rep K Any (Fr H) H' v d->Q v H'
noncomputable def spI (K:PySem.W.Frag) (j:Nat) (p:List Int->List D->(D->List Int->Prop)->Prop):Sp:=fun vs H Q _=>∃a ws us ns ds es R,vs=ws++.ref a::us/\ws.length=j/\H a=some (.lst (ns.map .int))/\Reps K (·≠a) AnyF H ws ds/\Reps K (·≠a) AnyF H us es/\p ns (ds++es) R /\
 ∀d ns' v H',R d ns'->(∀b,b≠a->H b≠none->H' b=H b)->H' a=some (.lst (ns'.map .int))->Rep K (·≠a) (Fr H) H' v d->Q v H'
section
variable {es:List Expr} {tr:TA} {vr:VTA} {x:Str} {p0:Pos} {j k:Nat} {ps:List Str}
noncomputable def vFn (p:List D->(D->Prop)->Prop) (vr:VTA):VT:=fun S Q=>vr S fun rs S1=>∃ds,gets S1 rs=some ds/\p ds fun d=>Q (.d d) S1
noncomputable def Cy (p:List D->(D->Prop)->Prop) (vr:VTA):VTN:=fun S Q=>vr S fun rs S1=>∃ds,gets S1 rs=some ds/\p ds fun d=>∃es,d=.lst es/\flats es=true/\Q es S1
theorem aY (E:Has X.prog X.w X.K X.mg X.base k x ps (spP K p)) (hr:bV j X.A) (ha:VA K X false (e::es) tr vr)
  (hk:k<=j:=by decide) (hg:Gl X x:=by rfl) (hdb:(x==("__debug__":Str))=false:=by decide) (he:starEach (e::es) X.env=(false,eval e X.env)::starEach es X.env:=by rfl)
  (hpl:(backTo pos (starEach es X.env)).any (·.1)=false:=by rfl):VE K X m (.Call (.Name x p0) (e::es) [] pos) (iQ (spP K p) [] E0 tr) (vFn p vr):=⟨oG E hr ha.pe hk hg hdb he hpl,fun H0 Z σ H S Q C k t hc=>
 ha.snd H0 Z σ H S _ _ k t fun vs H1 rs S1 k1 st1 rrs zq1=>by
  obtain ⟨ds,e,q⟩:=zq1
  refine ⟨ds,_,by rw [List.append_nil];exact rrs.gets k1 e,q,fun d v H' q g r=>?_⟩
  refine hc v H' (.d d) S1 (k1.grow g) (st1.trans (.grow g)) (show Rep K _ _ H' v d from ?_) q
  refine (Rep.avoid (N':=NM Z σ S1) (fun a z=>?_) (fun a zq1=>by obtain ⟨b,e,f⟩:=zq1;cases e;exact k1.nm f) r).mono (fun _ n _=>⟨n,rfl⟩) (fun o zt1 _=>by obtain ⟨b,e,f⟩:=zt1;exact ⟨b,e,k1.dom b f⟩)
  have e:=k1.mo (Classical.not_not.mp z)
  rw [g a e.ne];exact e⟩
theorem Cz (E:Has X.prog X.w X.K X.mg X.base k x ps (spP K p)) (hr:bV j X.A) (ha:VA K X false (e::es) tr vr)
  (hk:k<=j:=by decide) (hg:Gl X x:=by rfl) (hdb:(x==("__debug__":Str))=false:=by decide) (he:starEach (e::es) X.env=(false,eval e X.env)::starEach es X.env:=by rfl)
  (hpl:(backTo pos (starEach es X.env)).any (·.1)=false:=by rfl):VN K X (.Call (.Name x p0) (e::es) [] pos) (iQ (spP K p) [] E0 tr) (Cy p vr):=⟨oG E hr ha.pe hk hg hdb he hpl,fun H0 Z σ H S Q C k t hc=>
 ha.snd H0 Z σ H S _ _ k t fun vs H1 rs S1 k1 st1 rrs zq1=>by
  obtain ⟨ds,e,q⟩:=zq1
  refine ⟨ds,_,by rw [List.append_nil];exact rrs.gets k1 e,q,fun d v H' ⟨es,ed,hf,q⟩ g r=>?_⟩
  subst ed
  have r2:=Rep.avoid (N':=NM Z σ S1) (fun a z=>by
   have e:=k1.mo (Classical.not_not.mp z)
   rw [g a e.ne];exact e) (fun a zq1=>by obtain ⟨b,e,f⟩:=zq1;cases e;exact k1.nm f) r
  cases r2 with
  | @lst a ws _ n f h rs=>
   obtain ⟨b,e,f⟩:=f
   cases e
   refine hc a ws es H1 H' S1 k1 st1 f g h ?_ q
   refine (Reps.avoid (N':=fun b=>NM Z σ S1 b/\b≠a) (fun b z=>?_) (fun b fb=>fb.elim) (Reps.flat (F':=fun _=>False) rs hf)).mono (fun _ n _=>⟨n,rfl⟩) (fun o f=>f.elim)
   by_cases hb:b=a
   ·subst hb;rw [h];trivial
   ·have e:=k1.mo (Classical.byContradiction fun y=>z ⟨y,hb⟩)
    rw [g b e.ne];exact e
  | lstF n f h rs=>obtain ⟨b,e,f⟩:=f;cases e
  | lstK f h rs=>obtain ⟨b,e,f⟩:=f;cases e⟩
end
end
end VL
end
section
namespace VL
open PySem L2
section
variable {K:PySem.W.Frag} {H H' H0:Hp} {Z:AP} {σ:St} {S:List Sl}
theorem OK.put (k:OK K H0 Z σ H S) {i:Nat} {o:Option V} {s:Sl} (hi:i < S.length)
  (hN:∀a,NM Z σ S a->H a≠none->NM Z (σ.set i o) (S.set i s) a/\H' a=H a)
  (hM:∀j s',j≠i->S[j]?=some s'->s'.mut=true->∀a,σ[j]?=some (some (V.ref a))->H' a=H a)
  (hs:p6 K H0 (NM Z (σ.set i o) (S.set i s)) H' o s)
  (hj:∀j a t,j≠i->S[j]?=some t->t.mut=true->s.mut=true->o=some (V.ref a)->σ[j]?≠some (some (V.ref a)))
  (hd:∀a,H' a=none->H a=none) (hz:∀a,Z a->IsM (H' a)) (hnz:∀a,s.mut=true->o=some (V.ref a)->¬Z a):OK K H0 Z (σ.set i o) H' (S.set i s) where
 len:=by simp [k.len]
 dom:=fun a e=>k.dom a (hd a e)
 zl:=hz
 nz:=fun j t a h1 h2 h3=>by
  have hi':i < σ.length:=by rw [k.len];exact hi
  by_cases hji:i=j
  ·subst hji
   rw [List.getElem?_set_self hi] at h1
   rw [List.getElem?_set_self hi'] at h3
   cases h1
   exact hnz a h2 (Option.some.inj h3)
  ·rw [List.getElem?_set_ne hji] at h1 h3
   exact k.nz j t a h1 h2 h3
 inj:=fun a b c t u h1 h2 m1 m2 h3 h4=>by
  have hi':i < σ.length:=by rw [k.len];exact hi
  by_cases ha:i=a
  ·by_cases hb:i=b
   ·lia
   ·subst ha
    rw [List.getElem?_set_self hi] at h1
    rw [List.getElem?_set_self hi'] at h3
    rw [List.getElem?_set_ne hb] at h2 h4
    cases h1
    exact (hj b c u (fun z=>hb z.symm) h2 m2 m1 (Option.some.inj h3) h4).elim
  ·by_cases hb:i=b
   ·subst hb
    rw [List.getElem?_set_self hi] at h2
    rw [List.getElem?_set_self hi'] at h4
    rw [List.getElem?_set_ne ha] at h1 h3
    cases h2
    exact (hj a c t (fun z=>ha z.symm) h1 m1 m2 (Option.some.inj h4) h3).elim
   ·rw [List.getElem?_set_ne ha] at h1 h3
    rw [List.getElem?_set_ne hb] at h2 h4
    exact k.inj a b c t u h1 h2 m1 m2 h3 h4
 at_:=fun j o' s' h1 h2=>by
  have hi':i < σ.length:=by rw [k.len];exact hi
  by_cases hji:i=j
  ·subst hji
   rw [List.getElem?_set_self hi'] at h1
   rw [List.getElem?_set_self hi] at h2
   cases h1;cases h2
   exact hs
  ·rw [List.getElem?_set_ne hji] at h1 h2
   have q:=k.at_ j o' s' h1 h2
   cases s' with
   | no=>trivial
   | val d=>obtain ⟨v,e,r⟩:=q;exact ⟨v,e,r.mono hN fun _ x=>x⟩
   | fre d=>obtain ⟨v,e,r⟩:=q;exact ⟨v,e,r.mono hN fun _ x=>x⟩
   | own ds=>
    obtain ⟨a,vs,e,e',e0,r⟩:=q
    exact ⟨a,vs,e,by rw [hM j _ (fun z=>hji z.symm) h2 rfl a (by rw [h1,e])];exact e',e0,r.mono hN fun _ x=>x⟩
   | pen ad ns=>
    obtain ⟨a,e,e1,e'⟩:=q
    exact ⟨a,e,e1,by rw [hM j _ (fun z=>hji z.symm) h2 rfl a (by rw [h1,e])];exact e'⟩
   | odi ks ds=>
    obtain ⟨a,vs,e,e',e0,ek,r⟩:=q
    exact ⟨a,vs,e,by rw [hM j _ (fun z=>hji z.symm) h2 rfl a (by rw [h1,e])];exact e',e0,⟨ek.1,ek.2.mono hN fun _ x=>x⟩,r.mono hN fun _ x=>x⟩
   | obj k=>
    obtain ⟨a,e,e0,r⟩:=q
    exact ⟨a,e,e0,k.mono hN (hM j _ (fun z=>hji z.symm) h2 rfl a (by rw [h1,e])) r⟩
theorem kG {i:Nat} {o:Option V} {s:Sl} {a:Addr} (h:Mo Z (σ.set i o) (S.set i s) a):Mo Z σ S a\/(s.mut=true/\o=some (V.ref a)):=by
 rcases h with ⟨j,t,h1,h2,h3⟩ | h
 ·by_cases hji:i=j
  ·subst hji
   have l1:=(List.getElem?_eq_some_iff.mp h1).1
   have l2:=(List.getElem?_eq_some_iff.mp h3).1
   rw [List.length_set] at l1 l2
   rw [List.getElem?_set_self l1] at h1
   rw [List.getElem?_set_self l2] at h3
   cases h1
   exact .inr ⟨h2,Option.some.inj h3⟩
  ·rw [List.getElem?_set_ne hji] at h1 h3
   exact .inl (.inl ⟨j,t,h1,h2,h3⟩)
 ·exact .inl (.inr h)
theorem OK.setVal (k:OK K H0 Z σ H S) {i:Nat} (hi:i < S.length) (h:Rep K (NM Z σ S) AnyF H v d):OK K H0 Z (σ.set i (some v)) H (S.set i (.val d))/\Step Z σ S H (σ.set i (some v)) (S.set i (.val d)) H:=by
 have n:∀a,NM Z σ S a->NM Z (σ.set i (some v)) (S.set i (.val d)) a:=fun a x z=>by
  rcases kG z with z | ⟨z,_⟩
  ·exact x z
  ·cases z
 exact ⟨k.put hi (fun a x _=>⟨n a x,rfl⟩) (fun _ _ _ _ _ _ _=>rfl) ⟨v,rfl,h.mono (fun a x _=>⟨n a x,rfl⟩) fun _ x=>x⟩ (fun _ _ _ _ _ _ z=>nomatch z) (fun _ e=>e) k.zl (fun _ z=>nomatch z),fun a x _=>⟨rfl,n a x⟩,fun _ e=>e,fun _ _ _=>rfl⟩
theorem OK.setNew (k:OK K H0 Z σ H S) {i:Nat} {a:Addr} {s:Sl} (hi:i < S.length) (ha:H a=none) (hg:∀b,H b≠none->H' b=H b) (hs:p6 K H0 (fun b=>NM Z σ S b/\b≠a) H' (some (.ref a)) s) (hm:s.mut=true) :
  OK K H0 Z (σ.set i (some (.ref a))) H' (S.set i s)/\Step Z σ S H (σ.set i (some (.ref a))) (S.set i s) H':=by
 have n:∀b,NM Z σ S b/\b≠a->NM Z (σ.set i (some (.ref a))) (S.set i s) b:=fun b x z=>by
  rcases kG z with z | ⟨_,z⟩
  ·exact x.1 z
  ·cases z;exact x.2 rfl
 have n':∀b,NM Z σ S b->H b≠none->NM Z (σ.set i (some (.ref a))) (S.set i s) b:=fun b x e=>n b ⟨x,fun z=>e (by rw [z];exact ha)⟩
 refine ⟨k.put hi (fun b x e=>⟨n' b x e,hg b e⟩) (fun j s' hj h1 h2 b h3=>?_) ?_ (fun j b t hj h1 h2 h3 h4 h5=>?_) (fun b e=>Classical.byContradiction fun z=>by rw [hg b z] at e;exact z e) (fun b z=>?_) (fun b h1 h2 z=>?_),fun b x e=>⟨hg b e,n' b x e⟩,fun b e=>Classical.byContradiction fun z=>by rw [hg b z] at e;exact z e,fun b z e=>hg b e⟩
 ·have e:=k.mo (.inl ⟨j,s',h1,h2,h3⟩)
  exact hg b e.ne
 ·cases s with
  | no=>trivial
  | val d=>cases hm
  | fre d=>cases hm
  | own ds=>obtain ⟨b,vs,e,e',e0,r⟩:=hs;exact ⟨b,vs,e,e',e0,r.mono (fun c x _=>⟨n c x,rfl⟩) fun _ x=>x⟩
  | pen ad ns=>exact hs
  | obj k=>obtain ⟨b,e,e0,r⟩:=hs;exact ⟨b,e,e0,k.mono (fun c x _=>⟨n c x,rfl⟩) rfl r⟩
  | odi ks ds=>obtain ⟨b,vs,e,e',e0,ek,r⟩:=hs;exact ⟨b,vs,e,e',e0,⟨ek.1,ek.2.mono (fun c x _=>⟨n c x,rfl⟩) fun _ x=>x⟩,r.mono (fun c x _=>⟨n c x,rfl⟩) fun _ x=>x⟩
 ·cases h4
  have e:=k.mo (.inl ⟨j,t,h1,h2,h5⟩)
  rw [ha] at e;exact e
 ·have e:=k.zl b z
  rw [hg b e.ne];exact e
 ·cases h2
  have e:=k.zl _ z
  rw [ha] at e;exact e
theorem rp {α:Type} {l:List α} {i:Nat} {o:α} (h:l[i]?=some o):l.set i o=l:=by
 obtain ⟨h1,rfl⟩:=List.getElem?_eq_some_iff.mp h
 exact List.set_getElem_self h1
theorem OK.chgD (k:OK K H0 Z σ H S) {i:Nat} {a:Addr} {s₀ s:Sl} {o:HO} (h1:S[i]?=some s₀) (h2:s₀.mut=true) (h3:σ[i]?=some (some (.ref a))) (hm:s.mut=true) (hs:p6 K H0 (NM Z σ S) (upd H a o) (some (.ref a)) s) :
  OK K H0 Z σ (upd H a o) (S.set i s)/\Step Z σ S H σ (S.set i s) (upd H a o):=by
 have hi:i < S.length:=(List.getElem?_eq_some_iff.mp h1).1
 have ma:Mo Z σ S a:=.inl ⟨i,s₀,h1,h2,h3⟩
 have ea:=k.mo ma
 have hza:¬Z a:=k.nz i s₀ a h1 h2 h3
 have e3:=rp h3
 have n:∀b,NM Z σ S b->NM Z σ (S.set i s) b:=fun b x z=>by
  rw [<- e3] at z
  rcases kG z with z | ⟨_,z⟩
  ·exact x z
  ·cases z;exact x ma
 have ne:∀b,NM Z σ S b->b≠a:=fun b x z=>x (by rw [z];exact ma)
 have q:=k.put (H':=upd H a o) (i:=i) (o:=some (.ref a)) (s:=s) hi (fun b x e=>⟨by rw [e3];exact n b x,aD (ne b x)⟩) (fun j s' hj g1 g2 b g3=>aD fun z=>hj (by subst z;exact k.inj j i b s' s₀ g1 h1 g2 h2 g3 h3)) (by
  rw [e3]
  cases s with
  | no=>trivial
  | val d=>cases hm
  | fre d=>cases hm
  | own ds=>obtain ⟨b,vs,e,e',e0,r⟩:=hs;exact ⟨b,vs,e,e',e0,r.mono (fun c x _=>⟨n c x,rfl⟩) fun _ x=>x⟩
  | pen ad ns=>exact hs
  | obj k=>obtain ⟨b,e,e0,r⟩:=hs;exact ⟨b,e,e0,k.mono (fun c x _=>⟨n c x,rfl⟩) rfl r⟩
  | odi ks ds=>obtain ⟨b,vs,e,e',e0,ek,r⟩:=hs;exact ⟨b,vs,e,e',e0,⟨ek.1,ek.2.mono (fun c x _=>⟨n c x,rfl⟩) fun _ x=>x⟩,r.mono (fun c x _=>⟨n c x,rfl⟩) fun _ x=>x⟩) (fun j b t hj g1 g2 g3 g4 g5=>by
   cases g4
   exact hj (k.inj j i a t s₀ g1 h1 g2 h2 g5 h3)) (fun b e=>by
   by_cases hb:b=a
   ·subst hb;rw [aH] at e;cases e
   ·rw [aD hb] at e;exact e) (fun b z=>by
   by_cases hb:b=a
   ·subst hb;exact (hza z).elim
   ·have e:=k.zl b z
    rw [aD hb];exact e) (fun b _ e=>by cases e;exact hza)
 rw [e3] at q
 refine ⟨q,fun b x e=>⟨aD (ne b x),n b x⟩,fun b e=>?_,fun b z e=>aD fun y=>hza (by rw [<- y];exact z)⟩
 by_cases hb:b=a
 ·subst hb;rw [aH] at e;cases e
 ·rw [aD hb] at e;exact e
theorem OK.chg (k:OK K H0 Z σ H S) {i:Nat} {a:Addr} {s₀ s:Sl} {o:HO} (h1:S[i]?=some s₀) (h2:s₀.mut=true) (h3:σ[i]?=some (some (.ref a))) (ho:∃us,o=.lst us) (hm:s.mut=true) (hs:p6 K H0 (NM Z σ S) (upd H a o) (some (.ref a)) s) :
  OK K H0 Z σ (upd H a o) (S.set i s)/\Step Z σ S H σ (S.set i s) (upd H a o):=k.chgD h1 h2 h3 hm hs
end
structure bt where
 nx:List Sl->Prop
 rt:D->List Sl->Prop
 bk:List Sl->Prop:=fun _=>False
 ct:List Sl->Prop:=fun _=>False
noncomputable abbrev VTS:=bt->List Sl->Prop
noncomputable def NP (σ:St) (S:List Sl):AP:=fun a=>∀(i:Nat) (ad:Option Addr) (ns:List Int),S[i]?=some (.pen ad ns)->σ[i]?≠some (some (V.ref a))
structure Lf (K:PySem.W.Frag) (H0:Hp) (Z:AP) (σ:St) (S:List Sl) (H:Hp) (V:bt) (E:Ends):Prop where
 nx:∀ σ' H' S',OK K H0 Z σ' H' S'->Step Z σ S H σ' S' H'->V.nx S'->E.nx σ' H'
 bk:∀ σ' H' S',OK K H0 Z σ' H' S'->Step Z σ S H σ' S' H'->V.bk S'->E.bk σ' H'
 ct:∀ σ' H' S',OK K H0 Z σ' H' S'->Step Z σ S H σ' S' H'->V.ct S'->E.ct σ' H'
 rt:∀v d σ' H' S',OK K H0 Z σ' H' S'->Step Z σ S H σ' S' H'->Rep K (NP σ' S') (Fr H0) H' v d->V.rt d S'->E.rt v H'
theorem Lf.step {H0 H H1:Hp} {σ σ1:St} {S S1:List Sl} {V:bt} {E:Ends} (l:Lf K H0 Z σ S H V E) (st:Step Z σ S H σ1 S1 H1):Lf K H0 Z σ1 S1 H1 V E:=
 ⟨fun _ _ _ k s=>l.nx _ _ _ k (st.trans s),fun _ _ _ k s=>l.bk _ _ _ k (st.trans s),fun _ _ _ k s=>l.ct _ _ _ k (st.trans s),fun _ _ _ _ _ k s=>l.rt _ _ _ _ _ k (st.trans s)⟩
noncomputable def Af (K:PySem.W.Frag) (ts:TS) (t:VTS):Prop:=∀H0 Z σ H S V E,OK K H0 Z σ H S->t V S->Lf K H0 Z σ S H V E->ts E σ H
structure VS (K:PySem.W.Frag) (X:Cx) (st:Stmt) (ts:TS) (t:VTS):Prop where
 ps:PS X st ts
 snd:Af K ts t
structure VSs (K:PySem.W.Frag) (X:Cx) (st:List Stmt) (ts:TS) (t:VTS):Prop where
 ps:PSs X st ts
 snd:Af K ts t
inductive Wk:List Sl->List Sl->Prop where
 | nil:Wk [] []
 | keep {s:Sl} {S S':List Sl}:Wk S S'->Wk (s::S) (s::S')
 | fz {ds:List D} {S S':List Sl}:Wk S S'->Wk (.own ds::S) (.val (.lst ds)::S')
 | fd {ks:List (List Int)} {ds:List D} {S S':List Sl}:Wk S S'->Wk (.odi ks ds::S) (.val (.dic ks ds)::S')
 | drop {s:Sl} {S S':List Sl}:Wk S S'->Wk (s::S) (.no::S')
theorem Wk.refl:∀S,Wk S S
 | []=>.nil
 | _::r=>.keep (Wk.refl r)
theorem Wk.len {S S':List Sl} (h:Wk S S'):S.length=S'.length:=by induction h <;> simp_all
theorem Wk.at_ {S S':List Sl} (h:Wk S S'):∀{i:Nat} {s:Sl},S'[i]?=some s->∃s₀,S[i]?=some s₀/\(s=s₀\/s=.no\/(∃ds,s₀=.own ds/\s=.val (.lst ds))\/∃ks ds,s₀=.odi ks ds/\s=.val (.dic ks ds)):=by
 induction h with
 | nil=>intro i s h;simp at h
 | keep h ih=>
  intro i s e
  cases i with
  | zero=>simp at e;subst e;exact ⟨_,rfl,.inl rfl⟩
  | succ i=>simpa using ih (i:=i) (by simpa using e)
 | fz h ih=>
  intro i s e
  cases i with
  | zero=>simp at e;subst e;exact ⟨_,rfl,.inr (.inr (.inl ⟨_,rfl,rfl⟩))⟩
  | succ i=>simpa using ih (i:=i) (by simpa using e)
 | fd h ih=>
  intro i s e
  cases i with
  | zero=>simp at e;subst e;exact ⟨_,rfl,.inr (.inr (.inr ⟨_,_,rfl,rfl⟩))⟩
  | succ i=>simpa using ih (i:=i) (by simpa using e)
 | drop h ih=>
  intro i s e
  cases i with
  | zero=>simp at e;subst e;exact ⟨_,rfl,.inr (.inl rfl)⟩
  | succ i=>simpa using ih (i:=i) (by simpa using e)
theorem Wk.mut {S S':List Sl} (h:Wk S S') {i:Nat} {s:Sl} (e:S'[i]?=some s) (m:s.mut=true):S[i]?=some s:=by
 obtain ⟨s₀,h1,rfl | rfl | ⟨ds,rfl,rfl⟩ | ⟨ks,ds,rfl,rfl⟩⟩:=h.at_ e
 ·exact h1
 ·cases m
 ·cases m
 ·cases m
theorem OK.wk {H H0:Hp} {S S':List Sl} (k:OK K H0 Z σ H S) (w:Wk S S'):OK K H0 Z σ H S'/\Step Z σ S H σ S' H:=by
 have n:∀a,NM Z σ S a->NM Z σ S' a:=fun a x z=>by
  rcases z with ⟨i,s,h1,h2,h3⟩ | z
  ·exact x (.inl ⟨i,s,w.mut h1 h2,h2,h3⟩)
  ·exact x (.inr z)
 refine ⟨⟨by rw [k.len,w.len],fun i o s h1 h2=>?_,fun i j a s t h1 h2 m1 m2 h3 h4=>k.inj i j a s t (w.mut h1 m1) (w.mut h2 m2) m1 m2 h3 h4,k.dom,k.zl,fun i s a h1 m h3=>k.nz i s a (w.mut h1 m) m h3⟩,fun a x _=>⟨rfl,n a x⟩,fun _ e=>e,fun _ _ _=>rfl⟩
 obtain ⟨s₀,e,rfl | rfl | ⟨ds,rfl,rfl⟩ | ⟨ks,ds,rfl,rfl⟩⟩:=w.at_ h2
 ·have q:=k.at_ i o s h1 e
  cases s with
  | no=>trivial
  | val d=>obtain ⟨v,e,r⟩:=q;exact ⟨v,e,r.mono (fun a x _=>⟨n a x,rfl⟩) fun _ x=>x⟩
  | fre d=>obtain ⟨v,e,r⟩:=q;exact ⟨v,e,r.mono (fun a x _=>⟨n a x,rfl⟩) fun _ x=>x⟩
  | own ds=>obtain ⟨a,vs,e,e',e0,r⟩:=q;exact ⟨a,vs,e,e',e0,r.mono (fun a x _=>⟨n a x,rfl⟩) fun _ x=>x⟩
  | pen ad ns=>exact q
  | odi ks ds=>obtain ⟨a,vs,e,e',e0,ek,r⟩:=q;exact ⟨a,vs,e,e',e0,⟨ek.1,ek.2.mono (fun a x _=>⟨n a x,rfl⟩) fun _ x=>x⟩,r.mono (fun a x _=>⟨n a x,rfl⟩) fun _ x=>x⟩
  | obj k=>obtain ⟨a,e,e0,r⟩:=q;exact ⟨a,e,e0,k.mono (fun a x _=>⟨n a x,rfl⟩) rfl r⟩
 ·trivial
 ·obtain ⟨a,vs,e1,e2,e3,r⟩:=k.at_ i o _ h1 e
  subst e1
  refine ⟨.ref a,rfl,.lst ?_ trivial e2 (r.mono (fun a x _=>⟨n a x,rfl⟩) fun _ _=>trivial)⟩
  intro z
  rcases z with ⟨j,s,g1,g2,g3⟩ | z
  ·have:=k.inj i j a _ s e (w.mut g1 g2) rfl g2 h1 g3
   subst this
   rw [h2] at g1;cases g1;cases g2
  ·exact k.nz i _ a e rfl h1 z
 ·obtain ⟨a,vs,e1,⟨ob,e2⟩,e3,ek,r⟩:=k.at_ i o _ h1 e
  subst e1
  refine ⟨.ref a,rfl,.dic ?_ trivial e2 ek.1 (ek.2.mono (fun a x _=>⟨n a x,rfl⟩) fun _ _=>trivial) (r.mono (fun a x _=>⟨n a x,rfl⟩) fun _ _=>trivial)⟩
  intro z
  rcases z with ⟨j,s,g1,g2,g3⟩ | z
  ·have:=k.inj i j a _ s e (w.mut g1 g2) rfl g2 h1 g3
   subst this
   rw [h2] at g1;cases g1;cases g2
  ·exact k.nz i _ a e rfl h1 z
section
variable {K:PySem.W.Frag} {X:Cx} {m:Bool} {e a b c:Expr} {ta tb tc te:TE} {va vb vc:VT} {pos:Pos} {st:Stmt} {rest:List Stmt} {t u:TS} {v w:VTS}
noncomputable def yl:VTS:=fun V S=>V.nx S
noncomputable def CA (t u:VTS):VTS:=fun V S=>t { V with nx:=fun S'=>∃S'',Wk S' S''/\u V S'' } S
theorem aG:VSs K X [] qI yl:=⟨oo,fun H0 Z σ H S V E k h l=>l.nx σ H S k .refl h⟩
theorem ao (h:VS K X st t v):VSs K X [st] t v:=⟨oq h.ps,h.snd⟩
theorem ai (h1:VS K X st t v) (h2:VSs K X rest u w):VSs K X (st::rest) (vq t u) (CA v w):=⟨iL h1.ps h2.ps,fun H0 Z σ H S V E k h l=>
 h1.snd H0 Z σ H S _ _ k h ⟨fun σ' H' S' k' st zt1=>by obtain ⟨S'',wk,q⟩:=zt1;exact h2.snd H0 Z σ' H' S'' V E (k'.wk wk).1 q (l.step (st.trans (k'.wk wk).2)),l.bk,l.ct,l.rt⟩⟩
theorem vT:VS K X (.Continue pos) x8 (fun V S=>V.ct S):=⟨lL,fun H0 Z σ H S V E k h l=>l.ct σ H S k .refl h⟩
noncomputable def Ag:VTS:=fun _ _=>False
theorem rq:VS K X st iM Ag:=⟨qK,fun _ _ _ _ _ _ _ _ h _=>h.elim⟩
noncomputable def ym (va:VT):VTS:=fun V S=>va S fun _ S1=>V.nx S1
theorem eM (h:VE K X false e te va) (hs:swapsWith e none pos.line X.env=pure false:=by rfl):VS K X (.Expr e pos) (qJ te) (ym va):=⟨ot h.pe hs,fun H0 Z σ H S V E k t l=>h.snd H0 Z σ H S _ _ k t fun v H' r S' k' st _ q=>l.nx σ H' S' k' st q⟩
noncomputable def retO:Option Sl->Option D
 | some (.own ds)=>some (.lst ds)
 | some (.odi ks ds)=>some (.dic ks ds)
 | _=>none
noncomputable def retD (S:List Sl):VR->Option D
 | .d x=>some x
 | .own i=>retO S[i]?
noncomputable def CC (va:VT):VTS:=fun V S=>va S fun r S1=>∃d,retD S1 r=some d/\V.rt d S1
theorem OK.ret {H0 H:Hp} {v:V} (k:OK K H0 Z σ H S) (h:d0 K (FM H0 true) Z σ S H v r) (e:retD S r=some d):Rep K (NP σ S) (Fr H0) H v d:=by
 have np:∀a,NM Z σ S a->NP σ S a:=fun a n i ad ns h1 h2=>n (.inl ⟨i,_,h1,rfl,h2⟩)
 cases r with
 | d x=>cases e;exact Rep.mono (fun a n _=>⟨np a n,rfl⟩) (fun _ x=>x rfl) h
 | own i=>
  have h:σ[i]?=some (some v):=h
  have e:retO S[i]?=some d:=e
  cases es:S[i]? with
  | none=>rw [es] at e;cases e
  | some s=>
   rw [es] at e
   cases s with
   | fre d=>cases e
   | own ds=>
    cases e
    obtain ⟨a,vs,h1,h2,h3,h4⟩:=k.at_ _ _ _ h es
    cases h1
    refine .lst (fun i2 ad ns g1 g2=>?_) ⟨a,rfl,h3⟩ h2 (h4.mono (fun a n _=>⟨np a n,rfl⟩) fun _ x=>x)
    have:=k.inj _ _ a _ _ es g1 rfl rfl h g2
    subst this
    rw [es] at g1;cases g1
   | odi ks ds=>
    cases e
    obtain ⟨a,vs,h1,⟨ob,h2⟩,h3,hk,h4⟩:=k.at_ _ _ _ h es
    cases h1
    refine .dic (fun i2 ad ns g1 g2=>?_) ⟨a,rfl,h3⟩ h2 hk.1 (Reps.flat (hk.2.mono (fun a n _=>⟨np a n,rfl⟩) fun _ x=>x) (iU _)) (h4.mono (fun a n _=>⟨np a n,rfl⟩) fun _ x=>x)
    have:=k.inj _ _ a _ _ es g1 rfl rfl h g2
    subst this
    rw [es] at g1;cases g1
   | no=>cases e
   | val x=>cases e
   | pen a b=>cases e
   | obj k=>cases e
theorem aA (h:VE K X true e te va):VS K X (.Return (some e) pos) (B6 te) (CC va):=⟨zz h.pe,fun H0 Z σ H S V E k t l=>h.snd H0 Z σ H S _ _ k t fun v H' r S' k' st rr zt1=>by obtain ⟨d,e,q⟩:=zt1;exact l.rt v d σ H' S' k' st (k'.ret rr e) q⟩
noncomputable def CD (c:VTT) (t u:VTS):VTS:=fun V S=>c S fun b S1=>if b=true then t V S1 else u V S1
theorem aW {A B:List Stmt} {tA:TT} {wA:VTT} (hc:VTe K X c tA wA) (ha:VSs K X A t v) (hb:VSs K X B u w):VS K X (.If c A B pos) (zA tA t u) (CD wA v w):=⟨x9 hc.pe ha.ps hb.ps,fun H0 Z σ H S V E k t l=>
 hc.snd H0 Z σ H S _ _ k t fun b H1 S1 k1 st1 q=>by
  cases b with
  | true=>rw [if_pos rfl] at q ⊢;exact ha.snd H0 Z σ H1 S1 V E k1 q (l.step st1)
  | false=>rw [if_neg Bool.false_ne_true] at q ⊢;exact hb.snd H0 Z σ H1 S1 V E k1 q (l.step st1)⟩
noncomputable abbrev VG:=D->List Sl->(List Sl->Prop)->Prop
noncomputable def SndG (K:PySem.W.Frag) (g:TG) (vg:VG):Prop:=∀H0 Z σ H S v d Q C,OK K H0 Z σ H S->Rep K (NM Z σ S) AnyF H v d->vg d S Q->(∀ σ' H' S',OK K H0 Z σ' H' S'->Step Z σ S H σ' S' H'->Q S'->C σ' H')->g v σ H C
noncomputable def CF (g:TG):Prop:=∀x σ H Q1 Q2,(∀ σ H,Q1 σ H->Q2 σ H)->g x σ H Q1->g x σ H Q2
noncomputable def Ah (g:TGs):Prop:=∀x σ H Q1 Q2,(∀ σ H,Q1 σ H->Q2 σ H)->g x σ H Q1->g x σ H Q2
structure VGe (K:PySem.W.Frag) (X:Cx) (e:Expr) (g:TG) (vg:VG):Prop where
 pg:PG X e g
 snd:SndG K g vg
 mono:CF g
noncomputable def vgN (i:Nat):VG:=fun d S Q=>i < S.length/\Q (S.set i (.val d))
theorem au {i:Nat} (h:PG X e (bQ i)):VGe K X e (bQ i) (vgN i):=⟨h,fun H0 Z σ H S v d Q C k r zt1 hc=>by obtain ⟨hi,q⟩:=zt1;exact hc _ _ _ (k.setVal hi r).1 (k.setVal hi r).2 q,fun _ _ _ _ _ h q=>h _ _ q⟩
noncomputable def CG (K:PySem.W.Frag) (g:TGs) (vg:List D->List Sl->(List Sl->Prop)->Prop):Prop:=∀H0 Z σ H S vs ds Q C,OK K H0 Z σ H S->Reps K (NM Z σ S) AnyF H vs ds->vg ds S Q->(∀ σ' H' S',OK K H0 Z σ' H' S'->Step Z σ S H σ' S' H'->Q S'->C σ' H')->g vs σ H C
structure VGs (K:PySem.W.Frag) (X:Cx) (es:List Expr) (g:TGs) (vg:List D->List Sl->(List Sl->Prop)->Prop):Prop where
 pg:PGs X es g
 snd:CG K g vg
 mono:Ah g
noncomputable def yn:List D->List Sl->(List Sl->Prop)->Prop:=fun ds S Q=>ds=[]/\Q S
noncomputable def rA (t:VG) (u:List D->List Sl->(List Sl->Prop)->Prop):List D->List Sl->(List Sl->Prop)->Prop:=fun ds S Q=>∃d r,ds=d::r/\t d S fun S1=>u r S1 Q
theorem br:VGs K X [] zC yn:=⟨vw,fun H0 Z σ H S vs ds Q C k r zq1 hc=>by obtain ⟨e,q⟩:=zq1;subst e;cases r;exact ⟨rfl,hc _ _ _ k .refl q⟩,fun _ _ _ _ _ h q=>⟨q.1,h _ _ q.2⟩⟩
theorem aw {es:List Expr} {g:TG} {gs:TGs} {vg:VG} {vgs:List D->List Sl->(List Sl->Prop)->Prop} (h1:VGe K X e g vg) (h2:VGs K X es gs vgs) (hs:(assignEach (e::es) X.env).map (·.2)=assign e X.env::(assignEach es X.env).map (·.2):=by rfl) :
  VGs K X (e::es) (ou g gs) (rA vg vgs):=⟨qL h1.pg h2.pg hs,fun H0 Z σ H S vs ds Q C k r zq1 hc=>by
 obtain ⟨d,rd,e,q⟩:=zq1
 subst e
 cases r with
 | cons rv rr=>exact ⟨_,_,rfl,h1.snd H0 Z σ H S _ _ _ _ k rv q fun σ1 H1 S1 k1 st1 q1=>h2.snd H0 Z σ1 H1 S1 _ _ _ _ k1 (rr.step st1) q1 fun σ2 H2 S2 k2 st2 q2=>hc _ _ _ k2 (st1.trans st2) q2⟩,fun x σ H Q1 Q2 h zt1=>by obtain ⟨v,r,e,q⟩:=zt1;exact ⟨v,r,e,h1.mono _ _ _ _ _ (fun σ' H' q'=>h2.mono _ _ _ _ _ h q') q⟩⟩
noncomputable def vgT (n:Nat) (u:List D->List Sl->(List Sl->Prop)->Prop):VG:=fun d S Q=>∃ds,d=.tup ds/\ds.length=n/\u ds S Q
theorem bG {es:List Expr} {kk:Nat} {gs:TGs} {vgs:List D->List Sl->(List Sl->Prop)->Prop} {n:Nat} (hK:X.K=K) (hc:X.calm=true) (h:VGs K X es gs vgs) (hn:(assignEach es X.env).length=n:=by rfl) (hst:(assignEach es X.env).findIdx? (·.1)=none:=by rfl) :
  VGe K X (.Tuple es kk pos) (zD K n gs) (vgT n vgs):=⟨by subst hK;exact zE hc h.pg hn hst,fun H0 Z σ H S v d Q C k r zq1 hcc=>by
 obtain ⟨ds,e,hl,q⟩:=zq1
 subst e
 obtain ⟨a,vs,rfl,hq,rr⟩:=r.sqT
 exact ⟨a,vs,rfl,hq,by rw [rr.length];exact hl,h.snd H0 Z σ H S _ _ _ _ k rr q hcc⟩,fun x σ H Q1 Q2 hh zt1=>by obtain ⟨a,xs,e1,e2,e3,q⟩:=zt1;exact ⟨a,xs,e1,e2,e3,h.mono _ _ _ _ _ hh q⟩⟩
noncomputable def nB (va:VT) (g:VG):VTS:=fun V S=>va S fun r S1=>∃d,r=.d d/\g d S1 V.nx
theorem kH {g:TG} {vg:VG} (ha:SndE K m te va) (hg:SndG K g vg):Af K (dI te g) (nB va vg):=fun H0 Z σ H S V E k t l=>ha H0 Z σ H S _ _ k t fun v H1 r S1 k1 st1 rr zq1=>by
 obtain ⟨d,e,q⟩:=zq1
 subst e
 exact hg H0 Z σ H1 S1 v d _ _ k1 (Rep.mono (fun _ n _=>⟨n,rfl⟩) (fun _ _=>trivial) rr) q fun σ2 H2 S2 k2 st2 q2=>l.nx σ2 H2 S2 k2 (st1.trans st2) q2
theorem Ai {i:Nat} {x:Str} {pos':Pos} (ps:∀te,PE X e te->PS X (.Assign [.Name x pos'] e pos) (dI te (bQ i))) (h:VE K X false e te va):VS K X (.Assign [.Name x pos'] e pos) (dI te (bQ i)) (nB va (vgN i)):=
 ⟨ps te h.pe,kH h.snd fun H0 Z σ H S v d Q C k r zt1 hc=>by obtain ⟨hi,q⟩:=zt1;exact hc _ _ _ (k.setVal hi r).1 (k.setVal hi r).2 q⟩
theorem gC {tg:Expr} {g:TG} {vg:VG} (h:VE K X false e te va) (hg:VGe K X tg g vg) (hs:swapsWithSole [tg] e pos.line X.env=pure false:=by rfl) (hw:swappedStores [tg] e X.env=pure none:=by rfl)
  (h1:(assignEach [tg] X.env).map (·.2)=[assign tg X.env]:=by rfl):VS K X (.Assign [tg] e pos) (dI te g) (nB va vg):=⟨qM h.pe hg.pg hs hw h1,kH h.snd hg.snd⟩
noncomputable def yo (i:Nat) (t:VTN):VTS:=fun V S=>t S fun ds S1=>i < S1.length/\V.nx (S1.set i (.own ds))
theorem fP {i:Nat} {x:Str} {pos':Pos} {tn:VTN} (ps:∀te,PE X e te->PS X (.Assign [.Name x pos'] e pos) (dI te (bQ i))) (h:VN K X e te tn):VS K X (.Assign [.Name x pos'] e pos) (dI te (bQ i)) (yo i tn):=
 ⟨ps te h.pe,fun H0 Z σ H S V E k t l=>h.snd H0 Z σ H S _ _ k t fun a vs ds H1 H' S' k1 st1 ha hg hl rr zq1=>by
  obtain ⟨hi,q⟩:=zq1
  obtain ⟨k2,st2⟩:=k1.setNew (s:=.own ds) hi ha hg ⟨a,vs,rfl,hl,k1.dom a ha,rr⟩ rfl
  exact l.nx _ _ _ k2 (st1.trans st2) q⟩
noncomputable def yp (i:Nat) (t:VTN):VTS:=fun V S=>t S fun ds S1=>∃ns:List Int,ds=ns.map .int/\i < S1.length/\V.nx (S1.set i (.pen none ns))
theorem vU {i:Nat} {x:Str} {pos':Pos} {tn:VTN} (ps:∀te,PE X e te->PS X (.Assign [.Name x pos'] e pos) (dI te (bQ i))) (h:VN K X e te tn):VS K X (.Assign [.Name x pos'] e pos) (dI te (bQ i)) (yp i tn):=
 ⟨ps te h.pe,fun H0 Z σ H S V E k t l=>h.snd H0 Z σ H S _ _ k t fun a vs ds H1 H' S' k1 st1 ha hg hl rr zq1=>by
  obtain ⟨ns,e,hi,q⟩:=zq1
  subst e
  obtain ⟨k2,st2⟩:=k1.setNew (s:=.pen none ns) hi ha hg ⟨a,rfl,(fun _ z=>nomatch z),by rw [<- Reps.toInts rr];exact hl⟩ rfl
  exact l.nx _ _ _ k2 (st1.trans st2) q⟩
end
end VL
end
section
namespace VL
open PySem L2
section
variable {K:PySem.W.Frag} {X:Cx} {m:Bool} {e a b c:Expr} {ta tb tc te ti:TE} {va vb vc vi:VT} {pos:Pos} {st:Stmt} {rest:List Stmt} {t u:TS} {v w:VTS}
theorem OK.ownAt {H0 H:Hp} (k:OK K H0 Z σ H S) {i:Nat} {s:Sl} (e:S[i]?=some s):∃o,σ[i]?=some o/\p6 K H0 (NM Z σ S) H o s:=by
 have hi:i < σ.length:=by rw [k.len];exact (List.getElem?_eq_some_iff.mp e).1
 exact ⟨_,List.getElem?_eq_getElem hi,k.at_ i _ s (List.getElem?_eq_getElem hi) e⟩
noncomputable def Aj (i:Nat) (ve:VT):VT:=fun S Q=>(∃ds,S[i]?=some (.own ds))/\ve S fun r S1=>∃d ds,r=.d d/\S1[i]?=some (.own ds)/\ds.length<=1000000/\Q (.d .non) (S1.set i (.own (ds++[d])))
theorem Ak {apos:Pos} {o:Expr} (i:Nat) (hK:X.K=K) (ho:PE X o (cG i)) (h:VE K X true e te va) (pe:∀te,PE X e te->PE X (.Call (.Attribute o "append" apos) [e] [] pos) (tBM X.K "list" ij (cG i) (eY te lO))) :
  VE K X m (.Call (.Attribute o "append" apos) [e] [] pos) (tBM K "list" ij (cG i) (eY te lO)) (Aj i va):=⟨by subst hK;exact pe te h.pe,fun H0 Z σ H S Q C k zq1 hc=>by
 obtain ⟨⟨ds0,e0⟩,t⟩:=zq1
 obtain ⟨o,h1,a,vs,rfl,h2,h3,h4⟩:=k.ownAt e0
 refine ⟨.ref a,h1,.inl ⟨rfl,vs,.inl (.inl h2)⟩,?_⟩
 refine h.snd H0 Z σ H S _ _ k t fun x H1 r S1 k1 st1 rr zr1=>?_
 obtain ⟨d,ds,er,e1,hl,q⟩:=zr1
 subst er
 obtain ⟨o',g1,a',vs',rfl,g2,g3,g4⟩:=k1.ownAt e1
 rw [h1] at g1;cases g1
 refine ⟨a,vs',x,rfl,rfl,g2,by rw [g4.length,sizeLine_eq];lia,?_⟩
 have na:NM Z σ S1 a->False:=fun n=>n (.inl ⟨i,_,e1,rfl,h1⟩)
 have hm:∀b,NM Z σ S1 b->H1 b≠none->NM Z σ S1 b/\upd H1 a (.lst (vs'++[x])) b=H1 b:=fun b n _=>⟨n,aD fun z=>na (by rw [<- z];exact n)⟩
 obtain ⟨k2,st2⟩:=k1.chg (s:=.own (ds++[d])) (o:=.lst (vs'++[x])) e1 rfl h1 ⟨_,rfl⟩ rfl ⟨a,_,rfl,aH,g3,Reps.append (g4.mono hm fun _ x=>x) (.cons (Rep.mono hm (fun _ x=>x rfl) rr) .nil)⟩
 exact hc .non _ (.d .non) _ k2 (st1.trans st2) Rep.non q⟩
theorem rB {apos:Pos} {o:Expr} (i:Nat) (hK:X.K=K) (ho:PE X o (cG i)) (h:VE K X true e te va) (hbase:attributeBase o "append" X.env (eval o X.env)=eval o X.env:=by rfl)
  (hfew:((backTo pos (starEach (e::[]) X.env)).all (fun x=>!x.1)&&(backToKw pos (keywordEach [] X.env)).all (fun x=>x.1.isSome)
   && decide ((e::[]).length+([]:List Keyword).length+(if ([]:List Keyword).isEmpty then 0 else 1) < 30))=true:=by rfl)
  (hline:(apos.endLine==pos.line)=true:=by rfl) (hs:starEach (e::[]) X.env=(false,eval e X.env)::starEach [] X.env:=by rfl) (hplain:(backTo pos (starEach [] X.env)).any (·.1)=false:=by rfl) :
  VE K X m (.Call (.Attribute o "append" apos) [e] [] pos) (tBM K "list" ij (cG i) (eY te lO)) (Aj i va):=
 Ak i hK ho h fun te hp=>Cj PySem.F.plainAttrs_list PySem.F.slot_list_append PySem.F.type_list_append pW ho (bW hp fc hs) hbase hfew hline hs hplain
noncomputable def rC (i:Nat) (ve vi:VT):VTS:=fun V S=>ve S fun r S1=>(∃s,S1[i]?=some s/\s.mut=true)/\vi S1 fun ri S2=>∃j,get S2 ri=some (.int j) /\
  ((∃ad ns k n,S2[i]?=some (.pen ad ns)/\ixN ns.length j=some k/\r=.d (.int n)/\V.nx (S2.set i (.pen ad (ns.set k n)))) \/
   (∃ds k d,S2[i]?=some (.own ds)/\ixN ds.length j=some k/\r=.d d/\V.nx (S2.set i (.own (ds.set k d)))))
theorem mi {o ie:Expr} {posS:Pos} (i:Nat) (ho:PE X o (cG i)) (h:VE K X true e te va) (hi:VE K X false ie ti vi)
  (ha:∀v,assign (.Subscript o ie posS) X.env v=(do
   let ov <- holding [v] (eval o X.env)
   let iv <- holding [v,ov] (eval ie X.env)
   standAt posS
   holding [v,ov,iv] (setItem ov iv v)
   release [v,ov,iv] []):=by intro _;rfl)
  (hs:swapsWithSole [.Subscript o ie posS] e pos.line X.env=pure false:=by rfl) (hw:swappedStores [.Subscript o ie posS] e X.env=pure none:=by rfl)
  (h1:(assignEach [.Subscript o ie posS] X.env).map (·.2)=[assign (.Subscript o ie posS) X.env]:=by rfl) :
  VS K X (.Assign [.Subscript o ie posS] e pos) (dI te (zF (cG i) ti qT)) (rC i va vi):=⟨qM h.pe (zG ho hi.pe set_list ha) hs hw h1,fun H0 Z σ H S V E k t l=>by
 refine h.snd H0 Z σ H S _ _ k t fun x H1 r S1 k1 st1 rr zr1=>?_
 obtain ⟨⟨s1,em,hm1⟩,q⟩:=zr1
 -- the slot's address stays: σ is one
 have fin:∀(p:Addr),σ[i]?=some (some (.ref p))->zF (cG i) ti qT x σ H1 E.nx:=fun p hp=>by
  refine ⟨.ref p,hp,hi.snd H0 Z σ H1 S1 _ _ k1 q fun y H2 ri S2 k2 st2 r2 zr1=>?_⟩
  obtain ⟨j,ej,q2⟩:=zr1
  cases r2.get k2 ej
  have rr2:=rr.step st2
  rcases q2 with ⟨ad,ns,kk,n,e1,e2,er,q2⟩ | ⟨ds,kk,d,e1,e2,er,q2⟩
  ·subst er
   cases (show Rep K _ _ H2 x (.int n) from rr2)
   obtain ⟨o',g1,a',rfl,g2,g3⟩:=k2.ownAt e1
   rw [hp] at g1;cases g1
   refine ⟨p,_,j,kk,rfl,rfl,g3,by rw [List.length_map];exact e2,?_⟩
   obtain ⟨k3,st3⟩:=k2.chg (s:=.pen ad (ns.set kk n)) (o:=.lst ((ns.map L2.V.int).set kk (.int n))) e1 rfl hp ⟨_,rfl⟩ rfl ⟨p,rfl,g2,by rw [aH,List.map_set]⟩
   exact l.nx _ _ _ k3 ((st1.trans st2).trans st3) q2
  ·subst er
   obtain ⟨o',g1,a',vs,rfl,g2,g3,g4⟩:=k2.ownAt e1
   rw [hp] at g1;cases g1
   refine ⟨p,_,j,kk,rfl,rfl,g2,by rw [g4.length];exact e2,?_⟩
   have na:NM Z σ S2 p->False:=fun n=>n (.inl ⟨i,_,e1,rfl,hp⟩)
   have hm:∀b,NM Z σ S2 b->H2 b≠none->NM Z σ S2 b/\upd H2 p (.lst (vs.set kk x)) b=H2 b:=fun b n _=>⟨n,aD fun z=>na (by rw [<- z];exact n)⟩
   obtain ⟨k3,st3⟩:=k2.chg (s:=.own (ds.set kk d)) (o:=.lst (vs.set kk x)) e1 rfl hp ⟨_,rfl⟩ rfl ⟨p,_,rfl,aH,g3,Reps.set (Rep.mono hm (fun _ x=>x rfl) rr2) kk (g4.mono hm fun _ x=>x)⟩
   exact l.nx _ _ _ k3 ((st1.trans st2).trans st3) q2
 -- which address it is: look once
 obtain ⟨o1,g1,g2⟩:=k1.ownAt em
 cases s1 with
 | no=>cases hm1
 | val d=>cases hm1
 | fre d=>cases hm1
 | own ds=>obtain ⟨p,_,rfl,_⟩:=g2;exact fin p g1
 | pen ad ns=>obtain ⟨p,rfl,_⟩:=g2;exact fin p g1
 | odi ks ds=>obtain ⟨p,_,rfl,_⟩:=g2;exact fin p g1
 | obj k=>obtain ⟨p,rfl,_⟩:=g2;exact fin p g1⟩
noncomputable def pick:List VR->Nat->Option (Nat×List VR)
 | .own i::r,0=>some (i,r)
 | x::r,j+1=>(pick r j).map fun p=>(p.1,x::p.2)
 | _,_=>none
noncomputable def vV (j:Nat) (p:List Int->List D->(D->List Int->Prop)->Prop) (vr:VTA):VT:=fun S Q=>vr S fun rs S1=>∃i rs' ad ns ds,pick rs j=some (i,rs')/\S1[i]?=some (.pen ad ns)/\allD rs'=some ds/\p ns ds fun d ns'=>Q (.d d) (S1.set i (.pen ad ns'))
theorem cM.pick:∀{j:Nat} {vs:List V} {rs:List VR} {i:Nat} {rs':List VR},cM K F Z σ S H vs rs->VL.pick rs j=some (i,rs')->∃v ws us,vs=ws++v::us/\ws.length=j/\σ[i]?=some (some v)/\cM K F Z σ S H (ws++us) rs'/\ws.length<=(ws++us).length
 | 0,_,_,i,rs',.cons (r:=r) h t,e=>by
  cases r with
  | d x=>cases e
  | own k=>cases e;exact ⟨_,[],_,rfl,rfl,h,t,by simp⟩
 | j+1,_,_,i,rs',.cons (r:=r) (rs:=rs) h t,e=>by
  have e':(VL.pick rs j).map (fun p=>(p.1,r::p.2))=some (i,rs'):=by cases r <;> exact e
  obtain ⟨⟨i',q⟩,h1,h2⟩:=Option.map_eq_some_iff.mp e'
  cases h2
  obtain ⟨v,ws,us,rfl,hl,hs,rr,_⟩:=cM.pick t h1
  exact ⟨v,_::ws,us,rfl,by simp [hl],hs,.cons h rr,by simp⟩
 | _,_,_,_,_,.nil,e=>by cases e
theorem Reps.splitAt {N:AP}:∀{ws us:List V} {ds:List D},Reps K N F H (ws++us) ds->∃d1 d2,ds=d1++d2/\Reps K N F H ws d1/\Reps K N F H us d2
 | [],us,ds,h=>⟨[],ds,rfl,.nil,h⟩
 | w::ws,us,_,.cons h t=>by
  obtain ⟨d1,d2,rfl,h1,h2⟩:=Reps.splitAt (ws:=ws) t
  exact ⟨_::d1,d2,rfl,.cons h h1,h2⟩
section
variable {es:List Expr} {tr:TA} {vr:VTA} {x:Str} {p0:Pos} {j k:Nat} {ps:List Str}
theorem bf {jj:Nat} {p:List Int->List D->(D->List Int->Prop)->Prop} (E:Has X.prog X.w X.K X.mg X.base k x ps (spI K jj p)) (hr:bV j X.A) (ha:VA K X false (e::es) tr vr)
  (hk:k<=j:=by decide) (hg:Gl X x:=by rfl) (hdb:(x==("__debug__":Str))=false:=by decide) (he:starEach (e::es) X.env=(false,eval e X.env)::starEach es X.env:=by rfl)
  (hpl:(backTo pos (starEach es X.env)).any (·.1)=false:=by rfl):VE K X m (.Call (.Name x p0) (e::es) [] pos) (iQ (spI K jj p) [] E0 tr) (vV jj p vr):=⟨oG E hr ha.pe hk hg hdb he hpl,fun H0 Z σ H S Q C k t hc=>
 ha.snd H0 Z σ H S _ _ k t fun vs H1 rs S1 k1 st1 rrs zq1=>by
  obtain ⟨i,rs',ad,ns,ds,e1,e2,e3,q⟩:=zq1
  obtain ⟨v,ws,us,rfl,hl,hs,rr,_⟩:=rrs.pick e1
  obtain ⟨o,g1,a,rfl,g2,g3⟩:=k1.ownAt e2
  rw [hs] at g1;cases g1
  have ma:Mo Z σ S1 a:=.inl ⟨i,_,e2,rfl,hs⟩
  obtain ⟨d1,d2,rfl,r1,r2⟩:=Reps.splitAt (rr.allD e3)
  have hm:∀b,NM Z σ S1 b->H1 b≠none->b≠a/\H1 b=H1 b:=fun b n _=>⟨fun z=>n (by rw [z];exact ma),rfl⟩
  refine ⟨a,ws,us,ns,d1,d2,_,by rw [List.append_nil],hl,g3,r1.mono hm fun _ _=>trivial,r2.mono hm fun _ _=>trivial,q,fun d ns' v H' q g ga rv=>?_⟩
  -- the pen changed,and the heap grown
  have hG:∀b,upd H1 a (.lst (ns'.map V.int)) b≠none->H' b=upd H1 a (.lst (ns'.map V.int)) b:=fun b hb=>by
   by_cases hba:b=a
   ·subst hba;rw [aH];exact ga
   ·rw [aD hba] at hb ⊢;exact g b hba hb
  obtain ⟨k2,st2⟩:=k1.chg (s:=.pen ad ns') (o:=.lst (ns'.map V.int)) e2 rfl hs ⟨_,rfl⟩ rfl ⟨a,rfl,g2,aH⟩
  have k3:=k2.grow hG
  refine hc v H' (.d d) _ k3 ((st1.trans st2).trans (.grow hG)) (show Rep K _ _ H' v d from ?_) q
  refine (Rep.avoid (N':=NM Z σ (S1.set i (.pen ad ns'))) (fun b z=>k3.mo (Classical.not_not.mp z)) (fun b zr1=>?_) rv).mono (fun _ n _=>⟨n,rfl⟩) (fun o zt1 _=>by obtain ⟨c,ec,f⟩:=zt1;exact ⟨c,ec,k1.dom c f⟩)
  obtain ⟨c,ec,f⟩:=zr1
  cases ec
  refine k2.nm ?_
  rw [aD]
  ·exact f
  ·intro z;subst z;rw [g3] at f;cases f⟩
end
end
end VL
end
section
namespace VL
open PySem L2
noncomputable def Gd (K:PySem.W.Frag) (Z:AP) (J:It) (ds:List D) (σ:St) (S:List Sl) (H:Hp):Prop:=∀ σ2 S2 H2,(∀p,H2 p=none->NM Z σ2 S2 p)->(∀a,NM Z σ S a->H a≠none->H2 a=H a/\NM Z σ2 S2 a)->∀i,(i < ds.length->J.go i H2)/\(∀x H3,J.yld i H2 x H3->i < ds.length->(∀a,H2 a≠none->H3 a=H2 a)/\∃d,ds[i]?=some d/\Rep K (NM Z σ2 S2) AnyF H3 x d)/\(i=ds.length->J.stop i H2)
noncomputable def EG (K:PySem.W.Frag) (wi:TI) (vi:VTN):Prop:=∀H0 Z σ H S Q C,OK K H0 Z σ H S->vi S Q->(∀J ds H' S',OK K H0 Z σ H' S'->Step Z σ S H σ S' H'->Gd K Z J ds σ S' H'->Q ds S'->C J H')->wi σ H C
structure VI (K:PySem.W.Frag) (X:Cx) (tg e:Expr) (wi:TI) (vi:VTN):Prop where
 pi:PI X tg e wi
 snd:EG K wi vi
section
variable {K:PySem.W.Frag} {X:Cx} {m:Bool} {e a b c tg:Expr} {ta tb tc te ti:TE} {va vb vc:VT} {pos:Pos} {st:Stmt} {rest:List Stmt} {t u:TS} {v w:VTS}
noncomputable def CH (va:VT):VTN:=fun S Q=>va S fun r S1=>∃ds,r=.d (.lst ds)/\Q ds S1
theorem bg (hK:X.K=K) (h:VE K X false e te va):VI K X tg e (yc K te) (CH va):=⟨by subst hK;exact vy h.pe,fun H0 Z σ H S Q C k t hc=>h.snd H0 Z σ H S _ _ k t fun v H1 r S1 k1 st1 rr zq1=>by
 obtain ⟨ds,e,q⟩:=zq1
 subst e
 have rr:Rep K _ _ H1 v (.lst ds):=rr
 obtain ⟨a,vs,rfl,hq,_⟩:=rr.sqL
 refine ⟨a,rfl,⟨vs,hq⟩,hc _ ds H1 S1 k1 st1 (fun σ2 S2 H2 _ st2 i=>?_) q⟩
 obtain ⟨a',vs',e,hq2,r2⟩:=(rr.stp st2).sqL
 cases e
 refine ⟨fun hi=>?_,fun x H3 hy hi=>?_,fun hi=>⟨vs',hq2,by rw [r2.length];lia⟩⟩
 ·obtain ⟨v,h1,_⟩:=r2.getD (List.getElem?_eq_getElem hi)
  exact ⟨vs',v,hq2,h1⟩
 ·obtain ⟨e,h2⟩:=hy
  obtain ⟨d,h3,h4⟩:=r2.get (h2 vs' hq2)
  exact ⟨fun _ _=>by rw [e],d,h3,h4.mono (fun _ n _=>⟨n,by rw [e]⟩) fun _ _=>trivial⟩⟩
noncomputable def rg (lo:Int) (n:Nat):List D:=(List.range n).map fun (i:Nat)=>D.int (lo+(i:Int))
theorem gF (lo:Int) (n:Nat):(rg lo n).length=n:=by simp [rg]
theorem rD {lo:Int} {n i:Nat} (h:i < n):(rg lo n)[i]?=some (.int (lo+(i:Int))):=by simp [rg,h]
theorem rE {lo:Int} {n:Nat}:Gd K Z (Itr lo n) (rg lo n) σ S H:=fun σ2 S2 H2 _ st2 i=>by
 rw [gF]
 refine ⟨fun h=>h,fun x H3 zt1 hi=>by obtain ⟨e,hx⟩:=zt1;exact ⟨fun _ _=>by rw [e],_,rD hi,by rw [hx];exact .int _⟩,fun h=>by rw [h];exact Nat.le_refl _⟩
section
variable {tr:TA} {vr:VTA} {p:Pos}
noncomputable def CI (vr:VTA):VTN:=fun S Q=>vr S fun rs S1=>∃j:Int,rs=[.d (.int j)]/\-(2 ^ 62)<=j/\j < 2 ^ 62/\Q (rg 0 j.toNat) S1
noncomputable def CJ (vr:VTA):VTN:=fun S Q=>vr S fun rs S1=>∃i j:Int,rs=[.d (.int i),.d (.int j)]/\(-(2 ^ 62)<=i/\i < 2 ^ 62/\-(2 ^ 62)<=j/\j < 2 ^ 62)/\Q (rg i (j-i).toNat) S1
theorem cy (hg:Gl X "range") (hm:X.mg "range"=none) (ha:VA K X false [a] tr vr) (hs:starEach [a] X.env=[(false,eval a X.env)]:=by rfl):VI K X tg (.Call (.Name "range" p) [a] [] pos) (yd tr) (CI vr):=⟨pR hg hm ha.pe hs,fun H0 Z σ H S Q C k t hc=>
 ha.snd H0 Z σ H S _ _ k t fun vs H1 rs S1 k1 st1 rrs zq1=>by
  obtain ⟨j,e,h1,h2,q⟩:=zq1
  subst e
  cases rrs with
  | cons r t=>
   cases t
   cases (show Rep K _ _ H1 _ (.int j) from r)
   exact ⟨j,rfl,h1,h2,hc _ _ H1 S1 k1 st1 rE q⟩⟩
theorem gG (hg:Gl X "range") (hm:X.mg "range"=none) (ha:VA K X false [a,b] tr vr) (hs:starEach [a,b] X.env=[(false,eval a X.env),(false,eval b X.env)]:=by rfl) (hs2:starEach [b] X.env=[(false,eval b X.env)]:=by rfl):VI K X tg (.Call (.Name "range" p) [a,b] [] pos) (ye tr) (CJ vr):=⟨pS hg hm ha.pe hs hs2,fun H0 Z σ H S Q C k t hc=>
 ha.snd H0 Z σ H S _ _ k t fun vs H1 rs S1 k1 st1 rrs zq1=>by
  obtain ⟨i,j,e,h1,q⟩:=zq1
  subst e
  cases rrs with
  | cons r t=>
   cases t with
   | cons r' t=>
    cases t
    cases (show Rep K _ _ H1 _ (.int i) from r)
    cases (show Rep K _ _ H1 _ (.int j) from r')
    exact ⟨i,j,rfl,h1,hc _ _ H1 S1 k1 st1 rE q⟩⟩
end
noncomputable def runFor (vg:VG) (vb:VTS) (V:bt):List D->List Sl->Prop
 | []=>V.nx
 | d::r=>fun S=>vg d S fun S3=>vb ⟨runFor vg vb V r,V.rt,V.nx,runFor vg vb V r⟩ S3
noncomputable def CK (vi:VTN) (vg:VG) (vb:VTS):VTS:=fun V S=>vi S fun ds S1=>runFor vg vb V ds S1\/∃Iv:Nat->List Sl->Prop,Iv 0 S1/\(∀i d S2,ds[i]?=some d->Iv i S2->vg d S2 fun S3=>vb { V with nx:=Iv (i+1),ct:=Iv (i+1),bk:=V.nx } S3)/\∀S2,Iv ds.length S2->V.nx S2
theorem bP {body:List Stmt} {wi:TI} {vi:VTN} {g:TG} {vg:VG} (hp:PassesOwn (model X.prog X.w) X.A X.env X.xe) (hc:X.calm=true) (hi:VI K X tg e wi vi) (hg:VGe K X tg g vg) (hb:VSs K X body t v) (hs:∀x,foldedSetIterable e X.env x=pure x:=by intro _;rfl) :
  VS K X (.For tg e body [] pos) (B9 wi g t) (CK vi vg v):=⟨zI hp hc hi.pi hg.pg hb.ps hs,fun H0 Z σ H S V E k t l=>hi.snd H0 Z σ H S _ _ k t fun J ds H1 S1 k1 st1 gd hh=>by
 rcases hh with hr | ⟨Iv,i0,hs,hd⟩
 ·refine ⟨fun i m σ H=>m=ds.length-i/\i<=ds.length/\∃S2,OK K H0 Z σ H S2/\Step Z _ S1 H1 σ S2 H/\runFor vg v V (ds.drop i) S2,⟨ds.length,by simp,Nat.zero_le _,S1,k1,.refl,by simpa using hr⟩,?_⟩
  rintro i m σ2 H2 ⟨rfl,hi,S2,k2,st2,p⟩
  obtain ⟨g1,g2,g3⟩:=gd σ2 S2 H2 (fun _=>k2.nm) st2.1 i
  by_cases hlt:i < ds.length
  ·rw [List.drop_eq_getElem_cons hlt] at p
   refine .inr ⟨g1 hlt,fun σ' H'=>∃S',OK K H0 Z σ' H' S'/\Step Z σ S1 H1 σ' S' H'/\runFor vg v V (ds.drop (i+1)) S',fun σ' H' p'=>⟨ds.length-(i+1),by lia,rfl,hlt,p'⟩,fun x H3 y=>?_⟩
   obtain ⟨hgr,d,hd',rd⟩:=g2 x H3 y hlt
   replace k2:=k2.grow hgr
   replace st2:=st2.trans (.grow hgr)
   rw [List.getElem?_eq_getElem hlt] at hd'
   cases hd'
   refine hg.snd H0 Z σ2 H3 S2 x _ _ _ k2 rd p fun σ4 H4 S4 k4 st4 q4=>?_
   refine hb.snd H0 Z σ4 H4 S4 _ _ k4 q4 ⟨fun σ' H' S' k' s' q'=>⟨S',k',(st2.trans st4).trans s',q'⟩,fun σ' H' S' k' s' q'=>l.nx σ' H' S' k' (((st1.trans st2).trans st4).trans s') q',fun σ' H' S' k' s' q'=>⟨S',k',(st2.trans st4).trans s',q'⟩,fun v d σ' H' S' k' s' r' q'=>l.rt v d σ' H' S' k' (((st1.trans st2).trans st4).trans s') r' q'⟩
  ·have e:i=ds.length:=by lia
   rw [e,List.drop_length] at p
   exact .inl ⟨g3 e,l.nx _ _ _ k2 (st1.trans st2) p⟩
 refine ⟨fun i m σ H=>m=ds.length-i/\i<=ds.length/\∃S2,OK K H0 Z σ H S2/\Step Z _ S1 H1 σ S2 H/\Iv i S2,⟨ds.length,by simp,Nat.zero_le _,S1,k1,.refl,i0⟩,?_⟩
 rintro i m σ2 H2 ⟨rfl,hi,S2,k2,st2,p⟩
 obtain ⟨g1,g2,g3⟩:=gd σ2 S2 H2 (fun _=>k2.nm) st2.1 i
 by_cases hlt:i < ds.length
 ·refine .inr ⟨g1 hlt,fun σ' H'=>∃S',OK K H0 Z σ' H' S'/\Step Z σ S1 H1 σ' S' H'/\Iv (i+1) S',fun σ' H' p'=>⟨ds.length-(i+1),by lia,rfl,hlt,p'⟩,fun x H3 y=>?_⟩
  obtain ⟨hgr,d,hd',rd⟩:=g2 x H3 y hlt
  replace k2:=k2.grow hgr
  replace st2:=st2.trans (.grow hgr)
  refine hg.snd H0 Z σ2 H3 S2 x d _ _ k2 rd (hs i d S2 hd' p) fun σ4 H4 S4 k4 st4 q4=>?_
  refine hb.snd H0 Z σ4 H4 S4 _ _ k4 q4 ⟨fun σ' H' S' k' s' q'=>⟨S',k',(st2.trans st4).trans s',q'⟩,fun σ' H' S' k' s' q'=>l.nx σ' H' S' k' (((st1.trans st2).trans st4).trans s') q',fun σ' H' S' k' s' q'=>⟨S',k',(st2.trans st4).trans s',q'⟩,fun v d σ' H' S' k' s' r' q'=>l.rt v d σ' H' S' k' (((st1.trans st2).trans st4).trans s') r' q'⟩
 ·have e:i=ds.length:=by lia
  exact .inl ⟨g3 e,l.nx _ _ _ k2 (st1.trans st2) (hd S2 (by rw [<- e];exact p))⟩⟩
end
noncomputable def bA (n:Nat) (ix:List Nat) (S:List Sl):List Sl:=List.replicate n .no++ix.map fun i=>(S[i]?).getD .no
noncomputable def mj (s t:Sl):Sl:=if s.mut then (if t.mut then t else .no) else s
noncomputable def bR (n:Nat) (ix:List Nat) (T:List Sl):Nat->List Sl->List Sl
 | _,[]=>[]
 | k,s::r=>(match ix.idxOf? k with | some j=>mj s ((T[n+j]?).getD .no) | none=>s)::bR n ix T (k+1) r
noncomputable def backS (n:Nat) (ix:List Nat) (S T:List Sl):List Sl:=bR n ix T 0 S
noncomputable def Zin (Z:AP) (ix:List Nat) (σ:St) (S:List Sl):AP:=fun a=>Z a\/∃(i:Nat) (s:Sl),i∉ix/\S[i]?=some s/\s.mut=true/\σ[i]?=some (some (V.ref a))
section
variable {K:PySem.W.Frag} {H H' H0:Hp} {Z:AP} {σ σ':St} {S T:List Sl} {n:Nat} {ix:List Nat}
theorem iZ (k:Nat):(bR n ix T k S).length=S.length:=by
 induction S generalizing k with
 | nil=>rfl
 | cons s r ih=>simp [bR,ih]
theorem vW (k:Nat) {i:Nat} {s:Sl} (h:S[i]?=some s):(bR n ix T k S)[i]?=some (match ix.idxOf? (k+i) with | some j=>mj s ((T[n+j]?).getD .no) | none=>s):=by
 induction S generalizing k i with
 | nil=>simp at h
 | cons s' r ih=>
  cases i with
  | zero=>simp at h;subst h;rfl
  | succ i=>
   simp at h
   simp only [bR,List.getElem?_cons_succ]
   rw [ih (k+1) h,show k+1+i=k+(i+1) by lia]
theorem kI {j:Nat} {s:Sl} (h:(bA n ix S)[j]?=some s) (m:s.mut=true):∃k i,j=n+k/\ix[k]?=some i/\S[i]?=some s:=by
 unfold bA at h
 by_cases hj:j < n
 ·rw [List.getElem?_append_left (by simpa using hj)] at h
  simp [hj] at h
  subst h;cases m
 ·rw [List.getElem?_append_right (by simp;lia)] at h
  simp only [List.length_replicate,List.getElem?_map] at h
  cases hk:ix[j-n]? with
  | none=>rw [hk] at h;cases h
  | some i=>
   rw [hk] at h
   simp at h
   refine ⟨j-n,i,by lia,hk,?_⟩
   cases hs:S[i]? with
   | none=>rw [hs] at h;simp at h;subst h;cases m
   | some s'=>rw [hs] at h;simp at h;subst h;rfl
theorem vX {j:Nat} {s:Sl} (h:(bA n ix S)[j]?=some s):s=.no\/∃k i,j=n+k/\ix[k]?=some i/\S[i]?=some s:=by
 unfold bA at h
 by_cases hj:j < n
 ·rw [List.getElem?_append_left (by simpa using hj)] at h
  simp [hj] at h
  exact .inl h.symm
 ·rw [List.getElem?_append_right (by simp;lia)] at h
  simp only [List.length_replicate,List.getElem?_map] at h
  cases hk:ix[j-n]? with
  | none=>rw [hk] at h;cases h
  | some i=>
   rw [hk] at h
   simp at h
   cases hs:S[i]? with
   | none=>rw [hs] at h;simp at h;exact .inl h.symm
   | some s'=>rw [hs] at h;simp at h;subst h;exact .inr ⟨j-n,i,by lia,hk,hs⟩
theorem fQ {k i:Nat} (h:ix[k]?=some i):(capt n ix σ)[n+k]?=some ((σ[i]?).getD none):=by
 unfold capt
 rw [List.getElem?_append_right (by simp)]
 simp [h]
theorem vY {k i:Nat} (h:ix[k]?=some i):(bA n ix S)[n+k]?=some ((S[i]?).getD .no):=by
 unfold bA
 rw [List.getElem?_append_right (by simp)]
 simp [h]
theorem dw {k i:Nat} (h:ix[k]?=some i) (e:(capt n ix σ)[n+k]?=some (some v)):σ[i]?=some (some v):=by
 rw [fQ h] at e
 cases hs:σ[i]? with
 | none=>rw [hs] at e;cases e
 | some o=>rw [hs] at e;simp at e;rw [e]
theorem i3 {a:Addr}:Mo (Zin Z ix σ S) (capt n ix σ) (bA n ix S) a↔Mo Z σ S a:=by
 constructor
 ·rintro (⟨j,s,h1,h2,h3⟩ | h | ⟨i,s,_,h1,h2,h3⟩)
  ·obtain ⟨k,i,rfl,hk,hs⟩:=kI h1 h2
   exact .inl ⟨i,s,hs,h2,dw hk h3⟩
  ·exact .inr h
  ·exact .inl ⟨i,s,h1,h2,h3⟩
 ·rintro (⟨i,s,h1,h2,h3⟩ | h)
  ·by_cases hi:i∈ix
   ·obtain ⟨k,hk⟩:=List.getElem?_of_mem hi
    refine .inl ⟨n+k,s,?_,h2,?_⟩
    ·rw [vY hk,h1];rfl
    ·rw [fQ hk,h3];rfl
   ·exact .inr (.inr ⟨i,s,hi,h1,h2,h3⟩)
  ·exact .inr (.inl h)
theorem p8 {l:List Nat} (h:l.Nodup):∀{i j x:Nat},l[i]?=some x->l[j]?=some x->i=j:=fun {i j x} h1 h2=>by
 obtain ⟨a,e1⟩:=List.getElem?_eq_some_iff.mp h1
 obtain ⟨b,e2⟩:=List.getElem?_eq_some_iff.mp h2
 have hp:=List.pairwise_iff_getElem.mp h
 rcases Nat.lt_trichotomy i j with c | c | c
 ·exact (hp i j a b c (by rw [e1,e2])).elim
 ·exact c
 ·exact (hp j i b a c (by rw [e1,e2])).elim
theorem OK.capt (k:OK K H0 Z σ H S) (hn:ix.Nodup):OK K H0 (Zin Z ix σ S) (L2.capt n ix σ) H (bA n ix S) where
 len:=by simp [L2.capt,bA]
 dom:=k.dom
 zl:=fun a z=>by
  rcases z with z | ⟨i,s,_,h1,h2,h3⟩
  ·exact k.zl a z
  ·exact k.mo (.inl ⟨i,s,h1,h2,h3⟩)
 nz:=fun j s a h1 h2 h3 z=>by
  obtain ⟨q,i,rfl,hk,hs⟩:=kI h1 h2
  have e:=dw hk h3
  rcases z with z | ⟨i',s',hi',g1,g2,g3⟩
  ·exact k.nz i s a hs h2 e z
  ·have:=k.inj i i' a s s' hs g1 h2 g2 e g3
   subst this
   exact hi' (List.mem_of_getElem? hk)
 inj:=fun j j' a s s' h1 h2 m1 m2 h3 h4=>by
  obtain ⟨q,i,rfl,hk,hs⟩:=kI h1 m1
  obtain ⟨q',i',rfl,hk',hs'⟩:=kI h2 m2
  have:=k.inj i i' a s s' hs hs' m1 m2 (dw hk h3) (dw hk' h4)
  subst this
  rw [p8 hn hk hk']
 at_:=fun j o s h1 h2=>by
  have hN:∀a,NM Z σ S a->NM (Zin Z ix σ S) (L2.capt n ix σ) (bA n ix S) a:=fun a x z=>x (i3.mp z)
  rcases vX h2 with rfl | ⟨q,i,rfl,hk,hs⟩
  ·trivial
  ·rw [fQ hk] at h1
   obtain ⟨o',e1,sl⟩:=k.ownAt hs
   rw [e1] at h1
   simp at h1
   subst h1
   cases s with
   | no=>trivial
   | val d=>obtain ⟨v,e,r⟩:=sl;exact ⟨v,e,r.mono (fun a x _=>⟨hN a x,rfl⟩) fun _ x=>x⟩
   | fre d=>obtain ⟨v,e,r⟩:=sl;exact ⟨v,e,r.mono (fun a x _=>⟨hN a x,rfl⟩) fun _ x=>x⟩
   | own ds=>obtain ⟨a,vs,e,e',e0,r⟩:=sl;exact ⟨a,vs,e,e',e0,r.mono (fun a x _=>⟨hN a x,rfl⟩) fun _ x=>x⟩
   | pen ad ns=>exact sl
   | odi ks ds=>obtain ⟨a,vs,e,e',e0,ek,r⟩:=sl;exact ⟨a,vs,e,e',e0,⟨ek.1,ek.2.mono (fun a x _=>⟨hN a x,rfl⟩) fun _ x=>x⟩,r.mono (fun a x _=>⟨hN a x,rfl⟩) fun _ x=>x⟩
   | obj k=>obtain ⟨a,e,e0,r⟩:=sl;exact ⟨a,e,e0,k.mono (fun a x _=>⟨hN a x,rfl⟩) rfl r⟩
theorem rF {i j:Nat} (h:ix.idxOf? i=some j):ix[j]?=some i:=by
 unfold List.idxOf? at h
 obtain ⟨h1,h2,_⟩:=List.findIdx?_eq_some_iff_getElem.mp h
 rw [List.getElem?_eq_getElem h1]
 simpa using h2
theorem rG {i:Nat} (h:ix.idxOf? i=none):i∉ix:=by
 unfold List.idxOf? at h
 intro hm
 have:=List.findIdx?_eq_none_iff.mp h i hm
 simp at this
theorem ml {i:Nat} {s:Sl} (h:S[i]?=some s):(backS n ix S T)[i]?=some (match ix.idxOf? i with | some j=>mj s ((T[n+j]?).getD .no) | none=>s):=by
 have:=vW (n:=n) (ix:=ix) (T:=T) 0 h
 rwa [Nat.zero_add] at this
theorem dB {i:Nat} {s':Sl} (h:(backS n ix S T)[i]?=some s') (m:s'.mut=true):∃s,S[i]?=some s/\s.mut=true/\((∃j,ix[j]?=some i/\T[n+j]?=some s')\/(i∉ix/\s=s')):=by
 have hl:i < S.length:=by
  have:=(List.getElem?_eq_some_iff.mp h).1
  rwa [show (backS n ix S T).length=S.length from iZ 0] at this
 have e:=ml (n:=n) (ix:=ix) (T:=T) (List.getElem?_eq_getElem hl)
 rw [h] at e
 have e:=Option.some.inj e
 refine ⟨_,List.getElem?_eq_getElem hl,?_⟩
 cases hx:ix.idxOf? i with
 | none=>
  rw [hx] at e
  have e:s'=S[i]:=e
  exact ⟨by rw [<- e];exact m,.inr ⟨rG hx,e.symm⟩⟩
 | some j=>
  rw [hx] at e
  simp only [mj] at e
  by_cases hm:(S[i]).mut=true
  ·rw [if_pos hm] at e
   refine ⟨hm,.inl ⟨j,rF hx,?_⟩⟩
   cases ht:T[n+j]? with
   | none=>rw [ht] at e;simp [Sl.mut] at e;subst e;cases m
   | some t=>
    rw [ht] at e
    simp only [Option.getD_some] at e
    by_cases htm:t.mut=true
    ·rw [if_pos htm] at e;rw [e]
    ·rw [if_neg htm] at e;subst e;cases m
  ·rw [if_neg hm] at e;subst e;exact (hm m).elim
theorem p9 {i:Nat} {s':Sl} (h:(backS n ix S T)[i]?=some s') (m:s'.mut=false):s'=.no\/S[i]?=some s':=by
 have hl:i < S.length:=by
  have:=(List.getElem?_eq_some_iff.mp h).1
  rwa [show (backS n ix S T).length=S.length from iZ 0] at this
 have e:=ml (n:=n) (ix:=ix) (T:=T) (List.getElem?_eq_getElem hl)
 rw [h] at e
 have e:=Option.some.inj e
 cases hx:ix.idxOf? i with
 | none=>rw [hx] at e;exact .inr (by rw [List.getElem?_eq_getElem hl,e])
 | some j=>
  rw [hx] at e
  simp only [mj] at e
  by_cases hm:(S[i]).mut=true
  ·rw [if_pos hm] at e
   by_cases htm:((T[n+j]?).getD .no).mut=true
   ·rw [if_pos htm] at e;rw [e,htm] at m;cases m
   ·rw [if_neg htm] at e;exact .inl e
  ·rw [if_neg hm] at e;exact .inr (by rw [List.getElem?_eq_getElem hl,e])
theorem OK.back (k:OK K H0 Z σ H S) (k':OK K H0 (Zin Z ix σ S) σ' H' T) (st:Step (Zin Z ix σ S) (L2.capt n ix σ) (bA n ix S) H σ' T H') (hσ:∀(i:Nat) (v:V),(L2.capt n ix σ)[i]?=some (some v)->σ'[i]?=some (some v)) :
  OK K H0 Z σ H' (backS n ix S T)/\Step Z σ S H σ (backS n ix S T) H'/\∀a,NM (Zin Z ix σ S) σ' T a->NM Z σ (backS n ix S T) a:=by
 have mo':∀a,Mo Z σ (backS n ix S T) a->Mo (Zin Z ix σ S) σ' T a:=fun a z=>by
  rcases z with ⟨i,s',h1,h2,h3⟩ | z
  ·obtain ⟨s,e,em,⟨j,hj,ht⟩ | ⟨hi,rfl⟩⟩:=dB h1 h2
   ·exact .inl ⟨n+j,s',ht,h2,hσ _ _ (by rw [fQ hj,h3];rfl)⟩
   ·exact .inr (.inr ⟨i,s,hi,e,em,h3⟩)
  ·exact .inr (.inl z)
 have nm':∀a,NM (Zin Z ix σ S) σ' T a->NM Z σ (backS n ix S T) a:=fun a x z=>x (mo' a z)
 have nm0:∀a,NM Z σ S a->NM (Zin Z ix σ S) (L2.capt n ix σ) (bA n ix S) a:=fun a x z=>x (i3.mp z)
 have old:∀a,NM Z σ S a->H a≠none->NM Z σ (backS n ix S T) a/\H' a=H a:=fun a x e=>⟨nm' a (st.1 a (nm0 a x) e).2,(st.1 a (nm0 a x) e).1⟩
 refine ⟨⟨by rw [show (backS n ix S T).length=S.length from iZ 0];exact k.len,fun i o s' h1 h2=>?_,fun i j a s t h1 h2 m1 m2 h3 h4=>?_,fun a e=>k'.dom a e,fun a z=>k'.zl a (.inl z),fun i s a h1 m h3 z=>?_⟩,⟨fun a x e=>⟨(old a x e).2,(old a x e).1⟩,st.2.1,fun a z e=>st.2.2 a (.inl z) e⟩,nm'⟩
 ·cases hm:s'.mut with
  | true=>
   obtain ⟨s,e,em,⟨j,hj,ht⟩ | ⟨hi,rfl⟩⟩:=dB h2 hm
   ·have eo:∃v,o=some v:=by
     obtain ⟨o',e1,q⟩:=k.ownAt e
     rw [h1] at e1;cases e1
     cases s with
     | no=>cases em
     | val d=>cases em
     | fre d=>cases em
     | own ds=>obtain ⟨a,_,e,_⟩:=q;exact ⟨_,e⟩
     | pen ad ns=>obtain ⟨a,e,_⟩:=q;exact ⟨_,e⟩
     | odi ks ds=>obtain ⟨a,_,e,_⟩:=q;exact ⟨_,e⟩
     | obj k=>obtain ⟨a,e,_⟩:=q;exact ⟨_,e⟩
    obtain ⟨v,rfl⟩:=eo
    have q:=k'.at_ (n+j) (some v) s' (hσ _ _ (by rw [fQ hj,h1];rfl)) ht
    cases s' with
    | no=>cases hm
    | val d=>cases hm
    | fre d=>cases hm
    | own ds=>obtain ⟨a,vs,e,e',e0,r⟩:=q;exact ⟨a,vs,e,e',e0,r.mono (fun a x _=>⟨nm' a x,rfl⟩) fun _ x=>x⟩
    | pen ad ns=>exact q
    | odi ks ds=>obtain ⟨a,vs,e,e',e0,ek,r⟩:=q;exact ⟨a,vs,e,e',e0,⟨ek.1,ek.2.mono (fun a x _=>⟨nm' a x,rfl⟩) fun _ x=>x⟩,r.mono (fun a x _=>⟨nm' a x,rfl⟩) fun _ x=>x⟩
    | obj k=>obtain ⟨a,e,e0,r⟩:=q;exact ⟨a,e,e0,k.mono (fun a x _=>⟨nm' a x,rfl⟩) rfl r⟩
   ·obtain ⟨o',e1,q⟩:=k.ownAt e
    rw [h1] at e1;cases e1
    have hz:∀a us,o=some (V.ref a)->H a=some us->H' a=H a:=fun a us eo ea=>st.2.2 a (.inr ⟨i,s,hi,e,em,by rw [h1,eo]⟩) (by simp [ea])
    cases s with
    | no=>cases hm
    | val d=>cases hm
    | fre d=>cases hm
    | own ds=>obtain ⟨a,vs,e,e',e0,r⟩:=q;exact ⟨a,vs,e,(hz a _ e e').trans e',e0,r.mono old fun _ x=>x⟩
    | pen ad ns=>obtain ⟨a,e,e1,e'⟩:=q;exact ⟨a,e,e1,(hz a _ e e').trans e'⟩
    | odi ks ds=>obtain ⟨a,vs,e,⟨ob,e'⟩,e0,ek,r⟩:=q;exact ⟨a,vs,e,⟨ob,(hz a _ e e').trans e'⟩,e0,⟨ek.1,ek.2.mono old fun _ x=>x⟩,r.mono old fun _ x=>x⟩
    | obj k=>obtain ⟨a,e,e0,r⟩:=q;exact ⟨a,e,e0,k.mono old (hz a _ e (Option.ne_none_iff_exists'.mp (k.ism r).ne).choose_spec) r⟩
  | false=>
   rcases p9 h2 hm with rfl | e
   ·trivial
   ·have q:=k.at_ i o s' h1 e
    cases s' with
    | no=>trivial
    | val d=>obtain ⟨v,e,r⟩:=q;exact ⟨v,e,r.mono old fun _ x=>x⟩
    | fre d=>obtain ⟨v,e,r⟩:=q;exact ⟨v,e,r.mono old fun _ x=>x⟩
    | own ds=>cases hm
    | pen ad ns=>cases hm
    | odi ks ds=>cases hm
    | obj k=>cases hm
 ·obtain ⟨s0,e0,em0,c1⟩:=dB h1 m1
  obtain ⟨t0,f0,fm0,c2⟩:=dB h2 m2
  exact k.inj i j a s0 t0 e0 f0 em0 fm0 h3 h4
 ·obtain ⟨s0,e0,em0,c1⟩:=dB h1 m
  exact k.nz i s0 a e0 em0 h3 z
end
section
variable {K:PySem.W.Frag} {X:Cx} {e a b c tg elt iter:Expr} {te:TE} {va:VT} {pos:Pos}
structure VTs (K:PySem.W.Frag) (X:Cx) (ifs:List Expr) (te:TT) (t:VTT):Prop where
 pe:PTs X ifs te
 snd:SndT K te t
noncomputable def yq:VTT:=fun S Q=>Q true S
theorem bZ:VTs K X [] yi yq:=⟨vN,fun _ _ _ _ _ _ _ k h q=>q _ _ _ k .refl h⟩
theorem eN {tA:TT} {wA:VTT} (h:VTe K X c tA wA):VTs K X [c] tA wA:=⟨vO h.pe,h.snd⟩
noncomputable def mm (vi:VTN) (n:Nat) (ix:List Nat) (vg:VG) (vt:VTT) (ve:VT):VTN:=fun S Q=>vi S fun ds S1=>ds.length<=1000000/\∃Iv:Nat->List D->List Sl->Prop,Iv 0 [] S1 /\
 (∀i d ys S2,ds[i]?=some d->Iv i ys S2->vg d (bA n ix S2) fun S3=>vt S3 fun b S4=>if b=true then ve S4 fun r S5=>∃x,r=.d x/\Iv (i+1) (ys++[x]) (backS n ix S2 S5) else Iv (i+1) ys (backS n ix S2 S4)) /\
 ∀ys S2,Iv ds.length ys S2->Q ys S2
theorem bN {ifs:List Expr} {scope:Scope} {tg cs:List Str} {target:Expr} {wi:TI} {vi:VTN} {g:TG} {vg:VG} {tc:TT} {vt:VTT} {te:TE} {ve:VT} (Sc:bB X scope tg cs ix) (hcalm:X.calm=true) (kg:cT tg.length ix g) (hnd:ix.Nodup)
  (hi:VI K X target iter wi vi) (hg:∀C fp s H,VGe K (aE X scope (tg++cs) C fp s H) target g vg) (hc:∀C fp s H,VTs K (aE X scope (tg++cs) C fp s H) ifs tc vt) (he:∀C fp s H,VE K (aE X scope (tg++cs) C fp s H) true elt te ve)
  (hs:∀x,foldedSetIterable iter X.env x=pure x:=by intro _;rfl):VN K X (.ListComp elt [⟨target,iter,ifs,0⟩] scope pos) (iT wi tg.length ix g tc te) (mm vi tg.length ix vg vt ve):=by
 have sg:SndG K g vg:=(hg 0 [] X.s₀ (fun _=>none)).snd
 have sc:SndT K tc vt:=(hc 0 [] X.s₀ (fun _=>none)).snd
 have se:SndE K true te ve:=(he 0 [] X.s₀ (fun _=>none)).snd
 refine ⟨oM Sc hcalm kg hi.pi (fun C fp s H=>(hg C fp s H).pg) (fun C fp s H=>(hc C fp s H).pe) (fun C fp s H=>(he C fp s H).pe) hs,fun H0 Z σ H S Q C k t hq=>?_⟩
 refine hi.snd H0 Z σ H S _ _ k t fun J ds H1 S1 k1 st1 gd zr1=>?_
 obtain ⟨hl,Iv,i0,hs,hd⟩:=zr1
 refine ⟨fun i m ys H=>m=ds.length-i/\i<=ds.length/\ys.length<=i/\∃S2 zs,OK K H0 Z σ H S2/\Step Z σ S1 H1 σ S2 H/\Reps K (NM Z σ S2) (Fr H0) H ys zs/\Iv i zs S2,⟨ds.length,by simp,Nat.zero_le _,Nat.le_refl _,S1,[],k1,.refl,.nil,i0⟩,?_⟩
 rintro i m ys H2 ⟨rfl,hi,hy,S2,zs,k2,st2,rz,p⟩
 obtain ⟨g1,g2,g3⟩:=gd σ S2 H2 (fun _=>k2.nm) st2.1 i
 have hsz:(1000000:Nat) < sizeLine:=by rw [sizeLine_eq];lia
 by_cases hlt:i < ds.length
 ·refine .inr ⟨g1 hlt,by lia,fun ys' H'=>ys'.length<=i+1/\∃S' zs',OK K H0 Z σ H' S'/\Step Z σ S1 H1 σ S' H'/\Reps K (NM Z σ S') (Fr H0) H' ys' zs'/\Iv (i+1) zs' S',fun ys' H' zt1=>by obtain ⟨p1,p2⟩:=zt1;exact ⟨ds.length-(i+1),by lia,rfl,hlt,p1,p2⟩,fun x H3 y=>?_⟩
  obtain ⟨hgr,d,hd',rd⟩:=g2 x H3 y hlt
  replace k2:=k2.grow hgr
  replace st2:=st2.trans (.grow hgr)
  replace rz:=rz.step (.grow hgr)
  have kc:=k2.capt (n:=tg.length) hnd
  have rd':Rep K (NM (Zin Z ix σ S2) (L2.capt tg.length ix σ) (bA tg.length ix S2)) AnyF H3 x d:=rd.mono (fun a n _=>⟨fun z=>n (i3.mp z),rfl⟩) fun _ x=>x
  -- the target leaves what the block took over
  have h1:=sg H0 _ _ H3 _ x d _ (fun σ4 H4=>∃S4,OK K H0 (Zin Z ix σ S2) σ4 H4 S4/\Step (Zin Z ix σ S2) (L2.capt tg.length ix σ) (bA tg.length ix S2) H3 σ4 S4 H4/\vt S4 fun b S5=>if b=true then ve S5 fun r S6=>∃x,r=.d x/\Iv (i+1) (zs++[x]) (backS tg.length ix S2 S6) else Iv (i+1) zs (backS tg.length ix S2 S5)) kc rd' (hs i d zs S2 hd' p) (fun σ4 H4 S4 k4 st4 q4=>⟨S4,k4,st4,q4⟩)
  have h2:=kg x σ H3 _ h1
  refine (hg 0 [] X.s₀ (fun _=>none)).mono _ _ _ _ _ ?_ h2
  rintro σ4 H4 ⟨⟨hl4,hσ4⟩,S4,k4,st4,q4⟩
  refine sc H0 _ σ4 H4 S4 _ _ k4 q4 fun bb H5 S5 k5 st5 q5=>?_
  cases bb with
  | false=>
   rw [if_neg Bool.false_ne_true] at q5 ⊢
   obtain ⟨kb,sb,nb⟩:=k2.back k5 (st4.trans st5) hσ4
   exact ⟨by lia,_,zs,kb,st2.trans sb,rz.step sb,q5⟩
  | true=>
   rw [if_pos rfl] at q5 ⊢
   refine se H0 _ σ4 H5 S5 _ _ k5 q5 fun vv H6 r S6 k6 st6 rr zr1=>?_
   obtain ⟨xx,er,q6⟩:=zr1
   subst er
   obtain ⟨kb,sb,nb⟩:=k2.back k6 ((st4.trans st5).trans st6) hσ4
   refine ⟨by simp;lia,_,zs++[xx],kb,st2.trans sb,Reps.append (rz.step sb) (.cons (Rep.mono (fun a n _=>⟨nb a n,rfl⟩) (fun _ x=>x rfl) rr) .nil),q6⟩
 ·have e:i=ds.length:=by lia
  refine .inl ⟨g3 e,by lia,fun l hp=>?_⟩
  exact hq l ys zs H2 _ S2 k2 (st1.trans st2) hp (aX hp) aH (bY hp (rz.mono (fun _ n _=>⟨n,rfl⟩) fun _ x _=>x)) (hd zs S2 (by rw [<- e];exact p))
theorem i4 {elt iter:Expr} {pos spos py:Pos} {yy:Str} {ii:Nat} {ifs:List Expr} {scope:Scope} {tg cs:List Str} {target:Expr} {wi:TI} {vi:VTN} {g:TG} {vg:VG} {tc:TT} {vt:VTT} {te:TE} {ve:VT} (hN0:X.N.Nodup) (hi0:X.N[ii]?=some yy) (hx0:Loc X.env.scope yy) (hf0:X.fn yy=true\/X.env.scope.names.lookup yy=some .local)
  (Sc:bB X scope tg cs ix) (hcalm:X.calm=true) (kg:cT tg.length ix g) (hnd:ix.Nodup)
  (hi:VI K X target iter wi vi) (hg:∀C fp s H,VGe K (aE X scope (tg++cs) C fp s H) target g vg) (hc:∀C fp s H,VTs K (aE X scope (tg++cs) C fp s H) ifs tc vt) (he:∀C fp s H,VE K (aE X scope (tg++cs) C fp s H) true elt te ve)
  (hsw:swapsWith (.ListComp elt [⟨target,iter,ifs,0⟩] scope pos) (some (.Name yy py)) spos.line X.env=pure true:=by rfl) (hs:∀x,foldedSetIterable iter X.env x=pure x:=by intro _;rfl):VS K X (.Assign [.Name yy py] (.ListComp elt [⟨target,iter,ifs,0⟩] scope pos) spos) (dI (iT wi tg.length ix g tc te) (bQ ii)) (nB (p7 (mm vi tg.length ix vg vt ve)) (vgN ii)):=by
 have h:=bN (pos:=pos) Sc hcalm kg hnd hi hg hc he hs
 refine ⟨lW hN0 hi0 hx0 Sc hcalm kg hi.pi (fun C fp s H=>(hg C fp s H).pg) (fun C fp s H=>(hc C fp s H).pe) (fun C fp s H=>(he C fp s H).pe) hf0 hsw hs,kH (aJ (m:=false) h).snd fun H0 Z σ H S v d Q C k r zt1 hc=>by obtain ⟨hi,q⟩:=zt1;exact hc _ _ _ (k.setVal hi r).1 (k.setVal hi r).2 q⟩
end
end VL
end
section
namespace VL
open PySem L2
section
variable {P:Program} {w:World} {K:PySem.W.Frag} {mg:Str->Option Value} {base:Heap}
noncomputable def slots (n:Nat) (ds:List D):List Sl:=ds.map .val++List.replicate (n-ds.length) .no
theorem i5 {N:List Str} {i:Nat} (h:vs[i]?=some v):(start N vs)[i]?=some (some v):=by
 unfold L2.start
 have hi:=(List.getElem?_eq_some_iff.mp h).1
 rw [List.getElem?_append_left (by simpa using hi)]
 simp [h]
theorem mn {n:Nat} {i:Nat} {s:Sl} (h:(slots n ds)[i]?=some s):s=.no\/∃d,s=.val d/\ds[i]?=some d:=by
 unfold slots at h
 by_cases hi:i < ds.length
 ·rw [List.getElem?_append_left (by simpa using hi)] at h
  simp [hi] at h
  subst h
  exact .inr ⟨_,rfl,by simp [hi]⟩
 ·rw [List.getElem?_append_right (by simpa using hi)] at h
  have:=List.mem_of_getElem? h
  exact .inl (List.eq_of_mem_replicate this)
theorem cH {n:Nat} {i:Nat} {s:Sl} (h:(slots n ds)[i]?=some s):s.mut=false:=by
 rcases mn h with rfl | ⟨d,rfl,_⟩ <;> rfl
theorem mq {N:List Str} (r:Reps K Any AnyF H vs ds):OK K H (fun _=>False) (start N vs) H (slots N.length ds) where
 len:=by simp [L2.start,slots,r.length]
 dom:=fun _ e=>e
 zl:=fun _ z=>z.elim
 nz:=fun i s a h m _=>by rw [cH h] at m;cases m
 inj:=fun i j a s t h1 h2 m1=>by rw [cH h1] at m1;cases m1
 at_:=fun i o s h1 h2=>by
  rcases mn h2 with rfl | ⟨d,rfl,e⟩
  ·trivial
  ·obtain ⟨v,e1,e2⟩:=r.getD e
   rw [i5 e1] at h1
   cases h1
   refine ⟨v,rfl,e2.mono (fun a _ _=>⟨?_,rfl⟩) fun _ x=>x⟩
   rintro (⟨j,s,g1,g2,_⟩ | z)
   ·rw [cH g1] at g2;cases g2
   ·exact z
theorem bz {x:Str} {st:Stmt} {N ps:List Str} {k:Nat} (S:Src K mg x st) (sc:aF N ps (ak st))
  (hb:∀(kV doc pm:Value) (an:Option Addr) (cdv ct:Value) (us:List Value),us.length=ps.length->bindArgs (PySem.W.fnOf x x (cC st) (bD st) (ak st) .none kV doc pm an cdv ct) ⟨us,[]⟩=pure (ps.zip us))
  (len:∀ds R,p ds R->ds.length=ps.length)
  (hbody:∀(f:Addr) (cdv:Value) (A:Around) (outer:List Env) (s:Shared) (H:Hp) (E:XK),bV k (A.deeper (PyProof.Rows.envOfC x (ak st) s.heap.objs.size f cdv)) ->
   ∃ts t,VSs K (hZ CX0 P w K mg base N x (ak st) f cdv A outer s H E).nox (bD st) ts t/\∀ds R,p ds R->t { nx:=fun _=>R .non,rt:=fun d _=>R d } (slots N.length ds)):Has P w K mg base (k+1) x ps (spP K p):=by
 refine S.has sc hb (fun vs H Q E zq1=>by obtain ⟨ds,R,r,h,_⟩:=zq1;rw [r.length];exact len ds R h) fun f cdv A outer s H vs Q E hr ⟨ds,R,r,h,fin⟩=>?_
 obtain ⟨ts,t,vs',q⟩:=hbody f cdv A outer s H E hr
 have k0:=mq (N:=N) r
 have st0:∀{σ' S' H'},Step (fun _=>False) (start N vs) (slots N.length ds) H σ' S' H'->∀a,H a≠none->H' a=H a:=fun st a e=>(st.1 a (by
  rintro (⟨j,s,g1,g2,_⟩ | z)
  ·rw [cH g1] at g2;cases g2
  ·exact z) e).1
 refine ⟨ts,vs'.ps,vs'.snd H _ _ H _ _ _ k0 (q ds R h) ⟨fun σ' H' S' k' st q=>fin .non .non H' q (st0 st) .non,fun σ' H' S' k' st q=>q.elim,fun σ' H' S' k' st q=>q.elim,fun v d σ' H' S' k' st rr q=>fin d v H' q (st0 st) (rr.mono (fun _ _ _=>⟨trivial,rfl⟩) fun _ x=>x)⟩⟩
noncomputable def dN (n:Nat) (a:Addr) (ns:List Int) (ds es:List D):List Sl:=ds.map .val++.pen (some a) ns::(es.map .val++List.replicate (n-(ds.length+1+es.length)) .no)
theorem jW {n:Nat} {a:Addr} {ds es:List D} {i:Nat} {s:Sl} (h:(dN n a ns ds es)[i]?=some s):s=.no\/(∃d,s=.val d/\(ds++.non::es)[i]?=some d/\i≠ds.length)\/(i=ds.length/\s=.pen (some a) ns):=by
 unfold dN at h
 by_cases hi:i < ds.length
 ·rw [List.getElem?_append_left (by simpa using hi)] at h
  simp [hi] at h
  subst h
  exact .inr (.inl ⟨_,rfl,by rw [List.getElem?_append_left hi];simp [hi],by lia⟩)
 ·by_cases hi2:i=ds.length
  ·subst hi2
   rw [List.getElem?_append_right (by simp)] at h
   simp at h
   exact .inr (.inr ⟨rfl,h.symm⟩)
  ·rw [List.getElem?_append_right (by simp;lia)] at h
   rw [List.length_map] at h
   obtain ⟨j,hj⟩:∃j,i-ds.length=j+1:=⟨i-ds.length-1,by lia⟩
   rw [hj,List.getElem?_cons_succ] at h
   by_cases hj2:j < es.length
   ·rw [List.getElem?_append_left (by simpa using hj2)] at h
    simp [hj2] at h
    subst h
    refine .inr (.inl ⟨_,rfl,?_,hi2⟩)
    rw [List.getElem?_append_right (by lia),hj,List.getElem?_cons_succ]
    simp [hj2]
   ·rw [List.getElem?_append_right (by simpa using hj2)] at h
    exact .inl (List.eq_of_mem_replicate (List.mem_of_getElem? h))
theorem mr {x:Str} {st:Stmt} {N ps:List Str} {k:Nat} (j:Nat) {p:List Int->List D->(D->List Int->Prop)->Prop} (S:Src K mg x st) (sc:aF N ps (ak st))
  (hb:∀(kV doc pm:Value) (an:Option Addr) (cdv ct:Value) (us:List Value),us.length=ps.length->bindArgs (PySem.W.fnOf x x (cC st) (bD st) (ak st) .none kV doc pm an cdv ct) ⟨us,[]⟩=pure (ps.zip us))
  (len:∀ns ds R,p ns ds R->ds.length+1=ps.length)
  (hbody:∀(f:Addr) (cdv:Value) (A:Around) (outer:List Env) (s:Shared) (H:Hp) (E:XK),bV k (A.deeper (PyProof.Rows.envOfC x (ak st) s.heap.objs.size f cdv)) ->
   ∃ts t,VSs K (hZ CX0 P w K mg base N x (ak st) f cdv A outer s H E).nox (bD st) ts t/\∀a ns ds es R,ds.length=j->p ns (ds++es) R->t { nx:=fun S'=>∃ns',S'[j]?=some (.pen (some a) ns')/\R .non ns',rt:=fun d S'=>∃ns',S'[j]?=some (.pen (some a) ns')/\R d ns' } (dN N.length a ns ds es)) :
  Has P w K mg base (k+1) x ps (spI K j p):=by
 refine S.has sc hb (fun vs H Q E zq1=>by
  obtain ⟨a,ws,us,ns,ds,es,R,e,hl,hp,r1,r2,h,_⟩:=zq1
  have:=len _ _ _ h
  rw [e,List.length_append,List.length_cons,r1.length,r2.length]
  rw [List.length_append] at this
  lia) fun f cdv A outer s H vs Q E hr zr1=>?_
 obtain ⟨a,ws,us,ns,ds,es,R,e,hl,hp,r1,r2,h,fin⟩:=zr1
 subst e
 obtain ⟨ts,t,vs',q⟩:=hbody f cdv A outer s H E hr
 have hdl:ds.length=j:=by rw [<- r1.length];exact hl
 subst hdl
 have hmut:∀{i:Nat} {s:Sl},(dN N.length a ns ds es)[i]?=some s->s.mut=true->i=ds.length/\s=.pen (some a) ns:=fun {i s} h m=>by
  rcases jW h with rfl | ⟨d,rfl,_⟩ | h
  ·cases m
  ·cases m
  ·exact h
 have hpen:(start N (ws++.ref a::us))[ds.length]?=some (some (V.ref a)):=i5 (by rw [<- hl];simp)
 have hmo:∀b,Mo (fun _=>False) (start N (ws++.ref a::us)) (dN N.length a ns ds es) b->b=a:=fun b z=>by
  rcases z with ⟨i,s,g1,g2,g3⟩ | z
  ·obtain ⟨rfl,_⟩:=hmut g1 g2
   rw [hpen] at g3;cases g3;rfl
  ·exact z.elim
 have hll:N.length-(ws.length+(us.length+1))=N.length-(ds.length+1+es.length):=by rw [r1.length,r2.length];lia
 have k0:OK K H (fun _=>False) (start N (ws++.ref a::us)) H (dN N.length a ns ds es):={
  len:=by simp [L2.start,dN,r1.length,r2.length];lia
  dom:=fun _ e=>e
  zl:=fun _ z=>z.elim
  nz:=fun _ _ _ _ _ _ z=>z
  inj:=fun i j a s t h1 h2 m1 m2 _ _=>by rw [(hmut h1 m1).1,(hmut h2 m2).1]
  at_:=fun i o s h1 h2=>by
   rcases jW h2 with rfl | ⟨d,rfl,e,hi⟩ | ⟨rfl,rfl⟩
   ·trivial
   ·have rr:∃v,(ws++.ref a::us)[i]?=some v/\Rep K (·≠a) AnyF H v d:=by
     by_cases hi2:i < ds.length
     ·rw [List.getElem?_append_left hi2] at e
      obtain ⟨v,e1,e2⟩:=r1.getD e
      exact ⟨v,by rw [List.getElem?_append_left (by rw [r1.length];exact hi2)];exact e1,e2⟩
     ·rw [List.getElem?_append_right (by lia)] at e
      obtain ⟨j,hj⟩:∃j,i-ds.length=j+1:=⟨i-ds.length-1,by lia⟩
      rw [hj,List.getElem?_cons_succ] at e
      obtain ⟨v,e1,e2⟩:=r2.getD e
      exact ⟨v,by rw [List.getElem?_append_right (by rw [r1.length];lia),r1.length,hj,List.getElem?_cons_succ];exact e1,e2⟩
    obtain ⟨v,e1,e2⟩:=rr
    rw [i5 e1] at h1
    cases h1
    exact ⟨v,rfl,e2.mono (fun b n _=>⟨fun z=>n (hmo b z),rfl⟩) fun _ x=>x⟩
   ·rw [hpen] at h1
    cases h1
    exact ⟨a,rfl,fun b z=>by cases z;rfl,hp⟩ }
 have st0:∀{σ' S' H'},Step (fun _=>False) (start N (ws++.ref a::us)) (dN N.length a ns ds es) H σ' S' H'->∀b,b≠a->H b≠none->H' b=H b:=fun st b n e=>(st.1 b (fun z=>n (hmo b z)) e).1
 have pn:∀{σ' S' H' ns'},OK K H (fun _=>False) σ' H' S'->S'[ds.length]?=some (.pen (some a) ns')->σ'[ds.length]?=some (some (V.ref a))/\H' a=some (.lst (ns'.map .int)):=fun k' e=>by
  obtain ⟨o,e1,b,rfl,e2,e3⟩:=k'.ownAt e
  obtain rfl:=e2 a rfl
  exact ⟨e1,e3⟩
 refine ⟨ts,vs'.ps,vs'.snd H _ _ H _ _ _ k0 (q a ns ds es R rfl h) ⟨fun σ' H' S' k' st zt1=>by obtain ⟨ns',e,q⟩:=zt1;exact fin .non ns' .non H' q (st0 st) (pn k' e).2 .non,fun σ' H' S' k' st q=>q.elim,fun σ' H' S' k' st q=>q.elim,fun v d σ' H' S' k' st rr ⟨ns',e,q⟩=>fin d ns' v H' q (st0 st) (pn k' e).2 (rr.mono (fun b n _=>⟨fun z=>?_,rfl⟩) fun _ x=>x)⟩⟩
 subst z
 exact n _ _ _ e (pn k' e).1
end
end VL
end
section
namespace VL
open PySem L2
mutual
noncomputable def pd:D->PyData
 | .int i=>.int i
 | .bl b=>.bool b
 | .non=>.none
 | .str x=>.str x
 | .ty _=>.none
 | .dic _ _=>.none
 | .exc _=>.none
 | .oth _=>.none
 | .dib _ _=>.none
 | .tup ds=>.tuple (pds ds)
 | .lst ds=>.list (pds ds)
noncomputable def pds:List D->List PyData
 | []=>[]
 | d::r=>pd d::pds r
end
mutual
noncomputable def noTy:D->Bool
 | .ty _=>false
 | .dic _ _=>false
 | .exc _=>false
 | .oth _=>false
 | .dib _ _=>false
 | .tup ds=>i6 ds
 | .lst ds=>i6 ds
 | _=>true
noncomputable def i6:List D->Bool
 | []=>true
 | d::r=>noTy d&&i6 r
end
section
variable {K:PySem.W.Frag} {X:Cx} {pins:List (Addr×Obj)} {σ:St} {H:Hp} {s:Shared} {N:AP} {F:FP}
mutual
theorem bC (I:Inv X pins σ H s) (hK:X.K=K) {v:V} {d:D} {u:Value}:Rep K N F H v d->noTy d=true->RelV v u->∃as,Reads s.heap u (pd d) as:=fun hh ee rr=>by
 cases hh with
 | int i=>have r:=rr;obtain ⟨t,rfl⟩:=r;exact ⟨_,.int i t⟩
 | bl b=>have r:=rr;cases r;exact ⟨_,.bool b⟩
 | non=>have r:=rr;cases r;exact ⟨_,.none⟩
 | str x=>have r:=rr;obtain ⟨t,rfl⟩:=r;exact ⟨_,.str x t⟩
 | ty x=>have e:=ee;cases e
 | dic n f h _ _ rs=>have e:=ee;simp [noTy] at e
 | exc n h _=>have e:=ee;simp [noTy] at e
 | oth h=>have e:=ee;simp [noTy] at e
 | dib n f h _ _ _ rs=>have e:=ee;simp [noTy] at e
 | tup n h rs=>
  have e:=ee
  have r:=rr
  cases r
  obtain ⟨its,rv,⟨o,ho,hc,n,hd⟩,_⟩:=I.tuple (xs:=_) (.inl h)
  obtain ⟨as,ra⟩:=cz I hK rs (by simpa [noTy] using e) rv
  exact ⟨as,.tuple ho hc hd (by simpa using ra)⟩
 | tupK h rs=>
  have e:=ee
  have r:=rr
  cases r
  obtain ⟨its,rv,⟨o,ho,hc,n,hd⟩,_⟩:=I.tuple (xs:=_) (by rw [hK];exact fL h)
  obtain ⟨as,ra⟩:=cz I hK rs (by simpa [noTy] using e) rv
  exact ⟨as,.tuple ho hc hd (by simpa using ra)⟩
 | lst n f h rs=>
  have e:=ee
  have r:=rr
  cases r
  obtain ⟨its,rv,pl,_⟩:=I.list (xs:=_) (.inl (.inl h))
  obtain ⟨o,ho,hc,n,hd⟩:=pl.isList
  obtain ⟨as,ra⟩:=cz I hK rs (by simpa [noTy] using e) rv
  exact ⟨_,.list ho hc hd (by simpa using ra)⟩
 | lstF n f h rs=>
  have e:=ee
  have r:=rr
  cases r
  obtain ⟨its,rv,pl,_⟩:=I.list (xs:=_) (.inl (.inr ⟨_,h⟩))
  obtain ⟨o,ho,hc,n,hd⟩:=pl.isList
  obtain ⟨as,ra⟩:=cz I hK rs (by simpa [noTy] using e) rv
  exact ⟨_,.list ho hc hd (by simpa using ra)⟩
 | lstK f h rs=>
  have e:=ee
  have r:=rr
  cases r
  obtain ⟨its,rv,pl,_⟩:=I.list (xs:=_) (by rw [hK];exact iV h)
  obtain ⟨o,ho,hc,n,hd⟩:=pl.isList
  obtain ⟨as,ra⟩:=cz I hK rs (by simpa [noTy] using e) rv
  exact ⟨_,.list ho hc hd (by simpa using ra)⟩
theorem cz (I:Inv X pins σ H s) (hK:X.K=K) {vs:List V} {ds:List D} {us:List Value}:Reps K N F H vs ds->i6 ds=true->Vals vs us->∃as,ReadsAll s.heap us (pds ds) as:=fun hh ee rr=>by
 cases hh with
 | nil=>have r:=rr;cases r;exact ⟨_,.nil⟩
 | cons h t=>
  have e:=ee
  have r:=rr
  simp only [i6,Bool.and_eq_true] at e
  cases r with
  | cons r1 r2=>
   obtain ⟨as,ra⟩:=bC I hK h e.1 r1
   obtain ⟨bs,rb⟩:=cz I hK t e.2 r2
   exact ⟨_,.cons ra rb⟩
end
end
structure Okd (d:D):Prop where
 ty:noTy d=true
 lay:(pd d).canLay0=true
 dep:(pd d).depth<=40
noncomputable def Al (K:PySem.W.Frag) (neg:Bool):R2:=fun x y H Q=>∃d1 d2,Rep K Any AnyF H x d1/\Rep K Any AnyF H y d2/\Okd d1/\Okd d2/\Q (.bl (if neg then !PyData.eqv (pd d1) (pd d2) else PyData.eqv (pd d1) (pd d2))) H
noncomputable def gH (neg:Bool):D->D->(D->Prop)->Prop:=fun d1 d2 q=>Okd d1/\Okd d2/\q (.bl (if neg then !PyData.eqv (pd d1) (pd d2) else PyData.eqv (pd d1) (pd d2)))
noncomputable def Am (K:PySem.W.Frag) (neg:Bool):R2:=fun x y H Q=>∃d ds,Rep K Any AnyF H x d/\(Rep K Any AnyF H y (.lst ds)\/Rep K Any AnyF H y (.tup ds))/\Okd d/\Okd (.lst ds)/\Q (.bl (if neg then !(pds ds).any (fun y=>PyData.eqv y (pd d)) else (pds ds).any (fun y=>PyData.eqv y (pd d)))) H
noncomputable def nE (neg:Bool):D->D->(D->Prop)->Prop:=fun d d2 q=>∃ds,(d2=.lst ds\/d2=.tup ds)/\Okd d/\Okd (.lst ds)/\q (.bl (if neg then !(pds ds).any (fun y=>PyData.eqv y (pd d)) else (pds ds).any (fun y=>PyData.eqv y (pd d))))
section
variable {K:PySem.W.Frag} {X:Cx}
theorem i7 (hK:X.K=K) (hu:X.A.units+64 < cLine):OpR X (compareOp .Eq) (Al K false):=by
 rintro pins s σ H x y v u Q I rx ry ⟨d1,d2,r1,r2,o1,o2,q⟩
 obtain ⟨as,ra⟩:=bC I hK r1 o1.ty rx
 obtain ⟨bs,rb⟩:=bC I hK r2 o2.ty ry
 exact SeqAt.compareEq_reads ra rb o1.lay o2.lay (by have:=o1.dep;lia) ⟨.bl _,H,I,rfl,q⟩
theorem nF (hK:X.K=K) (hu:X.A.units+64 < cLine):OpR X (compareOp .NotEq) (Al K true):=by
 rintro pins s σ H x y v u Q I rx ry ⟨d1,d2,r1,r2,o1,o2,q⟩
 obtain ⟨as,ra⟩:=bC I hK r1 o1.ty rx
 obtain ⟨bs,rb⟩:=bC I hK r2 o2.ty ry
 exact SeqAt.compareNe_reads ra rb o1.lay o2.lay (by have:=o1.dep;lia) ⟨.bl _,H,I,rfl,q⟩
theorem jX (o:Okd (.lst ds)):PyData.canLayAll0 (pds ds)=true/\PyData.depthAll (pds ds)<=40/\noTy (.tup ds)=true:=by
 refine ⟨by simpa [pd,PyData.canLay0] using o.lay,?_,by simpa [noTy] using o.ty⟩
 have:=o.dep
 simp only [pd,PyData.depth] at this
 lia
theorem rH (hK:X.K=K) (hu:X.A.units+64 < cLine):OpR X (compareOp .In) (Am K false):=by
 rintro pins s σ H x y v u Q I rx ry ⟨d,ds,r1,r2,o1,o2,q⟩
 obtain ⟨as,ra⟩:=bC I hK r1 o1.ty rx
 obtain ⟨h1,h2,h3⟩:=jX o2
 rcases r2 with r2 | r2
 ·obtain ⟨bs,rb⟩:=bC I hK r2 o2.ty ry
  exact SeqAt.in_list_reads (by simpa [pd] using rb) ra h1 o1.lay (by lia) ⟨.bl _,H,I,rfl,q⟩
 ·obtain ⟨bs,rb⟩:=bC I hK r2 h3 ry
  exact SeqAt.in_tuple_reads (by simpa [pd] using rb) ra h1 o1.lay (by lia) ⟨.bl _,H,I,rfl,q⟩
theorem jY (hK:X.K=K) (hu:X.A.units+64 < cLine):OpR X (compareOp .NotIn) (Am K true):=by
 rintro pins s σ H x y v u Q I rx ry ⟨d,ds,r1,r2,o1,o2,q⟩
 obtain ⟨as,ra⟩:=bC I hK r1 o1.ty rx
 obtain ⟨h1,h2,h3⟩:=jX o2
 rcases r2 with r2 | r2
 ·obtain ⟨bs,rb⟩:=bC I hK r2 o2.ty ry
  exact SeqAt.notIn_list_reads (by simpa [pd] using rb) ra h1 o1.lay (by lia) ⟨.bl _,H,I,rfl,q⟩
 ·obtain ⟨bs,rb⟩:=bC I hK r2 h3 ry
  exact SeqAt.notIn_tuple_reads (by simpa [pd] using rb) ra h1 o1.lay (by lia) ⟨.bl _,H,I,rfl,q⟩
theorem gX {neg:Bool}:dA K (Al K neg) (gH neg):=fun x y H d1 d2 q C r1 r2 zt1 hc=>by obtain ⟨o1,o2,h⟩:=zt1;exact ⟨d1,d2,r1,r2,o1,o2,hc _ _ h fun _ _=>.bl _⟩
theorem oP {neg:Bool}:dA K (Am K neg) (nE neg):=fun x y H d1 d2 q C r1 r2 zt1 hc=>by obtain ⟨ds,e,o1,o2,h⟩:=zt1;exact ⟨d1,ds,r1,e.imp (fun e=>by rw [<- e];exact r2) (fun e=>by rw [<- e];exact r2),o1,o2,hc _ _ h fun _ _=>.bl _⟩
end
theorem df {α:Type} (f:α->D):∀l:List α,pds (l.map f)=l.map fun x=>pd (f x)
 | []=>rfl
 | _::r=>by simp [pds,df f r]
theorem gI {α:Type} {f:α->D} (h:∀x,noTy (f x)=true):∀l:List α,i6 (l.map f)=true
 | []=>rfl
 | _::r=>by simp [i6,h,gI h r]
theorem i8 {α:Type} {f:α->PyData} (h:∀x,(f x).canLay0=true):∀l:List α,PyData.canLayAll0 (l.map f)=true
 | []=>rfl
 | _::r=>by simp [PyData.canLayAll0,h,i8 h r]
theorem i9 {α:Type} {f:α->PyData} {n:Nat} (h:∀x,(f x).depth<=n):∀l:List α,PyData.depthAll (l.map f)<=n
 | []=>by simp [PyData.depthAll]
 | x::r=>by simp only [List.map_cons,PyData.depthAll];exact Nat.max_le.mpr ⟨h x,i9 h r⟩
structure Enc {α:Type} (n:Nat) (f:α->D):Prop where
 ty:∀x,noTy (f x)=true
 lay:∀x,(pd (f x)).canLay0=true
 dep:∀x,(pd (f x)).depth<=n
 eq:∀x y,PyData.eqv (pd (f x)) (pd (f y))=true↔x=y
theorem fj {α:Type} {f:α->PyData} (h:∀x y,PyData.eqv (f x) (f y)=true↔x=y):∀l m:List α,PyData.eqvAll (l.map f) (m.map f)=true↔l=m
 | [],[]=>by simp [PyData.eqvAll]
 | [],_::_=>by simp [PyData.eqvAll]
 | _::_,[]=>by simp [PyData.eqvAll]
 | x::r,y::t=>by simp [PyData.eqvAll,h,fj h r t]
theorem eO:Enc 0 D.int:=⟨fun _=>rfl,fun _=>rfl,fun _=>Nat.le_refl _,fun x y=>by simp [pd,PyData.eqv]⟩
theorem An:Enc 0 D.bl:=⟨fun _=>rfl,fun _=>rfl,fun _=>Nat.le_refl _,fun x y=>by simp [pd,PyData.eqv]⟩
theorem Enc.tup {α:Type} {n:Nat} {f:α->D} (e:Enc n f):Enc (n+1) (fun l:List α=>D.tup (l.map f)) where
 ty:=fun l=>by simp only [noTy];exact gI e.ty l
 lay:=fun l=>by simp only [pd,PyData.canLay0,df];exact i8 e.lay l
 dep:=fun l=>by simp only [pd,PyData.depth,df];exact Nat.succ_le_succ (i9 e.dep l)
 eq:=fun l m=>by simp only [pd,PyData.eqv,df];exact fj e.eq l m
theorem Enc.lst {α:Type} {n:Nat} {f:α->D} (e:Enc n f):Enc (n+1) (fun l:List α=>D.lst (l.map f)) where
 ty:=fun l=>by simp only [noTy];exact gI e.ty l
 lay:=fun l=>by simp only [pd,PyData.canLay0,df];exact i8 e.lay l
 dep:=fun l=>by simp only [pd,PyData.depth,df];exact Nat.succ_le_succ (i9 e.dep l)
 eq:=fun l m=>by simp only [pd,PyData.eqv,df];exact fj e.eq l m
theorem cW:Enc 1 eT:=eO.tup
theorem cX:Enc 2 eL:=cW.lst
theorem Enc.okd {α:Type} {n:Nat} {f:α->D} (e:Enc n f) (hn:n<=40) (x:α):Okd (f x):=⟨e.ty x,e.lay x,Nat.le_trans (e.dep x) hn⟩
theorem Enc.eqv {α:Type} [DecidableEq α] {n:Nat} {f:α->D} (e:Enc n f) (x y:α):PyData.eqv (pd (f x)) (pd (f y))=decide (x=y):=by
 rw [Bool.eq_iff_iff,e.eq,decide_eq_true_iff]
theorem Enc.any {α:Type} [DecidableEq α] {n:Nat} {f:α->D} (e:Enc n f) (x:α) (l:List α):(pds (l.map f)).any (fun y=>PyData.eqv y (pd (f x)))=decide (x∈l):=by
 rw [df,List.any_map]
 induction l with
 | nil=>simp
 | cons a r ih=>
  rw [List.any_cons,ih]
  simp only [Function.comp,e.eqv]
  rw [Bool.eq_iff_iff]
  simp only [Bool.or_eq_true,decide_eq_true_eq,List.mem_cons]
  exact ⟨fun z=>z.elim (fun z=>.inl z.symm) .inr,fun z=>z.elim (fun z=>.inl z.symm) .inr⟩
theorem yr {α:Type} [DecidableEq α] {n:Nat} {f:α->D} (e:Enc n f) {x y:α} (h:q (.bl (decide (x=y)))) (hn:n<=40:=by decide):gH false (f x) (f y) q:=⟨e.okd hn x,e.okd hn y,by simpa [e.eqv] using h⟩
theorem yt {α:Type} [DecidableEq α] {n:Nat} {f:α->D} (e:Enc n f) {x y:α} (h:q (.bl (!decide (x=y)))) (hn:n<=40:=by decide):gH true (f x) (f y) q:=⟨e.okd hn x,e.okd hn y,by simpa [e.eqv] using h⟩
theorem mw {α:Type} [DecidableEq α] {n:Nat} {f:α->D} (e:Enc n f) {x:α} {l:List α} (h:q (.bl (!decide (x∈l)))) (hn:n+1<=40:=by decide):nE true (f x) (.lst (l.map f)) q:=⟨_,.inl rfl,e.okd (by lia) x,e.lst.okd hn l,by simpa only [e.any,if_true] using h⟩
end VL
namespace VL
open PySem L2
section
variable {K:PySem.W.Frag} {X:Cx}
theorem gY (hK:X.K=K):cQ X (.builtin "len") (fun xs H Q=>∃p ys,xs=[.ref p]/\(SqL K H p ys\/SqT K H p ys)/\Q (.int ys.length) H):=by subst hK;exact kz
theorem mx (hK:X.K=K):cQ X (.builtin "isinstance") (zW K):=by subst hK;exact qY
theorem cA:bootBuiltins "sorted"=some (.builtin "sorted"):=by decide +kernel
theorem rJ:bootBuiltins "max"=some (.builtin "max"):=by decide +kernel
theorem rK:bootBuiltins "min"=some (.builtin "min"):=by decide +kernel
end
end VL
end
section
namespace VL
open PySem L2
section
variable {S S1:List Sl} {Q:VR->List Sl->Prop} {QT:Bool->List Sl->Prop} {QN:List D->List Sl->Prop} {QA:List VR->List Sl->Prop} {W:bt} {va vb:VT} {vr:VTA} {vt vu:VTT} {vn:VTN} {s t:VTS} {g:VG}
noncomputable def CL (u:VTS) (W:bt):List Sl->Prop:=fun S'=>∃S'',Wk S' S''/\u W S''
theorem CM {u:VTS} (h:t ⟨CL u W,W.rt,W.bk,W.ct⟩ S):CA t u W S:=h
theorem Ao {u:VTS} (h:u W S):CL u W S:=⟨S,Wk.refl S,h⟩
noncomputable def CN (g:VG) (W:bt):VR->List Sl->Prop:=fun r S1=>∃d,r=.d d/\g d S1 W.nx
theorem CO (h:va S (CN g W)):nB va g W S:=h
theorem Ap (h:g d S W.nx):CN g W (.d d) S:=⟨d,rfl,h⟩
theorem EH {i:Nat} {q:List Sl->Prop} (e:Nat.ble (i+1) S.length=true) (h:q (S.set i (.val d))):vgN i d S q:=⟨Nat.le_of_ble_eq_true e,h⟩
theorem EI {n:Nat} {u:List D->List Sl->(List Sl->Prop)->Prop} {q:List Sl->Prop} (e:ds.length=n) (h:u ds S q):vgT n u (.tup ds) S q:=⟨ds,rfl,e,h⟩
theorem Aq {q:List Sl->Prop} (h:q S):yn [] S q:=⟨rfl,h⟩
theorem vZ {r:List D} {u:List D->List Sl->(List Sl->Prop)->Prop} {q:List Sl->Prop} (h:g d S fun S1=>u r S1 q):rA g u (d::r) S q:=⟨d,r,rfl,h⟩
noncomputable def yu (i:Nat) (W:bt):List D->List Sl->Prop:=fun ds S1=>i < S1.length/\W.nx (S1.set i (.own ds))
theorem Ar {i:Nat} (h:vn S (yu i W)):yo i vn W S:=h
theorem wa {i:Nat} (e:Nat.ble (i+1) S.length=true) (h:W.nx (S.set i (.own ds))):yu i W ds S:=⟨Nat.le_of_ble_eq_true e,h⟩
noncomputable def yv (i:Nat) (W:bt):List D->List Sl->Prop:=fun ds S1=>∃ns:List Int,ds=ns.map .int/\i < S1.length/\W.nx (S1.set i (.pen none ns))
theorem As {i:Nat} (h:vn S (yv i W)):yp i vn W S:=h
theorem oQ {i:Nat} (e:Nat.ble (i+1) S.length=true) (h:W.nx (S.set i (.pen none ns))):yv i W (ns.map .int) S:=⟨ns,rfl,Nat.le_of_ble_eq_true e,h⟩
noncomputable def CP (W:bt):VR->List Sl->Prop:=fun r S1=>∃d,retD S1 r=some d/\W.rt d S1
theorem CQ (h:va S (CP W)):CC va W S:=h
theorem Au (e:retD S r=some d) (h:W.rt d S):CP W r S:=⟨d,e,h⟩
noncomputable def kIf (t u:VTS) (W:bt):Bool->List Sl->Prop:=fun b S1=>if b=true then t W S1 else u W S1
theorem CS {u:VTS} (h:vt S (kIf t u W)):CD vt t u W S:=h
theorem yw {u:VTS} {b:Bool} (h1:b=true->t W S) (h2:b=false->u W S):kIf t u W b S:=by
 cases b with
 | true=>show (if true=true then _ else _);rw [if_pos rfl];exact h1 rfl
 | false=>show (if false=true then _ else _);rw [if_neg Bool.false_ne_true];exact h2 rfl
theorem rL {u:VTS} (h:t W S):kIf t u W true S:=by show (if true=true then _ else _);rw [if_pos rfl];exact h
theorem rM {u:VTS} (h:u W S):kIf t u W false S:=by show (if false=true then _ else _);rw [if_neg Bool.false_ne_true];exact h
theorem bE {u:VTS} {p:Prop} [Decidable p] (h1:p->t W S) (h2:¬p->u W S):kIf t u W (decide p) S:=yw (fun e=>h1 (of_decide_eq_true e)) (fun e=>h2 (of_decide_eq_false e))
theorem rN {u:VTS} {p:Prop} [Decidable p] (h1:¬p->t W S) (h2:p->u W S):kIf t u W (!decide p) S:=yw (fun e=>h1 (by simpa using e)) (fun e=>h2 (by simpa using e))
noncomputable def yx (W:bt):VR->List Sl->Prop:=fun _ S1=>W.nx S1
theorem Av (h:va S (yx W)):ym va W S:=h
theorem wb (h:W.nx S):yx W r S:=h
theorem Aw (h:W.nx S):yl W S:=h
theorem j_c (h:Q (.d d) S):vC d S Q:=h
theorem CT {i:Nat} (e:rdO i S[i]?=some r) (h:Q r S):lX i S Q:=⟨r,e,h⟩
noncomputable def rO (Q:VR->List Sl->Prop):VR->List Sl->Prop:=fun r S'=>(match r with | .d d=>flat d=true | .own _=>True)/\Q r S'
theorem Ax (h:va S (rO Q)):oN va S Q:=h
theorem cD (e:flat d=true) (h:Q (.d d) S):rO Q (.d d) S:=⟨e,h⟩
theorem rP {i:Nat} (h:Q (.own i) S):rO Q (.own i) S:=⟨trivial,h⟩
noncomputable def k2a (w:D->D->(D->Prop)->Prop) (vb:VT) (Q:VR->List Sl->Prop):VR->List Sl->Prop:=fun ra S1=>vb S1 fun rb S2=>∃d1 d2,get S2 ra=some d1/\get S2 rb=some d2/\w d1 d2 fun d=>Q (.d d) S2
noncomputable def k2b (w:D->D->(D->Prop)->Prop) (Q:VR->List Sl->Prop) (ra:VR):VR->List Sl->Prop:=fun rb S2=>∃d1 d2,get S2 ra=some d1/\get S2 rb=some d2/\w d1 d2 fun d=>Q (.d d) S2
theorem j_2 {w:D->D->(D->Prop)->Prop} (h:va S (k2a w vb Q)):v2 w va vb S Q:=h
theorem EJ {w:D->D->(D->Prop)->Prop} {ra:VR} (h:vb S (k2b w Q ra)):k2a w vb Q ra S:=h
theorem EK {w:D->D->(D->Prop)->Prop} {ra rb:VR} {d1 d2:D} (e1:get S ra=some d1) (e2:get S rb=some d2) (h:w d1 d2 fun d=>Q (.d d) S):k2b w Q ra rb S:=⟨d1,d2,e1,e2,h⟩
theorem CU {f:Int->Int->L2.V} {i j:Int} (h:q (ofV (f i j))):wI0 f (.int i) (.int j) q:=⟨i,j,rfl,rfl,h⟩
theorem CV {C:Int->Int->Prop} {f:Int->Int->L2.V} {i j:Int} (c:C i j) (h:q (ofV (f i j))):wI C f (.int i) (.int j) q:=⟨i,j,rfl,rfl,c,h⟩
theorem CW {neg:Bool} (h:q (.bl (if neg then !rh d else rh d))):Ab neg d .non q:=⟨rfl,h⟩
noncomputable def CY (vb:VT) (Q:VR->List Sl->Prop):VR->List Sl->Prop:=fun ra S1=>vb S1 fun rb S2=>∃ds i d,(get S2 ra=some (.lst ds)\/get S2 ra=some (.tup ds))/\get S2 rb=some (.int i)/\atI ds i=some d/\Q (.d d) S2
noncomputable def Ay (Q:VR->List Sl->Prop) (ra:VR):VR->List Sl->Prop:=fun rb S2=>∃ds i d,(get S2 ra=some (.lst ds)\/get S2 ra=some (.tup ds))/\get S2 rb=some (.int i)/\atI ds i=some d/\Q (.d d) S2
theorem EL (h:va S (CY vb Q)):vIx va vb S Q:=h
theorem CZ {ra:VR} (h:vb S (Ay Q ra)):CY vb Q ra S:=h
theorem bS {ra rb:VR} {i:Int} (e1:get S ra=some (.lst ds)) (e2:get S rb=some (.int i)) (e3:atI ds i=some d) (h:Q (.d d) S):Ay Q ra rb S:=⟨ds,i,d,.inl e1,e2,e3,h⟩
theorem yz {ra rb:VR} {i:Int} (e1:get S ra=some (.tup ds)) (e2:get S rb=some (.int i)) (e3:atI ds i=some d) (h:Q (.d d) S):Ay Q ra rb S:=⟨ds,i,d,.inr e1,e2,e3,h⟩
noncomputable def kUn (f:Int->L2.V) (Q:VR->List Sl->Prop):VR->List Sl->Prop:=fun r S1=>∃i,get S1 r=some (.int i)/\Q (.d (ofV (f i))) S1
theorem EM {f:Int->L2.V} (h:va S (kUn f Q)):vUn f va S Q:=h
theorem C1 {f:Int->L2.V} {i:Int} (e:get S r=some (.int i)) (h:Q (.d (ofV (f i))) S):kUn f Q r S:=⟨i,e,h⟩
noncomputable def rQ (QT:Bool->List Sl->Prop):VR->List Sl->Prop:=fun r S'=>∃k,r=.d (.bl k)/\QT k S'
theorem Az (h:va S (rQ QT)):fM va S QT:=h
theorem wd {k:Bool} (h:QT k S):rQ QT (.d (.bl k)) S:=⟨k,rfl,h⟩
noncomputable def qa (u:VTT) (QT:Bool->List Sl->Prop):Bool->List Sl->Prop:=fun c S1=>if c=true then u S1 QT else QT false S1
noncomputable def kOr (u:VTT) (QT:Bool->List Sl->Prop):Bool->List Sl->Prop:=fun c S1=>if c=true then QT true S1 else u S1 QT
noncomputable def C2 (QT:Bool->List Sl->Prop):Bool->List Sl->Prop:=fun c S1=>QT (!c) S1
theorem C3 (h:vt S (qa vu QT)):Cr vt vu S QT:=h
theorem EN (h:vt S (kOr vu QT)):vOr vt vu S QT:=h
theorem C4 (h:vt S (C2 QT)):Ac vt S QT:=h
theorem AA {b:Bool} (h:QT (!b) S):C2 QT b S:=h
theorem rR {b:Bool} (h1:b=true->vu S QT) (h2:b=false->QT false S):qa vu QT b S:=by
 cases b with
 | true=>show (if true=true then _ else _);rw [if_pos rfl];exact h1 rfl
 | false=>show (if false=true then _ else _);rw [if_neg Bool.false_ne_true];exact h2 rfl
theorem yA {b:Bool} (h1:b=true->QT true S) (h2:b=false->vu S QT):kOr vu QT b S:=by
 cases b with
 | true=>show (if true=true then _ else _);rw [if_pos rfl];exact h1 rfl
 | false=>show (if false=true then _ else _);rw [if_neg Bool.false_ne_true];exact h2 rfl
theorem rS (h:vu S QT):kOr vu QT false S:=yA (fun e=>nomatch e) fun _=>h
theorem rT (h:QT true S):kOr vu QT true S:=yA (fun _=>h) fun e=>nomatch e
theorem oR (h:vu S QT):qa vu QT true S:=rR (fun _=>h) fun e=>nomatch e
theorem oS (h:QT false S):qa vu QT false S:=rR (fun e=>nomatch e) fun _=>h
noncomputable def rV (vb:VT) (Q:VR->List Sl->Prop):VR->List Sl->Prop:=fun r S1=>∃c,r=.d (.bl c)/\if c=true then vb S1 Q else Q (.d (.bl false)) S1
noncomputable def AB (vb:VT) (Q:VR->List Sl->Prop):VR->List Sl->Prop:=fun r S1=>∃c,r=.d (.bl c)/\if c=true then Q (.d (.bl true)) S1 else vb S1 Q
theorem AC (h:va S (rV vb Q)):yj va vb S Q:=h
theorem C5 (h:va S (AB vb Q)):Cs va vb S Q:=h
theorem we {c:Bool} (h1:c=true->vb S Q) (h2:c=false->Q (.d (.bl false)) S):rV vb Q (.d (.bl c)) S:=⟨c,rfl,by
 cases c with
 | true=>rw [if_pos rfl];exact h1 rfl
 | false=>rw [if_neg Bool.false_ne_true];exact h2 rfl⟩
theorem AD {c:Bool} (h1:c=true->Q (.d (.bl true)) S) (h2:c=false->vb S Q):AB vb Q (.d (.bl c)) S:=⟨c,rfl,by
 cases c with
 | true=>rw [if_pos rfl];exact h1 rfl
 | false=>rw [if_neg Bool.false_ne_true];exact h2 rfl⟩
noncomputable def wg (va vb:VT) (Q:VR->List Sl->Prop):Bool->List Sl->Prop:=fun c S1=>if c=true then va S1 Q else vb S1 Q
theorem C6 (h:vt S (wg va vb Q)):vIf vt va vb S Q:=h
theorem nG {b:Bool} (h1:b=true->va S Q) (h2:b=false->vb S Q):wg va vb Q b S:=by
 cases b with
 | true=>show (if true=true then _ else _);rw [if_pos rfl];exact h1 rfl
 | false=>show (if false=true then _ else _);rw [if_neg Bool.false_ne_true];exact h2 rfl
theorem C7 (h:QA [] S):nA S QA:=h
noncomputable def rW (vr:VTA) (QA:List VR->List Sl->Prop):VR->List Sl->Prop:=fun r S1=>vr S1 fun rs S2=>QA (r::rs) S2
theorem AE (h:va S (rW vr QA)):e7 va vr S QA:=h
theorem wj (h:vr S fun rs S2=>QA (r::rs) S2):rW vr QA r S:=h
noncomputable def nh (Q:VR->List Sl->Prop):List VR->List Sl->Prop:=fun rs S1=>∃ds,allD rs=some ds/\ds.length<=1000/\Q (.d (.tup ds)) S1
theorem C8 (h:vr S (nh Q)):Cu vr S Q:=h
theorem AF (e:allD rs=some ds) (e2:Nat.ble ds.length 1000=true) (h:Q (.d (.tup ds)) S):nh Q rs S:=⟨ds,e,Nat.le_of_ble_eq_true e2,h⟩
noncomputable def C9 (QN:List D->List Sl->Prop):List VR->List Sl->Prop:=fun rs S1=>∃ds,allD rs=some ds/\ds.length<=1000/\QN ds S1
theorem Da (h:vr S (C9 QN)):Ae vr S QN:=h
theorem AG (e:allD rs=some ds) (e2:Nat.ble ds.length 1000=true) (h:QN ds S):C9 QN rs S:=⟨ds,e,Nat.le_of_ble_eq_true e2,h⟩
noncomputable def AH (Q:VR->List Sl->Prop):List D->List Sl->Prop:=fun ds S1=>Q (.d (.lst ds)) S1
theorem Dc (h:vn S (AH Q)):p7 vn S Q:=h
theorem AI (h:Q (.d (.lst ds)) S):AH Q ds S:=h
noncomputable def kCB (w:List D->(D->Prop)->Prop) (Q:VR->List Sl->Prop):List VR->List Sl->Prop:=fun rs S1=>∃ds,gets S1 rs=some ds/\w ds fun d=>Q (.d d) S1
theorem EO {w:List D->(D->Prop)->Prop} (h:vr S (kCB w Q)):vCB w vr S Q:=h
theorem Dd {w:List D->(D->Prop)->Prop} (e:gets S rs=some ds) (h:w ds fun d=>Q (.d d) S):kCB w Q rs S:=⟨ds,e,h⟩
theorem AJ {es:List D} (h:q (.int es.length)):Cw [.lst es] q:=⟨es,.inl rfl,h⟩
theorem ER (h:vr S (kCB p Q)):vFn p vr S Q:=h
noncomputable def De (p:List D->(D->Prop)->Prop) (QN:List D->List Sl->Prop):List VR->List Sl->Prop:=fun rs S1=>∃ds,gets S1 rs=some ds/\p ds fun d=>∃es,d=.lst es/\flats es=true/\QN es S1
theorem Df (h:vr S (De p QN)):Cy p vr S QN:=h
theorem AK (e:gets S rs=some ds) (h:p ds fun d=>∃es,d=.lst es/\flats es=true/\QN es S):De p QN rs S:=⟨ds,e,h⟩
noncomputable def Dg (j:Nat) (p:List Int->List D->(D->List Int->Prop)->Prop) (Q:VR->List Sl->Prop):List VR->List Sl->Prop:=fun rs S1=>∃i rs' ad ns ds,pick rs j=some (i,rs')/\S1[i]?=some (.pen ad ns)/\allD rs'=some ds/\p ns ds fun d ns'=>Q (.d d) (S1.set i (.pen ad ns'))
theorem Dh {j:Nat} {p:List Int->List D->(D->List Int->Prop)->Prop} (h:vr S (Dg j p Q)):vV j p vr S Q:=h
theorem AL {j:Nat} {p:List Int->List D->(D->List Int->Prop)->Prop} {rs rs':List VR} {i:Nat} {ad:Option Addr} (e1:pick rs j=some (i,rs')) (e2:S[i]?=some (.pen ad ns)) (e3:allD rs'=some ds) (h:p ns ds fun d ns'=>Q (.d d) (S.set i (.pen ad ns'))):Dg j p Q rs S:=⟨i,rs',ad,ns,ds,e1,e2,e3,h⟩
noncomputable def kJ (QN:List D->List Sl->Prop):List VR->List Sl->Prop:=fun rs S1=>∃r ds,rs=[r]/\(get S1 r=some (.lst ds)\/get S1 r=some (.tup ds))/\flats ds=true/\QN ds S1
theorem rX (h:vr S (kJ QN)):oO vr S QN:=h
theorem rY (e:get S r=some (.lst ds)) (f:flats ds=true) (h:QN ds S):kJ QN [r] S:=⟨r,ds,rfl,.inl e,f,h⟩
theorem d8 (e:get S r=some (.tup ds)) (f:flats ds=true) (h:QN ds S):kJ QN [r] S:=⟨r,ds,rfl,.inr e,f,h⟩
noncomputable def rZ (Q:VR->List Sl->Prop):List VR->List Sl->Prop:=fun rs S1=>∃r ds,rs=[r]/\(get S1 r=some (.lst ds)\/r=.d (.tup ds))/\flats ds=true/\Q (.d (.tup ds)) S1
theorem wm (h:vr S (rZ Q)):rn vr S Q:=h
theorem kK (e:get S r=some (.lst ds)) (f:flats ds=true) (h:Q (.d (.tup ds)) S):rZ Q [r] S:=⟨r,ds,rfl,.inl e,f,h⟩
noncomputable def Di (i:Nat) (Q:VR->List Sl->Prop):VR->List Sl->Prop:=fun r S1=>∃d ds,r=.d d/\S1[i]?=some (.own ds)/\ds.length<=1000000/\Q (.d .non) (S1.set i (.own (ds++[d])))
theorem Dj {i:Nat} (e:S[i]?=some (.own ds)) (h:va S (Di i Q)):Aj i va S Q:=⟨⟨ds,e⟩,h⟩
theorem AM {i:Nat} (e:S[i]?=some (.own ds)) (e2:ds.length<=1000000) (h:Q (.d .non) (S.set i (.own (ds++[d])))):Di i Q (.d d) S:=⟨d,ds,rfl,e,e2,h⟩
noncomputable def oT (i:Nat) (vi:VT) (W:bt):VR->List Sl->Prop:=fun r S1=>(∃s,S1[i]?=some s/\s.mut=true)/\vi S1 fun ri S2=>∃j,get S2 ri=some (.int j) /\
  ((∃ad ns k n,S2[i]?=some (.pen ad ns)/\ixN ns.length j=some k/\r=.d (.int n)/\W.nx (S2.set i (.pen ad (ns.set k n)))) \/
   (∃ds k d,S2[i]?=some (.own ds)/\ixN ds.length j=some k/\r=.d d/\W.nx (S2.set i (.own (ds.set k d)))))
noncomputable def oU (i:Nat) (W:bt) (r:VR):VR->List Sl->Prop:=fun ri S2=>∃j,get S2 ri=some (.int j) /\
  ((∃ad ns k n,S2[i]?=some (.pen ad ns)/\ixN ns.length j=some k/\r=.d (.int n)/\W.nx (S2.set i (.pen ad (ns.set k n)))) \/
   (∃ds k d,S2[i]?=some (.own ds)/\ixN ds.length j=some k/\r=.d d/\W.nx (S2.set i (.own (ds.set k d)))))
theorem wo {i:Nat} (h:va S (oT i vb W)):rC i va vb W S:=h
theorem sd {i:Nat} {s:Sl} (e:S[i]?=some s) (m:s.mut=true) (h:vb S (oU i W r)):oT i vb W r S:=⟨⟨s,e,m⟩,h⟩
theorem qb {i:Nat} {ri:VR} {j n:Int} {ad:Option Addr} {k:Nat} (e1:get S ri=some (.int j)) (e2:S[i]?=some (.pen ad ns)) (e3:ixN ns.length j=some k) (h:W.nx (S.set i (.pen ad (ns.set k n)))):oU i W (.d (.int n)) ri S:=⟨j,e1,.inl ⟨ad,ns,k,n,e2,e3,rfl,h⟩⟩
noncomputable def kFor (g:VG) (b:VTS) (W:bt):List D->List Sl->Prop:=fun ds S1=>runFor g b W ds S1\/∃Iv:Nat->List Sl->Prop,Iv 0 S1/\(∀i d S2,ds[i]?=some d->Iv i S2->g d S2 fun S3=>b { W with nx:=Iv (i+1),ct:=Iv (i+1),bk:=W.nx } S3)/\∀S2,Iv ds.length S2->W.nx S2
theorem Dk {b:VTS} (h:vn S (kFor g b W)):CK vn g b W S:=h
theorem dq {b:VTS} (Iv:Nat->List Sl->Prop) (h0:Iv 0 S) (h1:∀i d S2,ds[i]?=some d->Iv i S2->g d S2 fun S3=>b ⟨Iv (i+1),W.rt,W.nx,Iv (i+1)⟩ S3) (h2:∀S2,Iv ds.length S2->W.nx S2):kFor g b W ds S:=.inr ⟨Iv,h0,h1,h2⟩
theorem eP {b:VTS} {lo:Int} {n:Nat} (Iv:Nat->List Sl->Prop) (h0:Iv 0 S) (h1:∀i S2,i < n->Iv i S2->g (.int (lo+(i:Int))) S2 fun S3=>b ⟨Iv (i+1),W.rt,W.nx,Iv (i+1)⟩ S3) (h2:∀S2,Iv n S2->W.nx S2):kFor g b W (rg lo n) S:=
 .inr ⟨Iv,h0,fun i d S2 e p=>by
  have hi:i < n:=by have:=(List.getElem?_eq_some_iff.mp e).1;rwa [gF] at this
  rw [rD hi] at e
  cases e
  exact h1 i S2 hi p,fun S2 p=>h2 S2 (by rwa [gF] at p)⟩
noncomputable def Dl (QN:List D->List Sl->Prop):VR->List Sl->Prop:=fun r S1=>∃ds,r=.d (.lst ds)/\QN ds S1
theorem Dm (h:va S (Dl QN)):CH va S QN:=h
theorem AN (h:QN ds S):Dl QN (.d (.lst ds)) S:=⟨ds,rfl,h⟩
noncomputable def Do (QN:List D->List Sl->Prop):List VR->List Sl->Prop:=fun rs S1=>∃j:Int,rs=[.d (.int j)]/\-(2 ^ 62)<=j/\j < 2 ^ 62/\QN (rg 0 j.toNat) S1
noncomputable def Dp (QN:List D->List Sl->Prop):List VR->List Sl->Prop:=fun rs S1=>∃i j:Int,rs=[.d (.int i),.d (.int j)]/\(-(2 ^ 62)<=i/\i < 2 ^ 62/\-(2 ^ 62)<=j/\j < 2 ^ 62)/\QN (rg i (j-i).toNat) S1
theorem Dq (h:vr S (Do QN)):CI vr S QN:=h
theorem Dr (h:vr S (Dp QN)):CJ vr S QN:=h
theorem AO {j:Int} (h1:0<=j/\j < 1000000) (h:QN (rg 0 j.toNat) S):Do QN [.d (.int j)] S:=⟨j,rfl,by lia,by lia,h⟩
theorem AQ {i j:Int} (h1:-1000000<=i/\i < 1000000/\-1000000<=j/\j < 1000000) (h:QN (rg i (j-i).toNat) S):Dp QN [.d (.int i),.d (.int j)] S:=⟨i,j,rfl,⟨by lia,by lia,by lia,by lia⟩,h⟩
noncomputable def gZ (n:Nat) (ix:List Nat) (g:VG) (vt:VTT) (ve:VT) (QN:List D->List Sl->Prop):List D->List Sl->Prop:=fun ds S1=>ds.length<=1000000/\∃Iv:Nat->List D->List Sl->Prop,Iv 0 [] S1 /\
 (∀i d ys S2,ds[i]?=some d->Iv i ys S2->g d (bA n ix S2) fun S3=>vt S3 fun b S4=>if b=true then ve S4 fun r S5=>∃x,r=.d x/\Iv (i+1) (ys++[x]) (backS n ix S2 S5) else Iv (i+1) ys (backS n ix S2 S4)) /\
 ∀ys S2,Iv ds.length ys S2->QN ys S2
theorem AR {n:Nat} {ve:VT} (h:vn S (gZ n ix g vt ve QN)):mm vn n ix g vt ve S QN:=h
noncomputable def fq (ve:VT) (A:D->List Sl->Prop) (B:List Sl->Prop):Bool->List Sl->Prop:=fun b S4=>if b=true then ve S4 fun r S5=>∃x,r=.d x/\A x S5 else B S4
noncomputable def nH (A:D->List Sl->Prop):VR->List Sl->Prop:=fun r S5=>∃x,r=.d x/\A x S5
theorem wq {n:Nat} {ve:VT} (Iv:Nat->List D->List Sl->Prop) (hl:ds.length<=1000000) (h0:Iv 0 [] S)
  (h1:∀i d ys S2,ds[i]?=some d->Iv i ys S2->g d (bA n ix S2) fun S3=>vt S3 (fq ve (fun x S5=>Iv (i+1) (ys++[x]) (backS n ix S2 S5)) (fun S4=>Iv (i+1) ys (backS n ix S2 S4)))) (h2:∀ys S2,Iv ds.length ys S2->QN ys S2):gZ n ix g vt ve QN ds S:=⟨hl,Iv,h0,h1,h2⟩
theorem sf {n:Nat} {ve:VT} {lo:Int} {m:Nat} (Iv:Nat->List D->List Sl->Prop) (hl:m<=1000000) (h0:Iv 0 [] S)
  (h1:∀i ys S2,i < m->Iv i ys S2->g (.int (lo+(i:Int))) (bA n ix S2) fun S3=>vt S3 (fq ve (fun x S5=>Iv (i+1) (ys++[x]) (backS n ix S2 S5)) (fun S4=>Iv (i+1) ys (backS n ix S2 S4)))) (h2:∀ys S2,Iv m ys S2->QN ys S2):gZ n ix g vt ve QN (rg lo m) S:=
 ⟨by rw [gF];exact hl,Iv,h0,fun i d ys S2 e p=>by
  have hi:i < m:=by have:=(List.getElem?_eq_some_iff.mp e).1;rwa [gF] at this
  rw [rD hi] at e
  cases e
  exact h1 i ys S2 hi p,fun ys S2 p=>h2 ys S2 (by rwa [gF] at p)⟩
theorem AS (h:QT true S):yq S QT:=h
theorem fR {ve:VT} {A:D->List Sl->Prop} {B:List Sl->Prop} {b:Bool} (h1:b=true->ve S (nH A)) (h2:b=false->B S):fq ve A B b S:=by
 cases b with
 | true=>show (if true=true then _ else _);rw [if_pos rfl];exact h1 rfl
 | false=>show (if false=true then _ else _);rw [if_neg Bool.false_ne_true];exact h2 rfl
theorem qc {ve:VT} {A:D->List Sl->Prop} {B:List Sl->Prop} (h:ve S (nH A)):fq ve A B true S:=fR (fun _=>h) fun e=>nomatch e
theorem my {A:D->List Sl->Prop} {x:D} (h:A x S):nH A (.d x) S:=⟨x,rfl,h⟩
theorem Ds {i j:Int} (h:q (.bl (decide (i=j)))):wEq (.int i) (.int j) q:=⟨.int i,.int j,rfl,rfl,rfl,by simpa using h⟩
theorem Dt {i j:Int} (h:q (.bl (!decide (i=j)))):wNe (.int i) (.int j) q:=⟨.int i,.int j,rfl,rfl,rfl,by simpa using h⟩
theorem Du {c:String} {b:Bool} (hn:∀n,d≠.ty n) (e:pZ (tyD d) c=some b) (h:q (.bl b)) (hE:isE d=false:=by with_unfolding_all rfl):vS [d,.ty c] q:=⟨d,c,b,rfl,hn,hE,e,h⟩
end
end VL
end
section
namespace VL
open PySem L2
section
variable {K:PySem.W.Frag} {X:Cx} {m:Bool} {e a b c o:Expr} {ta tb tc te:TE} {va vb vc:VT} {pos:Pos}
theorem kL:∀{ps:List Addr} {nss:List (List Int)} {N:AP} {F:FP} {H:Hp},iR K (fun _=>none) ps nss->Reps K N F H (ps.map V.ref) (nss.map eT)
 | _,_,_,_,_,.nil=>.nil
 | _,_,_,_,_,.cons h t=>.cons (.tupK h Reps.ints) (kL t)
theorem si {v:Value} {a:Addr} {nss:List (List Int)} (e:kE K (.ref a) nss=true) {N:AP}:Rep K N F H (.ref a) (.tup (nss.map eT)):=by
 obtain ⟨x,rx,a',ps,rfl,h⟩:=oJ e
 cases rx
 obtain ⟨h1,h2⟩:=h fun _=>none
 exact .tupK h1 (kL h2)
end
section
variable {S:List Sl} {Q:VR->List Sl->Prop} {QT:Bool->List Sl->Prop} {W:bt} {va vb:VT} {vt vu:VTT} {t u:VTS} {b:Bool}
theorem Dv {neg:Bool} {d1 d2:D} (a1:noTy d1=true) (a2:(pd d1).canLay0=true) (a3:Nat.ble (pd d1).depth 40=true) (b1:noTy d2=true) (b2:(pd d2).canLay0=true) (b3:Nat.ble (pd d2).depth 40=true)
  (h:q (.bl (if neg then !PyData.eqv (pd d1) (pd d2) else PyData.eqv (pd d1) (pd d2)))):gH neg d1 d2 q:=⟨⟨a1,a2,Nat.le_of_ble_eq_true a3⟩,⟨b1,b2,Nat.le_of_ble_eq_true b3⟩,h⟩
theorem AT (e:b=true) (h:vu S QT):qa vu QT b S:=by subst e;exact oR h
theorem AU (e:b=false) (h:QT false S):qa vu QT b S:=by subst e;exact oS h
theorem Dw (e:b=true) (h:QT true S):kOr vu QT b S:=by subst e;exact rT h
theorem Dy (e:b=false) (h:vu S QT):kOr vu QT b S:=by subst e;exact rS h
theorem Dz (e:b=true) (h:t W S):kIf t u W b S:=by subst e;exact rL h
theorem DA (e:b=false) (h:u W S):kIf t u W b S:=by subst e;exact rM h
theorem ES (e:b=true) (h:va S Q):wg va vb Q b S:=by subst e;exact nG (fun _=>h) fun e=>nomatch e
theorem ET (e:b=false) (h:vb S Q):wg va vb Q b S:=by subst e;exact nG (fun e=>nomatch e) fun _=>h
theorem DB {c:Bool} (e:c=true) (h:vb S Q):rV vb Q (.d (.bl c)) S:=by subst e;exact we (fun _=>h) fun e=>nomatch e
theorem DC {c:Bool} (e:c=false) (h:vb S Q):AB vb Q (.d (.bl c)) S:=by subst e;exact AD (fun e=>nomatch e) fun _=>h
end
section
variable {α:Type} {S:List Sl} {QN:List D->List Sl->Prop} {g:VG} {vt:VTT} {ve:VT} {n:Nat} {ix:List Nat}
theorem aT {β:Type} {xs:List α} {en:α->β} {i:Nat} {d:β} (h:(xs.map en)[i]?=some d):∃x,xs[i]?=some x/\d=en x/\x∈xs/\xs.take (i+1)=xs.take i++[x]:=by
 rw [List.getElem?_map] at h
 obtain ⟨x,h1,h2⟩:=Option.map_eq_some_iff.mp h
 refine ⟨x,h1,h2.symm,List.mem_of_getElem? h1,?_⟩
 rw [List.take_add_one,h1]
 rfl
theorem dh {xs:List α} {en f:α->D} {p:α->Bool} (hl:xs.length<=1000000)
  (h:∀x∈xs,∀(A:D->List Sl->Prop) (B:List Sl->Prop),(∀S5,backS n ix S S5=S->p x=true->A (f x) S5)->(∀S5,backS n ix S S5=S->p x=false->B S5)->g (en x) (bA n ix S) fun S3=>vt S3 (fq ve A B))
  (h2:QN ((xs.filter p).map f) S):gZ n ix g vt ve QN (xs.map en) S:=by
 refine wq (fun i ys S'=>S'=S/\ys=((xs.take i).filter p).map f) (by simpa using hl) ⟨rfl,by simp⟩ ?_ ?_
 ·rintro i d ys S2 e ⟨rfl,rfl⟩
  obtain ⟨x,h1,rfl,hm,ht⟩:=aT e
  refine h x hm _ _ (fun S5 e5 hp=>⟨e5,?_⟩) (fun S5 e5 hp=>⟨e5,?_⟩)
  ·rw [ht,List.filter_append,List.map_append]
   simp [hp]
  ·rw [ht,List.filter_append,List.map_append]
   simp [hp]
 ·rintro ys S2 ⟨rfl,rfl⟩
  rw [List.length_map,List.take_length]
  exact h2
theorem comp_map {xs:List α} {en f:α->D} (hl:xs.length<=1000000)
  (h:∀x∈xs,∀(A:D->List Sl->Prop) (B:List Sl->Prop),(∀S5,backS n ix S S5=S->A (f x) S5)->g (en x) (bA n ix S) fun S3=>vt S3 (fq ve A B))
  (h2:QN (xs.map f) S):gZ n ix g vt ve QN (xs.map en) S:=by
 refine dh (p:=fun _=>true) hl (fun x hx A B hA _=>h x hx A B fun S5 e=>hA S5 e rfl) ?_
 rwa [List.filter_eq_self.mpr (by intros;rfl)]
end
theorem oV {p:Prop} [Decidable p] {t u:VTS} {W:bt} (P:List Sl->Prop) (fin:∀S',P S'->W.nx S') (h1:∀nx,(∀S',P S'->nx S')->p->t ⟨nx,W.rt,W.bk,W.ct⟩ S) (h2:∀nx,(∀S',P S'->nx S')->¬p->u ⟨nx,W.rt,W.bk,W.ct⟩ S):kIf t u W (decide p) S:=
 bE (fun h=>h1 W.nx fin h) fun h=>h2 W.nx fin h
section
variable {α:Type} [DecidableEq α] {n:Nat} {f:α->D} {x y:α} {l:List α} {q:D->Prop}
theorem yB (e:Enc n f) (hx:x∉l) (h:q (.bl true)) (hn:n+1<=40:=by decide):nE true (f x) (.lst (l.map f)) q:=mw e (by rw [decide_eq_false hx];exact h) hn
theorem yC (e:Enc n f) (hx:x∈l) (h:q (.bl false)) (hn:n+1<=40:=by decide):nE true (f x) (.lst (l.map f)) q:=mw e (by rw [decide_eq_true hx];exact h) hn
theorem mz (e:Enc n f) (hx:x=y) (h:q (.bl true)) (hn:n<=40:=by decide):gH false (f x) (f y) q:=yr e (by rw [decide_eq_true hx];exact h) hn
theorem sj (e:Enc n f) (hx:x≠y) (h:q (.bl false)) (hn:n<=40:=by decide):gH false (f x) (f y) q:=yr e (by rw [decide_eq_false hx];exact h) hn
theorem DD (e:Enc n f) (hx:x≠y) (h:q (.bl true)) (hn:n<=40:=by decide):gH true (f x) (f y) q:=yt e (by rw [decide_eq_false hx];exact h) hn
theorem sm (e:Enc n f) (hx:x=y) (h:q (.bl false)) (hn:n<=40:=by decide):gH true (f x) (f y) q:=yt e (by rw [decide_eq_true hx];exact h) hn
end
end VL
end
section
namespace VL
open PySem L2 PySem.SeqAt PySem.Spec PyProof.Rows
section
variable {X:Cx} {pins:List (Addr×Obj)} {σ:L2.St} {H:Hp} {s:Shared} {K:PySem.W.Frag}
noncomputable def su (K:PySem.W.Frag) (le:Int->Int->Prop):List V->Hp->VK->Prop:=fun xs H Q=>∃(l:Addr) (ns:List Int),xs=[.ref l]/\SqL K H l (ns.map V.int)/\ns≠[]/\∀M,M∈ns->(∀a∈ns,le M a)->Q (.int M) H
theorem sC (hK:X.K=K) (hc:X.calm=true):cQ X (.builtin "min") (su K (·<=·)):=by
 rintro pins s σ H xs us Q I r ⟨l,ns,e,hq,hne,q⟩
 subst e hK
 obtain ⟨u,rfl,rx⟩:=Vals.one r
 cases rx
 obtain ⟨vs,rv,pl,_⟩:=I.list hq
 obtain ⟨m,F⟩:=I.fr
 exact PySem.W.kso_min F lK pl.isList (by simpa using intsAre_of rv) (List.length_pos_iff.mpr hne) (I.ok.hd hc) fun h' M t tk F' N' h1 h2=>⟨.int M,H,I.led (t':=tk) F.ns F' N',⟨_,rfl⟩,q M h1 h2⟩
theorem sE (hK:X.K=K) (hc:X.calm=true):cQ X (.builtin "max") (su K fun M a=>a<=M):=by
 rintro pins s σ H xs us Q I r ⟨l,ns,e,hq,hne,q⟩
 subst e hK
 obtain ⟨u,rfl,rx⟩:=Vals.one r
 cases rx
 obtain ⟨vs,rv,pl,_⟩:=I.list hq
 obtain ⟨m,F⟩:=I.fr
 exact PySem.W.kso_max F lK pl.isList (by simpa using intsAre_of rv) (List.length_pos_iff.mpr hne) (I.ok.hd hc) fun h' M t tk F' N' h1 h2=>⟨.int M,H,I.led (t':=tk) F.ns F' N',⟨_,rfl⟩,q M h1 h2⟩
noncomputable def yD (le:Int->Int->Prop):List D->(D->Prop)->Prop:=fun ds q=>∃ns:List Int,ds=[.lst (ns.map .int)]/\ns≠[]/\∀M,M∈ns->(∀a∈ns,le M a)->q (.int M)
theorem kM {le:Int->Int->Prop}:iY K (su K le) (yD le):=by
 rintro xs H ds q C r ⟨ns,rfl,hne,h⟩ hc
 obtain ⟨v,rfl,rv⟩:=rep1 r
 obtain ⟨a,vs,rfl,hq,rr⟩:=rv.sqL
 cases Reps.toInts rr
 exact ⟨a,ns,rfl,hq,hne,fun M h1 h2=>hc _ _ (h M h1 h2) fun _ _=>.int _⟩
end
section
variable {K:PySem.W.Frag} {X:Cx} {m:Bool} {e a b:Expr} {ta tb te:TE} {va vb:VT} {tr:TA} {vr:VTA} {pos p:Pos}
noncomputable def DE (va:VT):VTT:=fun S Q=>va S fun r S1=>∃d b,get S1 r=some d/\tru d=some b/\Q b S1
theorem nI (hK:X.K=K) (h:VE K X false e te va) (he:∀whole,isTrue e X.env whole=(do let v <- whole;standAt e.pos;holding [v] (truthy v)):=by intro _;rfl):VTe K X e (fun σ H Q=>te σ H fun x H'=>∃k,TruV K x H' k/\Q k H') (DE va):=
 ⟨by subst hK;exact qR h.pe he,fun H0 Z σ H S Q C k t hc=>h.snd H0 Z σ H S _ _ k t fun v H1 r S1 k1 st1 rr zq1=>by
  obtain ⟨d,b,e1,e2,q⟩:=zq1
  refine ⟨b,?_,hc b H1 S1 k1 st1 q⟩
  have r1:=rr.get k1 e1
  cases d with
  | int i=>cases r1;cases e2;rfl
  | bl i=>cases r1;cases e2;rfl
  | non=>cases r1;cases e2;rfl
  | str i=>cases e2
  | ty i=>cases e2
  | dic ks i=>cases e2
  | exc i=>cases e2
  | oth i=>cases e2
  | dib i j=>cases e2
  | tup ds=>obtain ⟨a,vs,rfl,hq,rr'⟩:=r1.sqT;cases e2;exact .inr (.inl ⟨vs,hq,by cases rr' <;> rfl⟩)
  | lst ds=>obtain ⟨a,vs,rfl,hq,rr'⟩:=r1.sqL;cases e2;exact .inl ⟨vs,hq,by cases rr' <;> rfl⟩⟩
noncomputable def AV (i j:Nat) (vr:VTA):VTS:=fun W S=>vr S fun rs S1=>∃d1 d2,rs=[.d d1,.d d2]/\i < S1.length/\j < S1.length/\W.nx ((S1.set i (.val d1)).set j (.val d2))
theorem AW {i j:Nat} {stm:Stmt} (hp:PS X stm (qN i j tr)) (ha:zZ K false tr vr):VS K X stm (qN i j tr) (AV i j vr):=⟨hp,fun H0 Z σ H S W E k t l=>ha H0 Z σ H S _ _ k t fun vs H1 rs S1 k1 st1 rrs zq1=>by
 obtain ⟨d1,d2,e,hi,hj,q⟩:=zq1
 subst e
 cases rrs with
 | cons r1 t1=>
  cases t1 with
  | cons r2 t2=>
   cases t2
   have r1:Rep K (NM Z σ S1) AnyF H1 _ d1:=Rep.mono (fun _ n _=>⟨n,rfl⟩) (fun _ _=>trivial) r1
   have r2:Rep K (NM Z σ S1) AnyF H1 _ d2:=Rep.mono (fun _ n _=>⟨n,rfl⟩) (fun _ _=>trivial) r2
   obtain ⟨k2,st2⟩:=k1.setVal hi r1
   obtain ⟨k3,st3⟩:=k2.setVal (i:=j) (by simpa using hj) (r2.step st2)
   exact ⟨_,_,rfl,l.nx _ _ _ k3 ((st1.trans st2).trans st3) q⟩⟩
noncomputable def DF (i:Nat) (t:VTN):VTN:=fun S Q=>(∃ds,S[i]?=some (.own ds))/\t S fun es S1=>∃ds,S1[i]?=some (.own ds)/\ds.length+es.length<=1000000/\Q (ds++es) S1
theorem sF {t:VTN} (i:Nat) (ho:PE X a (cG i)) (h:VN K X b tb t):VN K X (.BinOp a .Add b pos) (tOp zU (cG i) tb) (DF i t):=⟨ow qU ho h.pe,fun H0 Z σ H S Q C k zq1 hc=>by
 obtain ⟨⟨ds0,e0⟩,t⟩:=zq1
 obtain ⟨o,g1,c,us,rfl,g2,g3,g4⟩:=k.ownAt e0
 refine ⟨.ref c,g1,h.snd H0 Z σ H S _ _ k t fun a' vs es H1 H' S1 k1 st1 ha hg hl rr zr1=>?_⟩
 obtain ⟨ds,e1,hlen,q⟩:=zr1
 obtain ⟨o',g1',c',us',rfl,g2',g3',g4'⟩:=k1.ownAt e1
 rw [g1] at g1';cases g1'
 have k2:=k1.grow hg
 have g2'':H' c=some (.lst us'):=by rw [hg c (by simp [g2'])];exact g2'
 refine ⟨c,a',us',vs,rfl,rfl,g2'',hl,by rw [g4'.length,rr.length,sizeLine_eq];lia,fun p hp=>?_⟩
 refine hc p _ _ H' _ S1 k2 (st1.trans (.grow hg)) hp (aX hp) aH (Reps.append ?_ ?_) q
 ·exact bY hp ((g4'.mono (fun b n e=>⟨n,hg b e⟩) fun _ x=>x).mono (fun _ n _=>⟨n,rfl⟩) fun _ x _=>x)
 ·exact bY hp (rr.mono (fun _ n _=>⟨n.1,rfl⟩) fun _ x _=>x)⟩
end
end VL
end
section
namespace VL
open PySem L2
theorem wt {X:Cx} {i j:Nat} {stm:Stmt} {a b:Expr} {tr:TA} {vr:VTA} (hp:∀tr,PA X [a,b] tr->PS X stm (qN i j tr)) (ha:VA K X false [a,b] tr vr):VS K X stm (qN i j tr) (AV i j vr):=AW (hp _ ha.pe) ha.snd
section
variable {S:List Sl} {Q:VR->List Sl->Prop} {QT:Bool->List Sl->Prop} {QN:List D->List Sl->Prop} {W:bt} {va vb:VT} {vr:VTA} {vn:VTN} {vl vh:VO}
@[irreducible] noncomputable def wu (i:Nat) (QN:List D->List Sl->Prop):List D->List Sl->Prop:=fun es S1=>∃ds,S1[i]?=some (.own ds)/\ds.length+es.length<=1000000/\QN (ds++es) S1
theorem DG {i:Nat} (e:S[i]?=some (.own ds)) (h:vn S (wu i QN)):DF i vn S QN:=by unfold wu at h;exact ⟨⟨ds,e⟩,h⟩
theorem nJ {i:Nat} {es ds:List D} (e:S[i]?=some (.own ds)) (hl:ds.length+es.length<=1000000) (h:QN (ds++es) S):wu i QN es S:=by unfold wu;exact ⟨ds,e,hl,h⟩
@[irreducible] noncomputable def wy (QT:Bool->List Sl->Prop):VR->List Sl->Prop:=fun r S1=>∃d b,get S1 r=some d/\tru d=some b/\QT b S1
theorem DH (h:va S (wy QT)):DE va S QT:=by unfold wy at h;exact h
theorem gJ {b:Bool} (e:get S r=some d) (e2:tru d=some b) (h:QT b S):wy QT r S:=by unfold wy;exact ⟨d,b,e,e2,h⟩
@[irreducible] noncomputable def wz (i j:Nat) (W:bt):List VR->List Sl->Prop:=fun rs S1=>∃d1 d2,rs=[.d d1,.d d2]/\i < S1.length/\j < S1.length/\W.nx ((S1.set i (.val d1)).set j (.val d2))
theorem DI {i j:Nat} (h:vr S (wz i j W)):AV i j vr W S:=by unfold wz at h;exact h
theorem AX {i j:Nat} {d1 d2:D} (h1:i < S.length) (h2:j < S.length) (h:W.nx ((S.set i (.val d1)).set j (.val d2))):wz i j W [.d d1,.d d2] S:=by unfold wz;exact ⟨d1,d2,rfl,h1,h2,h⟩
variable {QO:Option Int->List Sl->Prop}
theorem kO {le:Int->Int->Prop} (hne:ns≠[]) (h:∀M,M∈ns->(∀a∈ns,le M a)->q (.int M)):yD le [.lst (ns.map .int)] q:=⟨ns,rfl,hne,h⟩
end
noncomputable def mnI:List Int->Int
 | []=>0
 | [a]=>a
 | a::r=>min a (mnI r)
theorem nK:∀{ns:List Int} {a:Int},a∈ns->mnI ns<=a
 | [b],a,h=>by simp at h;subst h;exact Int.le_refl _
 | b::c::r,a,h=>by
  rw [mnI]
  ·rcases List.mem_cons.mp h with rfl | h
   ·exact Int.min_le_left ..
   ·exact Int.le_trans (Int.min_le_right ..) (nK h)
  ·simp
theorem kP:∀{ns:List Int},ns≠[]->mnI ns∈ns
 | [b],_=>by simp [mnI]
 | b::c::r,_=>by
  rw [show mnI (b::c::r)=min b (mnI (c::r)) from rfl]
  have:=kP (ns:=c::r) (by simp)
  rcases Int.le_total b (mnI (c::r)) with h | h
  ·rw [Int.min_eq_left h];simp
  ·rw [Int.min_eq_right h];exact List.mem_cons_of_mem _ this
theorem kQ {M:Int} (h:M∈ns) (h2:∀a∈ns,M<=a):M=mnI ns:=
 Int.le_antisymm (h2 _ (kP (List.ne_nil_of_mem h))) (nK h)
end VL
end
section
namespace VL
open PySem L2
section
variable {K:PySem.W.Frag} {X:Cx} {m:Bool} {e o:Expr} {te:TE} {vb:VT} {pos:Pos}
noncomputable def DJ (rows:List (Int×List (List Int))) (vb:VT):VT:=fun S Q=>vb S fun rb S1=>∃k nss,get S1 rb=some (.int k)/\(k,nss)∈rows/\Q (.d (.tup (nss.map eT))) S1
theorem AY {a:Addr} {rows:List (Int×List (List Int))} (hK:X.K=K) (hd:okD K a rows=true) (ho:PE X o (tC (.ref a))) (h:VE K X false e te vb) (hs:dJ e):VE K X m (.Subscript o e pos) (tOp (Cm K rows) (tC (.ref a)) te) (DJ rows vb):=
 ⟨by subst hK;exact oF vM ho h.pe hs,fun H0 Z σ H S Q C k t hc=>h.snd H0 Z σ H S _ _ k t fun v H1 r S1 k1 st1 rr zq1=>by
  obtain ⟨i,nss,e1,hi,q⟩:=zq1
  cases rr.get k1 e1
  refine ⟨a,i,nss,rfl,rfl,hd,hi,fun v tt=>?_⟩
  obtain ⟨a',ps,rfl,h⟩:=tt
  obtain ⟨h1,h2⟩:=h fun _=>none
  exact hc _ H1 (.d (.tup (nss.map eT))) S1 k1 st1 (show Rep K _ _ H1 (.ref a') (.tup (nss.map eT)) from .tupK h1 (kL h2)) q⟩
end
section
variable {S:List Sl} {Q:VR->List Sl->Prop} {vb:VT}
@[irreducible] noncomputable def wC (rows:List (Int×List (List Int))) (Q:VR->List Sl->Prop):VR->List Sl->Prop:=fun rb S1=>∃k nss,get S1 rb=some (.int k)/\(k,nss)∈rows/\Q (.d (.tup (nss.map eT))) S1
theorem DK {rows:List (Int×List (List Int))} (h:vb S (wC rows Q)):DJ rows vb S Q:=by unfold wC at h;exact h
theorem AZ {rows:List (Int×List (List Int))} {k:Int} {nss:List (List Int)} (e:get S r=some (.int k)) (hm:(k,nss)∈rows) (h:Q (.d (.tup (nss.map eT))) S):wC rows Q r S:=by unfold wC;exact ⟨k,nss,e,hm,h⟩
end
end VL
end
section
namespace KT
open PySem PySem.Spec L2 SeqAt PySem.W
noncomputable def isNum:Int->Value->Bool
 | k,.int j _=>decide (j=k)
 | k,.bool b=>decide ((if b then (1:Int) else 0)=k)
 | _,_=>false
theorem bL {k:Int} {v:Value} (h:isNum k v=true):(∃t,v=.int k t)\/∃b,v=.bool b/\(if b then (1:Int) else 0)=k:=by
 cases v <;> simp [isNum] at h
 ·exact .inr ⟨_,rfl,h⟩
 ·exact .inl ⟨_,by rw [h]⟩
section
variable {prog:Program} {w:World}
theorem qf {A:Around} {E:Value->Shared->Prop} {s:Shared} {b:Bool} {Q:Int->Shared->Prop} (h:Q (hashInt (if b then (1:Int) else 0)) { s with toks:=s.toks+1 }):wpAny (model prog w) A (pyHash (.bool b)) Q E s:=by
 refine pyHash_slot (T:="bool") rfl F.slot_bool_hash entry_int_hash (args_int_hash _) (beq_builtin_none _) (.inl rfl) ?_
 cases b
 ·exact (show wpAny _ _ (do ret (<- mkInt 0)) _ _ s from wpAny_bind (wpAny_mkInt (wpAny_pure ⟨_,_,rfl,h⟩)))
 ·exact (show wpAny _ _ (do ret (<- mkInt 1)) _ _ s from wpAny_bind (wpAny_mkInt (wpAny_pure ⟨_,_,rfl,h⟩)))
noncomputable def numKind (prog:Program) (w:World):KeyKind prog w Int where
 is:=isNum
 hash:=hashInt
 inj:=fun v a b x y=>by
  rcases bL x with ⟨t,rfl⟩ | ⟨c,rfl,rfl⟩
  ·rcases bL y with ⟨u,e⟩ | ⟨d,e,_⟩ <;> cases e;rfl
  ·rcases bL y with ⟨u,e⟩ | ⟨d,e,rfl⟩ <;> cases e;rfl
 byValue:=fun k v h=>by rcases bL h with ⟨t,rfl⟩ | ⟨c,rfl,_⟩ <;> rfl
 pyHash:=fun hv h=>by
  rcases bL hv with ⟨t,rfl⟩ | ⟨c,rfl,rfl⟩
  ·exact wpAny_pyHash_int h
  ·exact qf h
 eqBool:=fun {A E s a b u v Q} hu hv h=>by
  have z:∀c d:Int,decide (c=d)=(c==d):=fun c d=>by rw [Bool.eq_iff_iff];simp
  rw [z] at h
  rcases bL hu with ⟨t,rfl⟩ | ⟨c,rfl,rfl⟩ <;> rcases bL hv with ⟨r,rfl⟩ | ⟨d,rfl,rfl⟩
  ·exact wpAny_eqBool_int h
  ·exact EqAt.int_bool _ _ _ prog w E Q h
  ·exact EqAt.bool_int _ _ _ prog w E Q h
  ·refine EqAt.bool_bool _ _ prog w E Q ?_
   have e:(c==d)=((if c then (1:Int) else 0)==(if d then 1 else 0)):=by cases c <;> cases d <;> rfl
   rw [e];exact h
 «strs»:=fun k x t v h=>by simp [isNum] at h
end
end KT
end
section
namespace L2
open PySem PySem.Spec PyProof.Rows
theorem ja {P:Program} {w:World}:∀{ms:List Int} {us:List Value},Vals (ms.map V.int) us->ItemsAre (intKind P w) ms us
 | [],_,r=>by rw [List.map_nil] at r;cases r;exact .nil
 | m::ms,_,r=>by
  rw [List.map_cons] at r
  cases r with
  | cons h t=>obtain ⟨tk,rfl⟩:=h;exact .cons (intKind_is _ _ _ _) (ja t)
section
variable {X:Cx} {pins:List (Addr×Obj)} {σ:St} {H:Hp} {s:Shared}
theorem A0 {b:Addr} (I:Inv X pins σ H s) (h:SqT X.K H b (ms.map V.int)):(tupleKind (intKind X.prog X.w)).is s.heap ms b:=by
 obtain ⟨its,r,⟨o,h1,h2,n,h3⟩,_⟩:=I.tuple h
 exact ⟨o,its.toArray,n,h1,h2,h3,by simpa using ja r⟩
inductive NumV:List Int->List V->Prop where
 | nil:NumV [] []
 | int (i:Int) {ms:List Int} {vs:List V} (t:NumV ms vs):NumV (i::ms) (.int i::vs)
 | bl (b:Bool) {ms:List Int} {vs:List V} (t:NumV ms vs):NumV ((if b then (1:Int) else 0)::ms) (.bl b::vs)
theorem NumV.ints:∀ms:List Int,NumV ms (ms.map V.int)
 | []=>.nil
 | i::r=>.int i (NumV.ints r)
noncomputable def SqN (K:PySem.W.Frag) (H:Hp) (b:Addr) (ms:List Int):Prop:=∃vs,SqT K H b vs/\NumV ms vs
theorem SqN.of {b:Addr} (h:SqT K H b (ms.map V.int)):SqN K H b ms:=⟨_,h,NumV.ints ms⟩
theorem ft {P:Program} {w:World}:∀{ms:List Int} {vs:List V} {us:List Value},NumV ms vs->Vals vs us->ItemsAre (KT.numKind P w) ms us
 | _,_,_,.nil,r=>by cases r;exact .nil
 | _,_,_,.int i t,r=>by
  cases r with
  | cons h u=>obtain ⟨tk,rfl⟩:=h;exact .cons (by simp [KT.numKind,KT.isNum]) (ft t u)
 | _,_,_,.bl b t,r=>by
  cases r with
  | cons h u=>cases h;exact .cons (by simp [KT.numKind,KT.isNum]) (ft t u)
theorem di {b:Addr} (I:Inv X pins σ H s) (h:SqN X.K H b ms):(tupleKind (KT.numKind X.prog X.w)).is s.heap ms b:=by
 obtain ⟨vs,h,hn⟩:=h
 obtain ⟨its,r,⟨o,h1,h2,n,h3⟩,_⟩:=I.tuple h
 exact ⟨o,its.toArray,n,h1,h2,h3,by simpa using ft hn r⟩
noncomputable def b6 (K:PySem.W.Frag) (H:Hp) (es:List (List Int×Addr×V)):Prop:=∀x∈es,SqN K H x.2.1 x.1
theorem EV.keys {xs:List (List Int×Addr×Value)} (r:EV es xs):es.map (·.1)=xs.map (·.1):=by
 induction r with
 | nil=>rfl
 | cons h t ih=>rw [List.map_cons,List.map_cons,ih,h.1]
theorem EV.mem {xs:List (List Int×Addr×Value)} (r:EV es xs):∀x∈xs,∃e∈es,e.1=x.1/\e.2.1=x.2.1:=by
 induction r with
 | nil=>intro x h;exact nomatch h
 | @cons p q ps qs h t ih=>
  intro x hx
  rcases List.mem_cons.mp hx with rfl | hx
  ·exact ⟨p,List.mem_cons_self,h.1,h.2.1⟩
  ·obtain ⟨e,h1,h2⟩:=ih x hx
   exact ⟨e,List.mem_cons_of_mem _ h1,h2⟩
theorem fS {a:Addr} {ob:Obj} (I:Inv X pins σ H s) (e:H a=some (bF a ob es)) (k:b6 X.K H es):es.length<=sizeLine/\(a==sysModules)=false/\(es.map (·.1)).Nodup /\
  ∃xs,EV es xs/\s.heap.DictOfH (tupleKind (KT.numKind X.prog X.w)) a xs:=by
 obtain ⟨z,m,nd,xs,ev,o,ds,ep,h1,h2,h3,h4⟩:=fG I e
 refine ⟨z,m,nd,xs,ev,o,ds,ep,h1,h2,h3,h4,fun x hx=>?_,by rw [<- ev.keys];exact nd⟩
 obtain ⟨e,he,e1,e2⟩:=ev.mem x hx
 rw [<- e1,<- e2]
 exact di I (k e he)
noncomputable def atE (es:List (List Int×Addr×V)) (k:List Int):Option V:=(es.find? fun x=>decide (x.1=k)).map (·.2.2)
theorem EV.at_ {xs:List (List Int×Addr×Value)} (r:EV es xs) (k:List Int):RelO (atE es k) ((atKey xs k).map (·.2)):=by
 induction r with
 | nil=>exact True.intro
 | @cons p q ps qs h t ih=>
  obtain ⟨h1,_,h2⟩:=h
  by_cases e:p.1=k
  ·have e':q.1=k:=h1.symm.trans e
   have a:atE (p::ps) k=some p.2.2:=by simp [atE,List.find?_cons,e]
   have b:atKey (q::qs) k=some q.2:=by simp [atKey,List.find?_cons,e']
   rw [a,b];exact h2
  ·have e':¬ q.1=k:=fun z=>e (h1.trans z)
   have a:atE (p::ps) k=atE ps k:=by simp [atE,List.find?_cons,e]
   have b:atKey (q::qs) k=atKey qs k:=by simp [atKey,List.find?_cons,e']
   rw [a,b];exact ih
theorem eQ:∀{o:Option V} {u:Option Value},RelO o u->o.isSome=u.isSome
 | some _,some _,_=>rfl
 | none,none,_=>rfl
 | some _,none,h=>h.elim
 | none,some _,h=>h.elim
theorem fT {k:List Int}:(atE es k).isSome=decide (k∈es.map (·.1)):=by
 induction es with
 | nil=>rfl
 | cons p ps ih=>
  by_cases e:p.1=k
  ·simp [atE,List.find?_cons,e]
  ·have a:atE (p::ps) k=atE ps k:=by simp [atE,List.find?_cons,e]
   rw [a,ih]
   have:¬ k=p.1:=fun z=>e z.symm
   simp [this]
noncomputable def A1 (K:PySem.W.Frag) (neg:Bool):R2:=fun y x H Q=>∃b a ms es,y=.ref b/\x=.ref a/\SqN K H b ms/\(∃ob,H a=some (bF a ob es))/\b6 K H es/\Q (.bl (if neg then !decide (ms∈es.map (·.1)) else decide (ms∈es.map (·.1)))) H
end
section
variable {X:Cx}
theorem A2 (hu:X.A.units+64 < cLine):OpR X (compareOp .In) (A1 X.K false):=by
 rintro pins s σ H x y v u Q I rx ry ⟨b,a,ms,es,e1,e2,h1,⟨ob,h2⟩,h3,q⟩
 subst e1;subst e2
 cases rx;cases ry
 obtain ⟨z,m,nd,xs,ev,dd⟩:=fS I h2 h3
 refine wpAny_in_heap (tupleKind_room_in1 (by lia)) (di I h1) m dd ?_
 have e:=eQ (ev.at_ ms)
 rw [Option.isSome_map,fT] at e
 rw [<- e]
 exact ⟨.bl _,H,I.tok _,rfl,q⟩
end
end L2
namespace L2
open PySem PySem.Spec PyProof.Rows
noncomputable def fu (es:List (List Int×Addr×V)) (k:List Int) (b:Addr) (v:V):List (List Int×Addr×V):=if k∈es.map (·.1) then es.map (fun x=>if x.1=k then (x.1,x.2.1,v) else x) else es++[(k,b,v)]
theorem jb (es:List (List Int×Addr×V)) (k:List Int) (b:Addr) (v:V):(fu es k b v).length<=es.length+1:=by
 unfold fu;split <;> simp
theorem EV.repl {xs:List (List Int×Addr×Value)} (r:EV es xs) (k:List Int) {u:Value} (rv:RelV v u):EV (es.map fun x=>if x.1=k then (x.1,x.2.1,v) else x) (xs.map (putAt k u)):=by
 induction r with
 | nil=>exact .nil
 | @cons p q ps qs h t ih=>
  rw [List.map_cons,List.map_cons]
  refine .cons ?_ ih
  obtain ⟨h1,h2,h3⟩:=h
  unfold putAt
  by_cases e:p.1=k
  ·rw [if_pos e,if_pos (h1.symm.trans e)];exact ⟨h1,h2,rv⟩
  ·rw [if_neg e,if_neg (fun z=>e (h1.trans z))];exact ⟨h1,h2,h3⟩
theorem EV.put {xs:List (List Int×Addr×Value)} (r:EV es xs) (k:List Int) {b:Addr} {u:Value} (rv:RelV v u):EV (fu es k b v) (storedH xs k b u):=by
 have e:decide (k∈es.map (·.1))=(atKey xs k).isSome:=by
  have:=eQ (r.at_ k)
  rw [Option.isSome_map,fT] at this
  exact this
 unfold fu storedH
 by_cases q:(atKey xs k).isSome=true
 ·rw [if_pos q,if_pos (of_decide_eq_true (e.trans q))];exact r.repl k rv
 ·rw [if_neg q,if_neg (fun z=>q (e.symm.trans (decide_eq_true z)))];exact Paired.snoc r ⟨rfl,rfl,rv⟩
section
variable {X:Cx} {o i value:Expr} {pos pos':Pos} {td ty tv:TE}
noncomputable def yE (K:PySem.W.Frag) (td ty tv:TE):TS:=fun D σ H=>tv σ H fun v H1=>td σ H1 fun x H2=>ty σ H2 fun y H3=>∃a b ms es,x=.ref a/\y=.ref b/\SqN K H3 b ms/\(∃ob,H3 a=some (bF a ob es))/\b6 K H3 es/\es.length < sizeLine /\
 ∀ob,D.nx σ (upd H3 a (bF a ob (fu es ms b v)))
theorem A3 {s:Shared} {a b:Addr} {ob:Obj} {r:Value} {A:Around} {E:Value->Shared->Prop} {Q:Unit->Shared->Prop} (hu:A.units+1 < cLine) (I:Inv X pins σ H s) (h1:SqN X.K H b ms) (h2:H a=some (bF a ob es)) (h3:b6 X.K H es) (hl:es.length < sizeLine) (rv:RelV v r)
  (h:∀ob s',Inv X pins σ (upd H a (bF a ob (fu es ms b v))) s'->Q () s'):wpAny (model X.prog X.w) A (setItem (.ref a) (.ref b) r) Q E s:=by
 obtain ⟨z,m,nd,xs,ev,dd⟩:=fS I h2 h3
 refine wpAny_setItem_heap (hsz:=by rw [<- Paired.length ev];exact z) (tupleKind_room_in1 hu) (di I h1) dd fun h' dd' hs=>?_
 obtain ⟨q,ds,ep,hq,g2,g3,g4,_,g5⟩:=dd'
 refine h q _ (I.write (x:=a) (e:=a) (by rw [h2];exact True.intro) (.inl rfl) (fun b q hb z=>(hs.2 b hb).trans z) ⟨q,hq⟩ (DctP.ok ⟨?_,m,?_,_,ev.put ms rv,q,ds,ep,hq,g2,g3,g4⟩ hq))
 ·have:=jb es ms b v;lia
 ·rw [(ev.put ms rv).keys];exact g5
theorem wD (hu:X.A.units+64 < cLine) (ho:PE X o td) (hi:PE X i ty) (hv:PE X value tv) (hs:swapsWith value (some (.Subscript o i pos')) pos.line X.env=pure false) :
  PS X (.Assign [.Subscript o i pos'] value pos) (yE X.K td ty tv):=by
 intro pins s σ H D I h
 refine wpAny_Assign_Subscript (thn (hv pins s σ H _ I h) fun r s1 ⟨v,H1,I1,rv,q1⟩=>thn (ho pins s1 σ H1 _ I1 q1) fun u s2 ⟨x,H2,I2,rx,q2⟩=>thn (hi pins s2 σ H2 _ I2 q2) fun iv s3 zr1=>?_) hs
 obtain ⟨y,H3,I3,ry,a,b,ms,es,ex,ey,h1,⟨ob,h2⟩,h3,hl,q3⟩:=zr1
 subst ex;subst ey
 obtain rfl:u=Value.ref a:=rx
 obtain rfl:iv=Value.ref b:=ry
 exact A3 (by lia) I3 h1 h2 h3 hl rv fun ob s4 I4=>⟨σ,_,I4,q3 ob⟩
theorem kR {s:Shared} (I:Inv X pins σ H s):sysModules < s.heap.objs.size:=by
 have h:mainGlobals < s.heap.objs.size:=(I.mod.glob.keeps I.bk).lt
 exact Nat.lt_trans (by decide) h
noncomputable def yF:TE:=fun _ H Q=>∀p ob,H p=none->Q (.ref p) (upd H p (bF p ob []))
theorem wF:PE X (.Dict [] [] pos) yF:=fun pins s σ H Q I h=>
 wpAny_Dict_empty ⟨.ref s.heap.objs.size,_,I.laid (a:=s.heap.objs.size) (o:=bF s.heap.objs.size _ []) (t':=s.toks) (fun _ _ q=>Heap.get?_push_of_some _ q) (Nat.le_refl _)
  (DctP.ok ⟨Nat.zero_le _,beq_eq_false_iff_ne.mpr (Ne.symm (Nat.ne_of_lt (kR I))),List.nodup_nil,[],.nil,_,#[],0,Heap.get?_push_size _ rfl,⟨rfl,rfl,rfl⟩,rfl,rfl⟩ (Heap.get?_push_size _ rfl)),rfl,h _ _ (I.hok.fresh (Nat.le_refl _))⟩
end
end L2
namespace VL
open PySem L2
noncomputable def dc (kvs:List (List Int×D)):D:=.dic (kvs.map (·.1)) (kvs.map (·.2))
noncomputable def od (kvs:List (List Int×D)):Sl:=.odi (kvs.map (·.1)) (kvs.map (·.2))
noncomputable def b7 (kvs:List (List Int×D)) (k:List Int) (d:D):List (List Int×D):=if k∈kvs.map (·.1) then kvs.map (fun x=>if x.1=k then (x.1,d) else x) else kvs++[(k,d)]
noncomputable def dC (kvs:List (List Int×D)) (k:List Int):Option D:=(kvs.find? fun x=>decide (x.1=k)).map (·.2)
section
variable {K:PySem.W.Frag} {N:AP} {F:FP} {H:Hp}
theorem dD:∀{es:List (List Int×Addr×V)},Reps K N F H (es.map fun x=>.ref x.2.1) ((es.map (·.1)).map kT)->b6 K H es
 | [],_=>fun _ h=>nomatch h
 | e::es,r=>by
  cases r with
  | cons h t=>
   intro x hx
   rcases List.mem_cons.mp hx with rfl | hx
   ·obtain ⟨a,vs,e1,hq,rr⟩:=Rep.sqT (show Rep K N F H _ (.tup (x.1.map D.int)) from h)
    cases e1
    cases Reps.toInts rr
    exact SqN.of hq
   ·exact dD t x hx
theorem Rep.dct {ks:List (List Int)} (h:Rep K N F H v (.dic ks ds)):∃a es,v=.ref a/\N a/\F (some a)/\(∃ob,H a=some (bF a ob es))/\es.map (·.1)=ks/\b6 K H es/\Reps K N F H (es.map fun x=>.ref x.2.1) (ks.map kT)/\Reps K N F H (es.map (·.2.2)) ds:=by
 cases h with
 | dic n f h e rk r=>subst e;exact ⟨_,_,rfl,n,f,⟨_,h⟩,rfl,dD rk,rk,r⟩
theorem jZ {k:List Int} (hv:Rep K N F H v d):∀{es:List (List Int×Addr×V)} {kvs:List (List Int×D)},es.map (·.1)=kvs.map (·.1)->Reps K N F H (es.map (·.2.2)) (kvs.map (·.2)) ->
  Reps K N F H ((es.map fun x=>if x.1=k then (x.1,x.2.1,v) else x).map (·.2.2)) ((kvs.map fun x=>if x.1=k then (x.1,d) else x).map (·.2))
 | [],[],_,_=>.nil
 | e::es,p::kvs,ek,r=>by
  simp only [List.map_cons,List.cons.injEq] at ek
  cases r with
  | cons h t=>
   simp only [List.map_cons]
   refine .cons ?_ (jZ hv ek.2 t)
   by_cases hk:e.1=k
   ·rw [if_pos hk,if_pos (ek.1.symm.trans hk)];exact hv
   ·rw [if_neg hk,if_neg (fun z=>hk (ek.1.trans z))];exact h
 | [],_::_,ek,_=>by simp at ek
 | _::_,[],ek,_=>by simp at ek
theorem nL (es:List (List Int×Addr×V)) (k:List Int) (v:V):(es.map fun x=>if x.1=k then (x.1,x.2.1,v) else x).map (·.1)=es.map (·.1):=by
 rw [List.map_map]
 refine List.map_congr_left fun x _=>?_
 simp only [Function.comp];split <;> rfl
theorem nM (es:List (List Int×Addr×V)) (k:List Int) (v:V):(es.map fun x=>if x.1=k then (x.1,x.2.1,v) else x).map (fun x=>V.ref x.2.1)=es.map fun x=>V.ref x.2.1:=by
 rw [List.map_map]
 refine List.map_congr_left fun x _=>?_
 simp only [Function.comp];split <;> rfl
theorem cY (kvs:List (List Int×D)) (k:List Int) (d:D):(kvs.map fun x=>if x.1=k then (x.1,d) else x).map (·.1)=kvs.map (·.1):=by
 rw [List.map_map]
 refine List.map_congr_left fun x _=>?_
 simp only [Function.comp];split <;> rfl
theorem oW {k:List Int} {b:Addr} (hv:Rep K N F H v d) {F':FP} (hb:Rep K N F' H (.ref b) (kT k)) (ek:es.map (·.1)=kvs.map (·.1))
  (rk:Reps K N F' H (es.map fun x=>V.ref x.2.1) ((kvs.map (·.1)).map kT)) (r:Reps K N F H (es.map (·.2.2)) (kvs.map (·.2))) :
  (fu es k b v).map (·.1)=(b7 kvs k d).map (·.1)/\Reps K N F' H ((fu es k b v).map fun x=>V.ref x.2.1) (((b7 kvs k d).map (·.1)).map kT)/\Reps K N F H ((fu es k b v).map (·.2.2)) ((b7 kvs k d).map (·.2)):=by
 unfold fu b7
 by_cases hk:k∈es.map (·.1)
 ·rw [if_pos hk,if_pos (by rw [<- ek];exact hk),nL,cY,nM]
  exact ⟨ek,rk,jZ hv ek r⟩
 ·rw [if_neg hk,if_neg (by rw [<- ek];exact hk)]
  simp only [List.map_append,List.map_cons,List.map_nil]
  exact ⟨by rw [ek],Reps.append rk (.cons hb .nil),Reps.append r (.cons hv .nil)⟩
end
section
variable {K:PySem.W.Frag} {X:Cx} {m:Bool} {e o ie:Expr} {te ti:TE} {va vi:VT} {pos posS:Pos}
noncomputable def DL (neg:Bool):D->D->(D->Prop)->Prop:=fun d1 d2 q=>∃ms kvs,d1=kT ms/\d2=dc kvs/\q (.bl (if neg then !decide (ms∈kvs.map (·.1)) else decide (ms∈kvs.map (·.1))))
theorem yG {neg:Bool}:dA K (A1 K neg) (DL neg):=by
 rintro x y H d1 d2 q C r1 r2 ⟨ms,kvs,rfl,rfl,h⟩ hc
 obtain ⟨b,vs,rfl,hq,rr⟩:=Rep.sqT (show Rep K _ _ H x (.tup (ms.map D.int)) from r1)
 cases Reps.toInts rr
 obtain ⟨a,es,rfl,_,_,ha,ek,hk,_,_⟩:=Rep.dct (show Rep K _ _ H y (.dic _ _) from r2)
 refine ⟨b,a,ms,es,rfl,rfl,SqN.of hq,ha,hk,?_⟩
 rw [ek]
 exact hc _ _ h fun _ _=>.bl _
theorem yH (hK:X.K=K) (hu:X.A.units+64 < cLine):OpR X (compareOp .In) (A1 K false):=by subst hK;exact A2 hu
noncomputable abbrev VTD:=List Sl->(List (List Int×D)->List Sl->Prop)->Prop
noncomputable def EU (K:PySem.W.Frag) (te:TE) (t:VTD):Prop:=∀H0 Z σ H S Q C,OK K H0 Z σ H S->t S Q->(∀a es kvs H1 H' S',OK K H0 Z σ H1 S'->Step Z σ S H σ S' H1->H1 a=none->(∀b,H1 b≠none->H' b=H1 b)->(∃ob,H' a=some (bF a ob es)) ->
 es.map (·.1)=kvs.map (·.1)->Reps K (fun b=>NM Z σ S' b/\b≠a) AnyF H' (es.map fun x=>V.ref x.2.1) ((kvs.map (·.1)).map kT)->Reps K (fun b=>NM Z σ S' b/\b≠a) (Fr H0) H' (es.map (·.2.2)) (kvs.map (·.2))->Q kvs S'->C (.ref a) H')->te σ H C
structure VDe (K:PySem.W.Frag) (X:Cx) (e:Expr) (te:TE) (t:VTD):Prop where
 pe:PE X e te
 snd:EU K te t
noncomputable def yI:VTD:=fun S Q=>Q [] S
theorem nN:VDe K X (.Dict [] [] pos) yF yI:=⟨wF,fun H0 Z σ H S Q C k t hc=>fun p ob hp=>hc p [] [] H _ S k .refl hp (aX hp) ⟨ob,aH⟩ rfl .nil .nil t⟩
noncomputable def yJ (i:Nat) (t:VTD):VTS:=fun V S=>t S fun kvs S1=>i < S1.length/\V.nx (S1.set i (od kvs))
theorem fU {i:Nat} {x:Str} {pos':Pos} {tn:VTD} (ps:∀te,PE X e te->PS X (.Assign [.Name x pos'] e pos) (dI te (bQ i))) (h:VDe K X e te tn):VS K X (.Assign [.Name x pos'] e pos) (dI te (bQ i)) (yJ i tn):=
 ⟨ps te h.pe,fun H0 Z σ H S V E k t l=>h.snd H0 Z σ H S _ _ k t fun a es kvs H1 H' S' k1 st1 ha hg hl ek rk rr zq1=>by
  obtain ⟨hi,q⟩:=zq1
  obtain ⟨k2,st2⟩:=k1.setNew (s:=od kvs) hi ha hg ⟨a,es,rfl,hl,k1.dom a ha,⟨ek,rk⟩,rr⟩ rfl
  exact l.nx _ _ _ k2 (st1.trans st2) q⟩
noncomputable def yK (i:Nat) (ve vi:VT):VTS:=fun V S=>ve S fun r S1=>(∃kvs,S1[i]?=some (od kvs))/\vi S1 fun ri S2=>∃d ms kvs,r=.d d/\get S2 ri=some (kT ms)/\S2[i]?=some (od kvs)/\kvs.length<=1000000/\V.nx (S2.set i (od (b7 kvs ms d)))
theorem il (i:Nat) (hK:X.K=K) (hu:X.A.units+64 < cLine) (ho:PE X o (cG i)) (h:VE K X true e te va) (hi:VE K X false ie ti vi) (hs:swapsWith e (some (.Subscript o ie posS)) pos.line X.env=pure false:=by rfl) :
  VS K X (.Assign [.Subscript o ie posS] e pos) (yE K (cG i) ti te) (yK i va vi):=⟨by subst hK;exact wD hu ho hi.pe h.pe hs,fun H0 Z σ H S V E k t l=>by
 refine h.snd H0 Z σ H S _ _ k t fun x H1 r S1 k1 st1 rr zr1=>?_
 obtain ⟨⟨kvs0,e0⟩,q⟩:=zr1
 obtain ⟨o1,g1,p,es0,rfl,_⟩:=k1.ownAt e0
 refine ⟨.ref p,g1,hi.snd H0 Z σ H1 S1 _ _ k1 q fun y H2 ri S2 k2 st2 rr2 zr1=>?_⟩
 obtain ⟨d,ms,kvs,er,ek,e1,hl,q2⟩:=zr1
 subst er
 obtain ⟨o2,g2,p',es,e2,h2,h3,⟨h4,h5⟩,h6⟩:=k2.ownAt e1
 rw [g1] at g2;cases g2;cases e2
 have rx:Rep K (NM Z σ S2) (FM H0 true) H2 x d:=Rep.step (show Rep K (NM Z σ S1) (FM H0 true) H1 x d from rr) st2
 have ry:∃b,y=.ref b/\SqT K H2 b (ms.map L2.V.int)/\Rep K (NM Z σ S2) AnyF H2 (.ref b) (kT ms):=by
  cases ri with
  | d z=>
   cases ek
   obtain ⟨b,vs,rfl,hq,rr⟩:=Rep.sqT (show Rep K _ _ H2 y (.tup (ms.map D.int)) from rr2)
   cases Reps.toInts rr
   exact ⟨b,rfl,hq,Rep.mono (fun _ n _=>⟨n,rfl⟩) (fun _ _=>trivial) rr2⟩
  | own j=>
   have ek:getO S2[j]?=some (kT ms):=ek
   cases es:S2[j]? with
   | none=>rw [es] at ek;cases ek
   | some s=>rw [es] at ek;cases s <;> cases ek
 obtain ⟨b,rfl,hq,rb⟩:=ry
 have hk:b6 K H2 es:=dD (by rw [h4];exact h5)
 refine ⟨p,b,ms,es,rfl,rfl,SqN.of hq,h2,hk,?_,?_⟩
 ·have:es.length=kvs.length:=by have:=congrArg List.length h4;simpa using this
  rw [sizeLine_eq];lia
 ·intro obn
  have na:NM Z σ S2 p->False:=fun n=>n (.inl ⟨i,_,e1,rfl,g1⟩)
  have hm:∀b,NM Z σ S2 b->H2 b≠none->NM Z σ S2 b/\upd H2 p (bF p obn (fu es ms b x)) b=H2 b:=fun b n _=>⟨n,aD fun z=>na (by rw [<- z];exact n)⟩
  have hm':∀c,NM Z σ S2 c->H2 c≠none->NM Z σ S2 c/\upd H2 p (bF p obn (fu es ms b x)) c=H2 c:=fun c n _=>⟨n,aD fun z=>na (by rw [<- z];exact n)⟩
  obtain ⟨z1,z2,z3⟩:=oW (k:=ms) (b:=b) (Rep.mono hm' (fun _ x=>x rfl) rx) (Rep.mono hm' (fun _ x=>x) rb) h4 (h5.mono hm' fun _ x=>x) (h6.mono hm' fun _ x=>x)
  obtain ⟨k3,st3⟩:=k2.chgD (s:=od (b7 kvs ms d)) (o:=bF p obn (fu es ms b x)) e1 rfl g1 rfl ⟨p,_,rfl,⟨obn,aH⟩,h3,⟨z1,z2⟩,z3⟩
  exact l.nx _ _ _ k3 ((st1.trans st2).trans st3) q2⟩
end
end VL
end
section
namespace VL
open PySem L2
section
variable {S:List Sl} {Q:VR->List Sl->Prop} {QN:List D->List Sl->Prop} {QD:List (List Int×D)->List Sl->Prop} {W:bt} {va vb:VT} {vr:VTA} {vd:VTD}
theorem A4 (h:QD [] S):yI S QD:=h
@[irreducible] noncomputable def oX (i:Nat) (W:bt):List (List Int×D)->List Sl->Prop:=fun kvs S1=>i < S1.length/\W.nx (S1.set i (od kvs))
theorem A5 {i:Nat} (h:vd S (oX i W)):yJ i vd W S:=by unfold oX at h;exact h
theorem wG {i:Nat} (e:Nat.ble (i+1) S.length=true) (h:W.nx (S.set i (od kvs))):oX i W kvs S:=by unfold oX;exact ⟨Nat.le_of_ble_eq_true e,h⟩
@[irreducible] noncomputable def oY (i:Nat) (vi:VT) (W:bt):VR->List Sl->Prop:=fun r S1=>(∃kvs,S1[i]?=some (od kvs))/\vi S1 fun ri S2=>∃d ms kvs,r=.d d/\get S2 ri=some (kT ms)/\S2[i]?=some (od kvs)/\kvs.length<=1000000/\W.nx (S2.set i (od (b7 kvs ms d)))
@[irreducible] noncomputable def kS (i:Nat) (r:VR) (W:bt):VR->List Sl->Prop:=fun ri S2=>∃d ms kvs,r=.d d/\get S2 ri=some (kT ms)/\S2[i]?=some (od kvs)/\kvs.length<=1000000/\W.nx (S2.set i (od (b7 kvs ms d)))
theorem A6 {i:Nat} {vi:VT} (h:va S (oY i vi W)):yK i va vi W S:=by unfold oY at h;exact h
theorem wH {i:Nat} {vi:VT} (e:S[i]?=some (od kvs)) (h:vi S (kS i r W)):oY i vi W r S:=by unfold oY;unfold kS at h;exact ⟨⟨kvs,e⟩,h⟩
theorem fV {i:Nat} {ri:VR} (e1:get S ri=some (kT ms)) (e2:S[i]?=some (od kvs)) (hl:kvs.length<=1000000) (h:W.nx (S.set i (od (b7 kvs ms d)))):kS i (.d d) W ri S:=by unfold kS;exact ⟨d,ms,kvs,rfl,e1,e2,hl,h⟩
theorem sG {neg:Bool} {d1 d2:D} (e1:d1=kT ms) (e2:d2=dc kvs) (h:q (.bl (if neg then !decide (ms∈kvs.map (·.1)) else decide (ms∈kvs.map (·.1))))):DL neg d1 d2 q:=⟨ms,kvs,e1,e2,h⟩
end
theorem nO {α:Type} [DecidableEq α] {n:Nat} {f:α->D} (e:Enc n f) {x:α} {l:List α} (h:q (.bl (decide (x∈l)))) (hn:n+1<=40:=by decide):nE false (f x) (.tup (l.map f)) q:=⟨_,.inr rfl,e.okd (by lia) x,e.lst.okd hn l,by simpa only [e.any,Bool.false_eq_true,if_false] using h⟩
theorem qg {ve:VT} {A:D->List Sl->Prop} {B:List Sl->Prop} (h:B S):fq ve A B false S:=fR (fun e=>nomatch e) fun _=>h
section
variable {K:PySem.W.Frag} {X:Cx} {e:Expr} {te:TE} {va:VT} {pos pos':Pos} {x:Str}
theorem aB {i:Nat} (hN:X.N.Nodup) (hi:X.N[i]?=some x) (hx:Loc X.env.scope x) (h:VE K X false e te va) (hs:swapsWith e (some (.Name x pos')) pos.line X.env=pure false:=by rfl)
  (hf:X.fn x=true\/X.env.scope.names.lookup x=some .local:=by first | exact .inl rfl | exact .inr rfl | assumption):VS K X (.Assign [.Name x pos'] e pos) (dI te (bQ i)) (nB va (vgN i)):=Ai (fun _ h=>ck hN hi hx h hs hf) h
end
end VL
end
section
namespace VL
open PySem L2
section
variable {S:List Sl} {Q:VR->List Sl->Prop} {va vb:VT} {vn:VTN}
theorem DM {x y:Str} (h:q (.bl (decide (x=y)))):wEq (.str x) (.str y) q:=⟨.str x,.str y,rfl,rfl,rfl,by simpa using h⟩
end
end VL
end
section
namespace L2
open PySem PySem.Spec PyProof.Rows PySem.W
structure Flies (P:Program) (w:World) (outer:List Env) (H:Hp) (s:Shared) (x:Addr) (cls a0:Value) (B:Heap) (H':Hp) (s':Shared):Prop where
 os:s'.os=s.os
 bare:AllBare s'.gens
 fly:Heap.FlyingW B outer x cls a0 s'.heap
 frm:∀b∈frs outer,∀o,s.heap.get? b=some o->∃sl,s'.heap.get? b=some { o with slots:=sl }
 hok:HOk P w H' B
 cov:∀b o,s.heap.get? b=some o->H b=none->b∉frs outer->B.get? b=some o
 same:∀b,H b≠none->H' b=H b
 free:∀b o,s.heap.get? b=some o->H b=none->H' b=none
 new:s.heap.get? x=none
noncomputable def CX1 (P:Program) (w:World):CXT:=fun outer H s E e s'=>∃x cls a0 B H',e=.ref x/\Flies P w outer H s x cls a0 B H' s'/\E cls none H'
section
variable {P:Program} {w:World} {outer:List Env} {H H':Hp} {s s':Shared} {x:Addr} {cls a0:Value} {B:Heap}
theorem Flies.hok' (f:Flies P w outer H s x cls a0 B H' s'):HOk P w H' s'.heap:=f.hok.kept f.fly.1
theorem Flies.un (f:Flies P w outer H s x cls a0 B H' s'):Un (frs outer) [] H H' s.heap s'.heap where
 keep:=fun b o e n nb _=>f.fly.1 b o (f.cov b o e n nb)
 slot:=fun b o e _ hb _=>f.frm b hb o e
 free:=fun b o e n _=>f.free b o e n
 there:=fun b o e _=>by
  cases n:H b with
  | none=>
   by_cases hb:b∈frs outer
   ·obtain ⟨sl,q⟩:=f.frm b hb o e
    exact ⟨_,q⟩
   ·exact ⟨o,f.fly.1 b o (f.cov b o e n hb)⟩
  | some u=>exact bq.there (f.hok' b u (by rw [f.same b (by rw [n];simp)];exact n))
 tups:=fun b xs e=>by rw [f.same b (by rw [e];simp)];exact e
 frzs:=fun b o u e=>by rw [f.same b (by rw [e];simp)];exact e
 tbls:=fun b ps e=>⟨#[],by rw [f.same b (by rw [e];simp),e];simp⟩
theorem Flies.noX (f:Flies P w outer H s x cls a0 B H' s'):H' x=none:=by
 cases n:H' x with
 | none=>rfl
 | some u=>
  obtain ⟨o,e⟩:=bq.there (f.hok x u n)
  rw [f.fly.2.1] at e
  cases e
theorem sH {h:Heap} {as:List Addr} (k:HOk P w H h) (hf:∀a∈as,H a=none):HOk P w H (hideAll h as):=fun b u e=>by
 have nb:∀c v,H c=some v->c∉as:=fun c v q z=>by rw [hf c z] at q;cases q
 refine (k b u e).stay (fun c v hc q=>hideAll_get _ q ?_) (fun c q=>q) fun c xs q=>q
 rcases hc with rfl | hc
 ·exact nb c u e
 ·exact nb c _ hc
end
structure d9 (X:Cx) (Hin:Hp) (E:XK):Prop where
 first:∀pins σ H s h1 x cls args,Inv X pins σ H s->Heap.MadeExcOf s.heap h1 x cls args->(∀b,Hin b≠none->H b=Hin b)->E cls none H->∀tk,X.xe (.ref x) { s with heap:=h1,toks:=tk }
 next:∀pins σ H s e s',Inv X pins σ H s->CX1 X.prog X.w X.stack H s (fun c _ H'=>(∀b,Hin b≠none->H' b=Hin b)/\E c none H') e s'->X.xe e s'
section
variable {P:Program} {w:World} {K:PySem.W.Frag} {mg:Str->Option Value} {base:Heap} {N:List Str} {qual:Str} {scope:Scope} {f:Addr} {cd:Value} {A:Around} {outer:List Env} {s:Shared} {H:Hp} {E:XK}
theorem qh:d9 (hZ (CX1 P w) P w K mg base N qual scope f cd A outer s H E) H E where
 first:=fun pins σ Hc sr h1 x cls args I hx fr he tk=>by
  have nf:∀b∈frs outer,∀o,s.heap.get? b=some o->∀vs,o.data≠.fields vs:=fun b hb o e=>by
   obtain ⟨_,o',e',n⟩:=I.ok.funs.mem hb
   have e':s.heap.get? b=some o':=e'
   rw [e] at e';cases e'
   exact n
  refine wpAny_leaves_madeW (base:=hideAll sr.heap (frs (envOfC qual scope s.heap.objs.size f cd::outer))) I.ok.frames rfl (fun b o q=>of_hideAll _ q) (funFrames_hide I.stack fun env he a ha=>List.mem_filterMap.mpr ⟨env,he,ha⟩) hx fun h' t fl _ _ up=>?_
  refine ⟨x,cls,.ref t,_,Hc,rfl,⟨I.os,I.bare,fl,fun b hb o e=>?_,sH I.hok I.stkFree,fun b o e n nb=>?_,fr,fun b o e n=>?_,?_⟩,he⟩
  ·obtain ⟨sl,q⟩:=I.base.slot b o e (I.ok.frf b hb) hb (by intro z;cases z)
   obtain ⟨sl',q'⟩:=up b _ (hx.keeps _ _ q) (nf b hb o e)
   exact ⟨sl',q'⟩
  ·refine hideAll_get _ (I.base.keep b o e n nb (by intro z;cases z)) fun z=>?_
   rcases List.mem_cons.mp (I.stkSub b z) with e' | z
   ·have lt:=Heap.lt_size e
    have ab:s.heap.objs.size<=b:=e'▸I.ok.above
    exact absurd lt (Nat.not_lt.mpr ab)
   ·exact nb z
  ·exact I.base.free b o e n (by intro z;cases z)
  ·cases q:s.heap.get? x with
   | none=>rfl
   | some o=>
    obtain ⟨o',e'⟩:=I.base.there x o q (by intro z;cases z)
    rw [hx.new] at e'
    cases e'
 next:=fun pins σ Hc sr e s' I h=>by
  obtain ⟨x,cls,a0,B,H',rfl,F,fr,he⟩:=h
  have nf:∀b∈frs outer,∀o,s.heap.get? b=some o->∀vs,o.data≠.fields vs:=fun b hb o e=>by
   obtain ⟨_,o',e',n⟩:=I.ok.funs.mem hb
   have e':s.heap.get? b=some o':=e'
   rw [e] at e';cases e'
   exact n
  refine wpAny_leaves_onW I.ok.frames rfl F.fly fun h' fl up=>?_
  have sub:∀b∈frs outer,b∈frs (envOfC qual scope s.heap.objs.size f cd::outer):=fun b hb=>by
   obtain ⟨env,h1,h2⟩:=List.mem_filterMap.mp hb
   exact List.mem_filterMap.mpr ⟨env,List.mem_cons_of_mem _ h1,h2⟩
  refine ⟨x,cls,a0,B,H',rfl,⟨F.os.trans I.os,F.bare,fl,fun b hb o e=>?_,F.hok,fun b o e n nb=>?_,fr,fun b o e n=>?_,?_⟩,he⟩
  ·obtain ⟨sl,q⟩:=I.base.slot b o e (I.ok.frf b hb) hb (by intro z;cases z)
   obtain ⟨sl1,q1⟩:=F.frm b (sub b hb) _ q
   obtain ⟨sl2,q2⟩:=up b _ q1 (nf b hb o e)
   exact ⟨sl2,q2⟩
  ·refine F.cov b o (I.base.keep b o e n nb (by intro z;cases z)) (I.base.free b o e n (by intro z;cases z)) fun z=>?_
   rcases List.mem_cons.mp (I.stkSub b z) with e' | z
   ·have lt:=Heap.lt_size e
    have ab:s.heap.objs.size<=b:=e'▸I.ok.above
    exact absurd lt (Nat.not_lt.mpr ab)
   ·exact nb z
  ·obtain ⟨o',e'⟩:=I.base.there b o e (by intro z;cases z)
   exact F.free b o' e' (I.base.free b o e n (by intro z;cases z))
  ·cases q:s.heap.get? x with
   | none=>rfl
   | some o=>
    obtain ⟨o',e'⟩:=I.base.there x o q (by intro z;cases z)
    rw [F.new] at e'
    cases e'
end
theorem A7 {K:Frag} {h:Heap} {mg:Str->Option Value} {x:Str} {C:Addr} {bmB:List Value} {newId:String} (X:K.In h) (hm:mg x=some (.ref C)) (q:excIn K C bmB newId=true):OwnCls x C bmB newId mg h:=by
 unfold excIn at q
 cases hl:K.lookup C with
 | none=>rw [hl] at q;cases q
 | some o=>
  rw [hl] at q
  split at q
  case h_2=>cases q
  case h_1 dd cd sl e=>
  cases e
  split at q
  case h_2=>cases q
  case h_1 C' bm k0 k1 k2 k3 n k5 hm' hs=>
  have hh:=X _ _ hl
  simp only [Bool.and_eq_true,beq_iff_eq,Bool.not_eq_true'] at q
  obtain ⟨⟨⟨⟨⟨q1,q2⟩,q3⟩,q4⟩,q5⟩,q6⟩:=q
  cases cd
  cases q1;cases q2
  simp only at hm' q3 q5 q6
  cases hm';cases q3
  rw [show sl=#[k0,k1,k2,k3,some (.builtin _),k5] from Array.toList_inj.mp hs] at hh
  exact ⟨hm,_,_,_,_,_,_,_,_,_,_,_,_,_,_,_,_,_,hh,.of_isNs (isNs_of_in X q5),nsMap_none_of_in X q5 q6,tail_of_in X q4⟩
section
variable {X:Cx} {Hin:Hp} {E:XK} {C:Addr} {bmB:List Value} {B newId initId:String} {x:Str} {z:Str} {j:Nat} {np p cpos pos:Pos}
noncomputable def sI (Hin:Hp) (E:XK) (C:Addr):TS:=fun _ _ H=>(∀b,Hin b≠none->H b=Hin b)/\E (.ref C) none H
theorem sJ (T:d9 X Hin E) (FB:ExcBaseFacts B newId initId bmB) (ec:excIn X.K C bmB newId=true) (hm:X.mg x=some (.ref C)) (hc:X.calm=true) (hg:Gl X x:=by rfl) (hd:(x==("__debug__":Str))=false:=by decide)
  (he:starEach [.Constant (.str z) j p] X.env=[(false,eval (.Constant (.str z) j p) X.env)]:=by rfl) :
  PS X (.Raise (some (.Call (.Name x np) [.Constant (.str z) j p] [] cpos)) none pos) (sI Hin E C):=by
 rintro pins s σ H D I ⟨fr,ec'⟩
 have O:OwnCls x C bmB newId X.mg s.heap:=A7 I.kIn hm ec
 obtain ⟨tl,N,nm,q,bs,hdct,sn,sub,ab,col,dd,k0,k1,k2,k3,k5,mN,hC,hN,hni,TL⟩:=O.obj
 refine wpAny_Raise_call_subT (mN:=mN) (nm:=nm) (q:=q) (C:=C) (N:=N) (bs:=bs) (bm:=tl) (hdct:=hdct) (sn:=sn) (sub:=sub) (ab:=ab) (col:=col) (dd:=dd) (k0:=k0) (k1:=k1) (k2:=k2) (k3:=k3) (k5:=k5) FB (TL.hasType FB.hasBase) (I.ok.hd hc) (by rw [he];rfl) hni (fC I hg hm ⟨rfl,?_⟩ hd)
 rw [he]
 refine Calls.evalArgs_plain ?_
 refine Calls.spliced_cons (Calls.Constant_str (k:=j) (pos:=p) (Calls.spliced_nil ⟨rfl,?_,hC,hN,TL,fun h' e mk=>?_⟩))
 ·show 1<=sizeLine
  rw [sizeLine_eq];lia
 ·exact T.first pins σ H s h' e (.ref C) _ I mk fr ec' _
end
section
open Builtin Builtin.ObjectAttr Builtin.Getset_descriptor
noncomputable def ip (K:Frag) (C:Addr):Bool:=(findIn K (.ref C) "__getattribute__"==some (some (.builtin "BaseException.__getattribute__")))&&(findIn K (.ref C) "__getattr__"==some none)&&(findIn K (.ref C) "__class__"==some (some (.builtin "object.__class__"))) &&
 (specialIn K (.builtin "object.__class__") "__get__"==some (some (.builtin "getset_descriptor.__get__")))&&(takesIn K (.builtin "object.__class__")==some true)&&(mroIn K C (.type "object")==some true)&&(mroIn K C (.type "BaseException")==some true)
section
variable {prog:Program} {w:World} {A:Around} {E:Value->Shared->Prop} {s:Shared} {K:Frag} {x C:Addr} {o:Obj}
theorem nP {Q:Option Value->Shared->Prop} (X:K.In s.heap) (ho:s.heap.get? x=some o) (hc:o.cls=.ref C) (ok:ip K C=true) (h:Q (some (.ref C)) { s with toks:=s.toks+1 }):wpAny (model prog w) A (getAttr? (.ref x) "__class__") Q E s:=by
 obtain ⟨hp,g,d,tk,os⟩:=s
 simp only [ip,Bool.and_eq_true,beq_iff_eq] at ok
 obtain ⟨⟨⟨⟨⟨⟨o1,o2⟩,o3⟩,o4⟩,o5⟩,o6⟩,o7⟩:=ok
 have T0:Looks (model prog w) hp (typeOf (.ref x)) (.ref C):=hc▸(Looks.ld ho).andThen .now
 have T1:=looks_findIn (M:=model prog w) X o1
 have T2:=looks_findIn (M:=model prog w) X o2
 have T3:Looks (model prog w) hp (find (.ref x) (.ref C) "__class__") (.bind (.builtin "getset_descriptor.__get__") (.builtin "object.__class__")):=
  (looks_findIn X o3).andThen ((show Looks (model prog w) hp (getOf (some (.builtin "object.__class__"))) _ from looks_specialIn X o4).andThen
   ((show Looks (model prog w) hp (dataDescriptor? (some (.builtin "object.__class__")) (some (.builtin "getset_descriptor.__get__"))) (some (.builtin "getset_descriptor.__get__",.builtin "object.__class__")) from (looks_takesIn X o5).andThen .now).andThen (Looks.tag .now)))
 have T6:=looks_mroIn (M:=model prog w) X o6
 have T7:Looks (model prog w) hp (isInstance (.ref x) (.type "BaseException")) true:=T0.andThen (looks_mroIn X o7)
 have gets:∀(A:Around) (tk:Nat),wpAny (model prog w) A (call (.builtin "getset_descriptor.__get__") [.builtin "object.__class__",.ref x,.ref C]) (fun v s'=>v=.ref C/\s'=⟨hp,g,d,tk,os⟩) (fun _ _=>False) ⟨hp,g,d,tk,os⟩:=fun A tk=>by
  refine wpAny_call (codeAny_call_builtin KF.slot_gs.plain KF.entry_gs (KF.slot_gs.check _ _ _ _ _ _ _ _ KF.type_class (KF.args_gs _ _ _) ?_))
  simp only [Builtin.«getset_descriptor.__get__»,descrGet,dga_obj]
  refine wpAny_bind (wpAny_pure ?_)
  simp only [descrGetter,descrCheckInstance,descrNameAndClass,isInstance,KF.owner_class]
  repeat lk
  exact ⟨Code.quiet_builtin _ (by decide +kernel),codeAny_builtin KF.entry_class (by simp only [Builtin.«object.__class__»,shownTypeOf];(repeat lk);exact ⟨rfl,rfl⟩)⟩
 have asks:∀(A:Around) (tk:Nat) (nt:Tok),wpAny (model prog w) A (call (.builtin "BaseException.__getattribute__") [.ref x,.str "__class__" nt]) (fun v s'=>v=.ref C/\s'=⟨hp,g,d,tk,os⟩) (fun _ _=>False) ⟨hp,g,d,tk,os⟩:=fun A tk nt=>by
  have kd:builtinKind "BaseException.__getattribute__"=some .slot:=by decide +kernel
  have sp:splitId "BaseException.__getattribute__"=some ("BaseException","__getattribute__"):=by decide +kernel
  refine wpAny_call (codeAny_call_builtin (by decide +kernel) F.entry_bexc_ga ?_)
  simp only [checkBuiltinCall,kd,sp]
  refine wpAny_bind (T7.at ?_)
  have fits:(match Manifest.signature? "BaseException.__getattribute__" with
   | some sig=>Bind.checkArgs "BaseException.__getattribute__" sig { pos:=[Value.ref x,Value.str "__class__" nt] }
   | _=>pure ())=pure ():=F.args_bexc_ga (.ref x) (.str "__class__" nt)
  simp only [Bool.not_true,Bool.false_eq_true,if_false]
  refine (show _=_ from fits)▸wpAny_pure ?_
  refine wpAny_bind (wpAny_pure (wpAny_bind (wpAny_pure (wpAny_bind (T0.at (wpAny_bind (T3.at ?_)))))))
  exact wpAny_bind (wpAny_mono (gets _ tk) (fun v s' zt1=>by obtain ⟨a,b⟩:=zt1;exact wpAny_pure ⟨a,b⟩) fun _ _ z=>z.elim)
 have no:(Value.builtin "BaseException.__getattribute__"==Value.builtin "object.__getattribute__")=false:=by decide +kernel
 simp only [getAttr?,getAttrBy?,getAttrBy]
 refine wpAny_bind (wpAny_mkText (wpAny_bind (wpAny_attempt (wpAny_holding (wpAny_bind (T0.at (wpAny_bind (T1.at ?_))))))))
 simp only [no,Bool.and_false,Bool.false_eq_true,if_false,getAttrByItsOwn,hookBefore,onTheHeap,if_true]
 refine wpAny_bind (T2.at (wpAny_bind (wpAny_attempt (wpAny_holding ?_))))
 simp only [callGetattribute,Bool.false_and,Bool.false_eq_true,if_false,boundAndCalled,F.attr_ValueError.ga.bind]
 refine wpAny_bind (wpAny_pure (wpAny_mono (asks A (tk+1) tk) (fun v s' zr1=>?_) fun _ _ z=>z.elim))
 obtain ⟨a,b⟩:=zr1
 subst a b
 exact handed_on rfl (wpAny_pure h)
noncomputable def ExcAt (x C:Addr) (h:Heap):Prop:=∃o,h.get? x=some o/\o.cls=.ref C
theorem wJ {cd:ClassData} (e:clsIn K C=some cd):∃o,K.lookup C=some o/\o.data=.cls cd:=by
 unfold clsIn at e
 split at e
 ·next c d cd' sl q=>cases e;exact ⟨_,q,rfl⟩
 ·cases e
theorem sL (hk:kitCls K (.ref C) (.ref C)=some true) (ok:ip K C=true) (hc:(clsIn K C).isSome=true):KitX K (.ref x) (.ref C) (ExcAt x C) where
 ty:=fun M h _ zt1=>by obtain ⟨o,e,c⟩:=zt1;exact c▸(Looks.ld e).andThen .now
 it:=fun M h X _=>(kit_cls X hk).2.1
 ne:=fun h tp dd its n sl X htp=>by
  obtain ⟨cd,hcd⟩:=Option.isSome_iff_exists.mp hc
  obtain ⟨o,e,d⟩:=wJ hcd
  refine Bool.eq_false_iff.mpr fun q=>?_
  cases beq_iff_eq.mp q
  have z:=X _ _ e
  rw [htp] at z
  cases z
  cases d
 ca:=fun X zt1 k=>by obtain ⟨o,e,c⟩:=zt1;exact nP X e c ok k
end
end
section
variable {X:Cx} {pins:List (Addr×Obj)} {σ:St} {H H':Hp} {s s':Shared} {x:Addr} {cls a0:Value} {B:Heap}
theorem Flies.on {h':Heap} {tk:Nat} (I:Inv X pins σ H s) (f:Flies X.prog X.w X.stack H s x cls a0 B H' s') (fl:Heap.FlyingW B X.stack x cls a0 h') (up:s'.heap.UpToSlots h'):Flies X.prog X.w X.stack H s x cls a0 B H' { s' with heap:=h',toks:=tk } where
 os:=f.os
 bare:=f.bare
 fly:=fl
 frm:=fun b hb o e=>by
  obtain ⟨sl,q⟩:=f.frm b hb o e
  obtain ⟨_,o',e',n⟩:=I.stack.mem hb
  rw [e] at e';cases e'
  obtain ⟨sl',q'⟩:=up b _ q n
  exact ⟨sl',q'⟩
 hok:=f.hok
 cov:=f.cov
 same:=f.same
 free:=f.free
 new:=f.new
theorem Inv.lands (I:Inv X pins σ H s) (f:Flies X.prog X.w X.stack H s x cls a0 B H' s'):Inv X pins σ H' s':=
 I.call' (ch:=[]) f.os f.un f.hok' f.bare fun b z=>by cases z
noncomputable abbrev Cx.caught (X:Cx) (x:Addr):Cx:={ X with A:=X.A.mark (some (.ref x)),calm:=false }
theorem Inv.caught (I:Inv X pins σ H s) (x:Addr):Inv (X.caught x) pins σ H s:=
 ⟨⟨I.ok.mod,I.ok.kind,I.ok.glob,I.ok.blt,I.ok.above,I.ok.inj,I.ok.has,I.ok.cab,fun z=>Bool.noConfusion z,I.ok.frames,I.ok.stk,I.ok.exf,I.ok.bs,I.ok.bsz,I.ok.noex,I.ok.exfs,I.ok.funs,I.ok.frf⟩,I.os,I.bare,I.base,I.loc,I.cell,I.free,I.freeC,I.pin,I.hok,I.len⟩
theorem Inv.uncaught {x:Addr} (J:Inv (X.caught x) pins σ H s) (ok:X.Ok):Inv X pins σ H s:=⟨ok,J.os,J.bare,J.base,J.loc,J.cell,J.free,J.freeC,J.pin,J.hok,J.len⟩
theorem wK {M:Model} {A:Around} {E:Value->Shared->Prop} {i:Nat} {n:Str} {Q:Unit->Shared->Prop} (I:Inv X pins σ H s) (hN:X.N.Nodup) (hi:X.N[i]?=some n) (hk:X.env.scope.names.lookup n=some .local) (hv:σ[i]?=some (some v))
  (h:∀s',Inv X pins (σ.set i none) H s'->Q () s'):wpAny M A (unbindName X.env n) Q E s:=by
 obtain ⟨m,hn,hl⟩:=id I.loc
 obtain ⟨u,_,q⟩:=hl i n v hi hv (.inl hk)
 have hm:m n=some u:=by
  rcases q with ⟨_,e⟩ | ⟨z,_⟩
  ·exact e
  ·have hk':X.env.kindOf n=some .local:=hk
   rw [hk'] at z
   rcases z with z | z <;> cases z
 have hcls:(X.env.scope.kind==.class||(X.env.scope.kind==.module&&X.env.locals != X.env.globals))=false:=by rw [I.ok.kind];rfl
 have hiσ:i < σ.length:=by rw [I.len];exact (List.getElem?_eq_some_iff.mp hi).1
 refine wpAny_unbindName_local hk hn hm hcls fun h' u' hn' hs=>?_
 have far:∀b o,X.s₀.heap.get? b=some o->b≠X.env.locals:=fun b o e=>Nat.ne_of_lt (Nat.lt_of_lt_of_le (Heap.lt_size e) I.ok.above)
 refine h _ ⟨I.ok,I.os,I.bare,⟨fun b o e n hb hx=>(hs.2 b (far b o e)).trans (I.base.keep b o e n hb hx),fun b o e n hb hx=>?_,I.base.free,fun b o e hx=>?_,I.base.tups,I.base.frzs,I.base.tbls⟩,⟨_,hn',fun j y v' e1 e2 e3=>?_⟩,fun y c e=>?_,I.free,I.freeC,fun p hp=>?_,fun b ob e=>?_,by simpa using I.len⟩
 ·obtain ⟨sl,q⟩:=I.base.slot b o e n hb hx
  exact ⟨sl,(hs.2 b (far b o e)).trans q⟩
 ·obtain ⟨o',q⟩:=I.base.there b o e hx
  exact ⟨o',(hs.2 b (far b o e)).trans q⟩
 ·have hj:j≠i:=fun z=>by
   rw [z,List.getElem?_set_self hiσ] at e2
   cases e2
  rw [List.getElem?_set_ne (Ne.symm hj)] at e2
  obtain ⟨w',r',q⟩:=hl j y v' e1 e2 e3
  refine ⟨w',r',?_⟩
  rcases q with ⟨k,e⟩ | ⟨k,c,e,z⟩
  ·have:y≠n:=fun e=>hj (iJ hN e1 (e▸hi))
   exact .inl ⟨k,by simp [this,e]⟩
  ·exact .inr ⟨k,c,e,z.sameBut hs (I.cne y c e)⟩
 ·obtain ⟨w',z⟩:=I.cell y c e
  exact ⟨w',z.sameBut hs (I.cne y c e)⟩
 ·obtain ⟨e,n,ne,nf,d⟩:=I.pin p hp
  exact ⟨(hs.2 p.1 ne).trans e,n,ne,nf,d⟩
 ·refine (I.hok b ob e).stay (fun c w' hc q=>(hs.2 c ?_).trans q) (fun _ q=>q) fun _ _ q=>q
  rintro rfl
  rcases hc with rfl | hc
  ·rw [I.free] at e;cases e
  ·rw [I.free] at hc;cases hc
end
section
variable {X:Cx} {k i:Nat} {f CB:Addr} {fd:FuncData} {ps:List Str} {sp:Sp} {e0:Expr} {es:List Expr} {ta:TA} {x cb en:Str} {b0:Stmt} {suite:List Stmt} {th:TS} {p pos pe np hp tp:Pos}
noncomputable def unE (D:Ends) (i:Nat):Ends:={ nx:=fun σ H=>D.nx (σ.set i none) H,rt:=D.rt,bk:=fun σ H=>D.bk (σ.set i none) H,ct:=fun σ H=>D.ct (σ.set i none) H }
noncomputable def DN (K:Frag) (CB:Addr) (sp:Sp) (ta:TA) (i:Nat) (th:TS):TS:=fun D σ H=>ta σ H fun vs H1=>sp vs H1 (fun _ _=>False) fun c _ H'=>∃C,c=.ref C/\exmOne K (.ref C) (.ref CB)=some true /\
 ∀y o,H' y=none->o.cls=.ref C->th (unE D i) (σ.set i (some (.ref y))) (upd H' y (.frz o (.own y)))
theorem A8 (F:hW X.prog X.w X.K X.mg X.base (CX1 X.prog X.w) k f fd ps sp) (hr:bV k X.A) (hm:X.mg x=some (.ref f)) (hk:PySem.W.keepIn X.K (.ref f)=true) (hb:Binds X.K fd ps []) (ha:PA X (e0::es) ta) (hcb:X.mg cb=some (.ref CB))
  (hs:∀y,PSs (X.caught y) (b0::suite) th) (hxe:∀e s,¬X.xe e s) (hex0:X.ex=[]) (hst:X.stack=X.env::X.outer) (hfr:X.env.frame=some X.env.locals) (hN:X.N.Nodup) (hi:X.N[i]?=some en) (hloc:X.env.scope.names.lookup en=some .local)
  (hg:Gl X x:=by rfl) (hgc:Gl X cb:=by rfl) (hd:(x==("__debug__":Str))=false:=by decide) (hdc:(cb==("__debug__":Str))=false:=by decide) (he:starEach (e0::es) X.env=(false,eval e0 X.env)::starEach es X.env:=by rfl) (hpl:(backTo pos (starEach es X.env)).any (·.1)=false:=by rfl)
  (hsw:swapsWith (.Call (.Name x p) (e0::es) [] pos) none pe.line X.env=pure false:=by rfl) :
  PS X (.Try [.Expr (.Call (.Name x p) (e0::es) [] pos) pe] [.ExceptHandler (some (.Name cb np)) (some en) (b0::suite) hp] [] [] tp) (DN X.K CB sp ta i th):=by
 intro pins s σ H D I h
 refine wpAny_Try_except (wpAny_execs_cons (wpAny_Expr_any ?_ I.quiet hsw))
 refine wpAny_Call_Name_kw (fC I hg hm ?_ hd)
 refine PySem.W.callWith_K (h₀:=X.base) I.ok.mod.kin hk (wpAny_mono (ha pos pins s σ H _ I h) (fun us s1 ⟨vs,H1,I1,r,q⟩=>⟨I1.kIn,?_⟩) fun e s z=>(hxe e s z).elim) he hpl
 have hl:us.length=ps.length:=by rw [<- r.length];exact F.len _ _ _ _ q
 have hbd:=hb s1 us I1.kIn (by rw [List.append_nil];exact hl)
 rw [List.append_nil] at hbd
 refine wpAny_call (codeAny_mono (F.run X.A X.stack s1 H1 ⟨us,[]⟩ us vs _ _ hr I1.env0 hbd r q) fun res s' hq=>?_)
 match res,hq with
 | .ok (.ret u),hq=>obtain ⟨_,_,_,_,_,_,_,z⟩:=hq;exact z.elim
 | .error e,hq=>
  obtain ⟨y,cls,a0,B,H',rfl,Fl,C,rfl,hex,fin⟩:=hq
  have fr:X.A.frames=some (X.env::X.outer):=hst▸I.ok.frames
  have fly0:=Fl.fly
  rw [hst] at fly0
  refine wpAny_looks_onW fr hfr fly0 fun h4 held up4=>?_
  refine wpAny_landsW held fun h5 fly5 up5=>?_
  have F5:Flies X.prog X.w X.stack H1 s1 y (.ref C) a0 B H' { s' with heap:=h5,toks:=s'.toks }:=Fl.on I1 (by rw [hst];exact fly5) (up4.trans up5)
  have I5:=I1.lands F5
  obtain ⟨o5,ho5,hc5⟩:=fly5.there
  refine wpAny_handleBy_cons (codeAny_handlers_test (fC (I5.caught y) hgc hcb ?_ hdc)) (by intro q;cases q)
  refine exm_one (h:=h5) I5.kIn (hc5▸(Looks.ld ho5).andThen .now) hex _ _ _ _ (fun _ _ e=>e) ?_
  refine codeAny_handlers_suite_as ?_
  refine lands_againW fly5 fun h6 fly6 up6=>?_
  have F6:Flies X.prog X.w X.stack H1 s1 y (.ref C) a0 B H' { s' with heap:=h6,toks:=s'.toks }:=Fl.on I1 (by rw [hst];exact fly6) ((up4.trans up5).trans up6)
  have I6:=I1.lands F6
  obtain ⟨o6,ho6,hc6⟩:=fly6.there
  have here:∀b o,s1.heap.get? b=some o->b≠y:=fun b o e z=>by rw [z,Fl.new] at e;cases e
  have I7:Inv (X.caught y) pins σ (upd H' y (.frz o6 (.own y))) { s' with heap:=h6,toks:=s'.toks }:=by
   refine (I6.caught y).trackN F6.noX ?_ ?_ ?_ ?_ ⟨ho6,o6,ho6⟩
   ·cases z:X.s₀.heap.get? y with
    | none=>rfl
    | some o=>
     obtain ⟨o',e'⟩:=I1.base.there y o z (by rw [hex0];intro q;cases q)
     exact absurd rfl (here y o' e')
   ·obtain ⟨m,⟨o,es,ep,e,_⟩,_⟩:=I1.loc
    exact (here _ o e).symm
   ·intro n c e
    obtain ⟨v,o,e',_⟩:=I1.cell n c e
    exact here c o e'
   ·intro p hp
    exact here p.1 p.2 (I1.pin p hp).1
  refine du (X:=X.caught y) I7 hN hi (.inl hloc) (show RelV (.ref y) (.ref y) from rfl) (fun s8 I8=>?_) (.inr hloc)
  refine wpAny_mono (hs y pins s8 _ _ (unE D i) I8 (fin y o6 F6.noX hc6)) (fun fl s9 q9=>?_) fun e s z=>(hxe e s z).elim
  have let_go:∀{σ':St} {H9:Hp} {R:Unit->Shared->Prop},Inv (X.caught y) pins σ' H9 s9->(∀s',Inv X pins (σ'.set i none) H9 s'->R () s')->wpAny (model X.prog X.w) X.A (do bindName X.env en .none;unbindBehindTheSuite X.env en hp) R X.xe s9:=fun {σ' H9 R} J g=>by
   have J0:=J.uncaught I.ok
   refine wpAny_bind (wpAny_bindName (du J0 hN hi (.inl hloc) (show RelV .non .none from rfl) (fun s10 I10=>?_) (.inr hloc)))
   refine wpAny_onRaise (wK I10 hN hi hloc (List.getElem?_set_self (by rw [J0.len];exact (List.getElem?_eq_some_iff.mp hi).1)) fun s11 I11=>?_)
   rw [List.set_set] at I11
   exact g s11 I11
  cases fl with
  | next=>obtain ⟨σ',H9,J,q⟩:=q9;exact let_go J fun s' I'=>⟨_,_,I',q⟩
  | brk=>obtain ⟨σ',H9,J,q⟩:=q9;exact let_go J fun s' I'=>⟨_,_,I',q⟩
  | cont=>obtain ⟨σ',H9,J,q⟩:=q9;exact let_go J fun s' I'=>⟨_,_,I',q⟩
  | ret u=>obtain ⟨v,σ',H9,J,r,q⟩:=q9;exact let_go J fun s' I'=>⟨v,_,_,I',r,q⟩
end
noncomputable def dW (K:Frag) (C:Addr):Bool:=(kitCls K (.ref C) (.ref C)==some true)&&ip K C&&(clsIn K C).isSome
theorem dW.kit {K:Frag} {x C:Addr} (h:dW K C=true):KitX K (.ref x) (.ref C) (ExcAt x C):=by
 simp only [dW,Bool.and_eq_true,beq_iff_eq] at h
 exact sL h.1.1 h.1.2 h.2
noncomputable def qj:Value->V
 | .ref C=>.ref C
 | .type T=>.ty T
 | _=>.non
noncomputable def isC:Value->Bool
 | .ref _=>true
 | .type _=>true
 | _=>false
theorem mB {c u:Value} (h:isC c=true) (r:RelV (qj c) u):u=c:=by
 match c,h,r with
 | .ref _,_,r=>exact r
 | .type _,_,r=>exact r
theorem j4:∀{cs us:List Value},cs.all isC=true->Vals (cs.map qj) us->us=cs
 | [],_,_,.nil=>rfl
 | c::cs,_,h,.cons r t=>by
  simp only [List.all_cons,Bool.and_eq_true] at h
  rw [mB h.1 r,j4 h.2 t]
noncomputable def sM (K:PySem.W.Frag):List V->Hp->VK->Prop:=fun xs H Q=>∃y o C c b,xs=[.ref y,c]/\H y=some (.frz o (.own y))/\o.cls=.ref C/\dW K C=true /\
 ((∃cv,c=qj cv/\isC cv=true/\kitOne K (.ref C) cv=some b)\/(∃t cs,c=.ref t/\SqT K H t (cs.map qj)/\cs.all isC=true/\kitAny K (.ref C) cs=some b))/\Q (.bl b) H
theorem j5 {X:Cx}:cQ X (.builtin "isinstance") (sM X.K):=by
 rintro pins s σ H xs us Q I r ⟨y,o,C,c,b,e,hy,hc,ok,h,q⟩
 subst e
 obtain ⟨u,w',rfl,rx,rc⟩:=vals2 r
 cases rx
 have at_:ExcAt y C s.heap:=⟨o,(show bq X.prog X.w H s.heap y (.frz o (.own y)) from I.hok y _ hy).1,hc⟩
 have fin:∀tk,EP X pins σ Q (.bool b) { s with toks:=tk }:=fun tk=>⟨.bl b,H,I.tok tk,rfl,q⟩
 rcases h with ⟨cv,rfl,hi,e⟩ | ⟨t,cs,rfl,hq,hi,e⟩
 ·rw [mB hi rc]
  exact PySem.W.kia_one (dW.kit ok) I.kIn at_ e (fun z=>nomatch z) fin
 ·cases rc
  obtain ⟨its,r2,tp,_⟩:=I.tuple hq
  cases j4 hi r2
  obtain ⟨o2,h1,h2,n,h3⟩:=tp
  obtain ⟨oc,od,odt,osl⟩:=o2
  simp only at h2 h3
  subst h2;subst h3
  exact PySem.W.kia_tup (dW.kit ok) I.kIn at_ h1 e (fun z=>nomatch z) fin
noncomputable def jc:List Addr->TA
 | []=>lO
 | c::r=>eY (tC (.ref c)) (jc r)
theorem mD:∀{cs:List Addr} {Q:List V->Hp->Prop},Q (cs.map V.ref) H->jc cs σ H Q
 | [],_,h=>h
 | _::cs,_,h=>mD (cs:=cs) h
theorem sN {X:Cx}:PA X [] (jc []):=fc
theorem cE {X:Cx} {n:Str} {p:Pos} {c:Addr} {es:List Expr} {cs:List Addr} (hm:X.mg n=some (.ref c)) (hr:PA X es (jc cs)) (hg:Gl X n:=by rfl) (hd:(n==("__debug__":Str))=false:=by decide)
  (hs:starEach (.Name n p::es) X.env=(false,eval (.Name n p) X.env)::starEach es X.env:=by rfl):PA X (.Name n p::es) (jc (c::cs)):=bW (eI hg hm rfl hd) hr hs
end L2
namespace VL
open PySem L2 PySem.W
section
variable {K:PySem.W.Frag} {X:Cx} {m:Bool} {i:Nat} {en cn:Str} {p1 p2 p3 p4 pos:Pos} {es:List Expr} {cs:List Addr} {c:Value}
theorem DO {H0 H:Hp} {C:Addr} (k:OK K H0 Z σ H S) (h:S[i]?=some (.val (.exc (.ref C)))):∃y o,σ[i]?=some (some (.ref y))/\H y=some (.frz o (.own y))/\o.cls=.ref C:=by
 obtain ⟨o,e,v,rfl,r⟩:=k.ownAt h
 cases r with | exc n hh hc=>exact ⟨_,_,e,hh,hc⟩
noncomputable def yL (K:Frag) (i:Nat) (c:Value):VT:=fun S Q=>∃C b,S[i]?=some (.val (.exc (.ref C)))/\dW K C=true/\kitOne K (.ref C) c=some b/\Q (.d (.bl b)) S
theorem kU (hK:X.K=K) (hc:isC c=true) (hcn:PE X (.Name cn p3) (tC (qj c))) (hi:X.N[i]?=some en) (hv:Vis X.env.scope en) (hg:Gl X "isinstance") (hm:X.mg "isinstance"=none) (hd:(en==("__debug__":Str))=false:=by decide) (hcd:(en==("__classdict__":Str))=false:=by decide)
  (he:starEach [.Name en p2,.Name cn p3] X.env=[(false,eval (.Name en p2) X.env),(false,eval (.Name cn p3) X.env)]:=by rfl) :
  VE K X m (.Call (.Name "isinstance" p1) [.Name en p2,.Name cn p3] [] pos) (tCB (sM K) (eY (cG i) (eY (tC (qj c)) lO))) (yL K i c):=
 ⟨by subst hK;exact fD j5 hg hm bw (bW (m5 hi hv hd hcd) (bW hcn fc)),fun H0 Z σ H S Q C k t hcc=>by
  obtain ⟨C0,b,h1,h2,h3,q⟩:=t
  obtain ⟨y,o,e1,e2,e3⟩:=DO k h1
  exact ⟨_,e1,y,o,C0,_,b,rfl,e2,e3,h2,.inl ⟨c,rfl,hc,h3⟩,hcc _ _ (.d (.bl b)) S k .refl (Rep.bl b) q⟩⟩
noncomputable def yM (K:Frag) (i:Nat) (cs:List Addr):VT:=fun S Q=>∃C b,S[i]?=some (.val (.exc (.ref C)))/\dW K C=true/\kitAny K (.ref C) (cs.map Value.ref)=some b/\Q (.d (.bl b)) S
theorem wL {x1} (hK:X.K=K) (hcs:PA X es (jc cs)) (hz:cs.length < 100) (hi:X.N[i]?=some en) (hv:Vis X.env.scope en) (hg:Gl X "isinstance") (hm:X.mg "isinstance"=none) (hd:(en==("__debug__":Str))=false:=by decide) (hcd:(en==("__classdict__":Str))=false:=by decide)
  (he:starEach [.Name en p2,.Tuple es x1 p3] X.env=[(false,eval (.Name en p2) X.env),(false,eval (.Tuple es x1 p3) X.env)]:=by rfl) :
  VE K X m (.Call (.Name "isinstance" p1) [.Name en p2,.Tuple es x1 p3] [] pos) (tCB (sM K) (eY (cG i) (eY (zN (jc cs)) lO))) (yM K i cs):=
 ⟨by subst hK;exact fD j5 hg hm bw (bW (m5 hi hv hd hcd) (bW (qS hcs) fc)),fun H0 Z σ H S Q C k t hcc=>by
  obtain ⟨C0,b,h1,h2,h3,q⟩:=t
  obtain ⟨y,o,e1,e2,e3⟩:=DO k h1
  refine ⟨_,e1,mD ⟨by rw [List.length_map,sizeLine_eq];lia,fun p hp=>?_⟩⟩
  have g:=aX (o:=.tup (cs.map V.ref)) hp
  refine ⟨y,o,C0,_,b,rfl,by rw [g y (by rw [e2];simp)];exact e2,e3,h2,.inr ⟨p,cs.map Value.ref,rfl,.inl (.inl ?_),by simp [isC],h3⟩,hcc _ _ (.d (.bl b)) S (k.grow g) (.grow g) (Rep.bl b) q⟩
  rw [aH,List.map_map]
  rfl⟩
end
end VL
namespace VL
open PySem L2 PySem.W
noncomputable def spX (K:PySem.W.Frag) (bad:List D->Addr->Prop):Sp:=fun vs H _ E=>∃ds C,Reps K Any AnyF H vs ds/\bad ds C/\∀H',(∀a,H a≠none->H' a=H a)->E (.ref C) none H'
noncomputable def nQ (P:Program) (w:World) (K:PySem.W.Frag) (mg:Str->Option Value) (base:Heap) (k:Nat) (x:Str) (ps:List Str) (bad:List D->Addr->Prop):Prop:=
 ∃(f:Addr) (fd:FuncData),hW P w K mg base (CX1 P w) k f fd ps (spX K bad)/\mg x=some (.ref f)/\PySem.W.keepIn K (.ref f)=true/\Binds K fd ps []
noncomputable def Fz (Hin:Hp) (Z:AP) (σ:St) (S:List Sl) (H:Hp):Prop:=∀a,Hin a≠none->H a=Hin a/\NM Z σ S a
theorem Fz.step {Hin H H':Hp} {σ σ':St} {S S':List Sl} (f:Fz Hin Z σ S H) (st:Step Z σ S H σ' S' H'):Fz Hin Z σ' S' H':=fun a e=>by
 obtain ⟨e1,n⟩:=f a e
 obtain ⟨e2,n2⟩:=st.1 a n (by rw [e1];exact e)
 exact ⟨e2.trans e1,n2⟩
structure VXs (K:PySem.W.Frag) (X:Cx) (Hin:Hp) (E:XK) (sts:List Stmt) (ts:TS) (t:(Addr->Prop)->List Sl->Prop):Prop where
 ps:PSs X sts ts
 snd:∀Wc:Addr->Prop,(∀C,Wc C->∀H',(∀a,Hin a≠none->H' a=Hin a)->E (.ref C) none H')->∀H0 Z σ H S D,OK K H0 Z σ H S->Fz Hin Z σ S H->t Wc S->ts D σ H
section
variable {K:PySem.W.Frag} {X:Cx} {Hin:Hp} {E:XK} {sts rest A:List Stmt} {st:Stmt} {ts us:TS} {t u:(Addr->Prop)->List Sl->Prop} {v:VTS} {pos:Pos}
theorem sO:VXs K X Hin E sts iM (fun _ _=>False):=⟨jH,fun _ _ _ _ _ _ _ _ _ _ h=>h.elim⟩
theorem sP {C:Addr} {bmB:List Value} {B newId initId:String} {x z:Str} {j:Nat} {np p cpos pos:Pos} (T:d9 X Hin E) (FB:ExcBaseFacts B newId initId bmB) (ec:excIn X.K C bmB newId=true) (hm:X.mg x=some (.ref C)) (hc:X.calm=true) (hg:Gl X x:=by rfl) (hd:(x==("__debug__":Str))=false:=by decide)
  (he:starEach [.Constant (.str z) j p] X.env=[(false,eval (.Constant (.str z) j p) X.env)]:=by rfl) :
  VXs K X Hin E [.Raise (some (.Call (.Name x np) [.Constant (.str z) j p] [] cpos)) none pos] (sI Hin E C) (fun Wc _=>Wc C):=
 ⟨oq (sJ T FB ec hm hc hg hd he),fun Wc hE H0 Z σ H S D k f h=>⟨fun b e=>(f b e).1,hE C h H fun b e=>(f b e).1⟩⟩
theorem DP {c:Expr} {tc:TT} {wc:VTT} (hc:VTe K X c tc wc) (ha:VXs K X Hin E A ts t) (hr:VXs K X Hin E rest us u):VXs K X Hin E (.If c A [] pos::rest) (vq (zA tc ts qI) us) (fun Wc S=>wc S fun b S1=>if b=true then t Wc S1 else u Wc S1):=
 ⟨iL (x9 hc.pe ha.ps oo) hr.ps,fun Wc hE H0 Z σ H S D k f h=>hc.snd H0 Z σ H S _ _ k h fun b H1 S1 k1 st1 q=>by
  cases b with
  | true=>rw [if_pos rfl] at q ⊢;exact ha.snd Wc hE H0 Z σ H1 S1 _ k1 (f.step st1) q
  | false=>rw [if_neg Bool.false_ne_true] at q ⊢;exact hr.snd Wc hE H0 Z σ H1 S1 D k1 (f.step st1) q⟩
theorem wM {k j:Nat} {x:Str} {ps:List Str} {bad:List D->Addr->Prop} {e:Expr} {es:List Expr} {tr:TA} {vr:VTA} {p0 cpos:Pos} (T:d9 X Hin E) (F:nQ X.prog X.w X.K X.mg X.base k x ps bad) (hK:X.K=K) (hr:bV j X.A) (ha:VA K X false (e::es) tr vr)
  (hk:k<=j:=by decide) (hg:Gl X x:=by rfl) (hdb:(x==("__debug__":Str))=false:=by decide) (he:starEach (e::es) X.env=(false,eval e X.env)::starEach es X.env:=by rfl)
  (hpl:(backTo cpos (starEach es X.env)).any (·.1)=false:=by rfl) (hs:swapsWith (.Call (.Name x p0) (e::es) [] cpos) none pos.line X.env=pure false:=by rfl) :
  VXs K X Hin E (.Expr (.Call (.Name x p0) (e::es) [] cpos) pos::rest) (vq (qJ (iQ (spX K bad) [] (fun c _ H'=>(∀b,Hin b≠none->H' b=Hin b)/\E c none H') tr)) iM) (fun Wc S=>vr S fun rs S1=>∃ds C,gets S1 rs=some ds/\bad ds C/\Wc C):=by
 subst hK
 obtain ⟨f,fd,F,hm,kp,hb⟩:=F
 refine ⟨iL (ot (oD F (hr.mono hk) hg hm kp hb .nil (fun pins σ H s e s' I h=>T.next pins σ H s e s' I h) ha.pe hdb he hpl) hs) jH,fun Wc hE H0 Z σ H S D k f h=>?_⟩
 refine ha.snd H0 Z σ H S _ _ k h fun vs H1 rs S1 k1 st1 rrs zr1=>?_
 obtain ⟨ds,C,e,hb,hw⟩:=zr1
 have f1:=f.step st1
 refine ⟨ds,C,by rw [List.append_nil];exact rrs.gets k1 e,hb,fun H' g=>?_⟩
 have fr:∀b,Hin b≠none->H' b=Hin b:=fun b e=>by
  have q:=(f1 b e).1
  rw [<- q]
  exact g b (by rw [q];exact e)
 exact ⟨fr,hE C hw H' fr⟩
theorem yN {P:Program} {w:World} {mg:Str->Option Value} {base:Heap} {x:Str} {st:Stmt} {N ps:List Str} {k:Nat} {bad:List D->Addr->Prop} (S:Src K mg x st) (sc:aF N ps (ak st))
  (hb:∀(kV doc pm:Value) (an:Option Addr) (cdv ct:Value) (us:List Value),us.length=ps.length->bindArgs (PySem.W.fnOf x x (cC st) (bD st) (ak st) .none kV doc pm an cdv ct) ⟨us,[]⟩=pure (ps.zip us))
  (len:∀ds C,bad ds C->ds.length=ps.length)
  (hbody:∀(f:Addr) (cdv:Value) (A:Around) (outer:List Env) (s:Shared) (H:Hp) (E:XK),bV k (A.deeper (PyProof.Rows.envOfC x (ak st) s.heap.objs.size f cdv))->d9 (hZ (CX1 P w) P w K mg base N x (ak st) f cdv A outer s H E) H E ->
   ∃ts t,VXs K (hZ (CX1 P w) P w K mg base N x (ak st) f cdv A outer s H E) H E (bD st) ts t/\∀ds C,bad ds C->t (·=C) (slots N.length ds)):nQ P w K mg base (k+1) x ps bad:=by
 obtain ⟨f,fd,F,hm⟩:=S
 obtain ⟨oc,od,kV,doc,pm,an,cdv,ct,osl,rfl,lk,hcd⟩:=F.ex
 refine ⟨f,_,yg lk hcd sc (fun vs H Q E zq1=>by obtain ⟨ds,C,r,h,_⟩:=zq1;rw [r.length];exact len ds C h) fun A outer s H vs Q E hr ⟨ds,C,r,h,fin⟩=>?_,hm,F.kp,F.binds hb⟩
 obtain ⟨ts,t,vx,q⟩:=hbody f cdv A outer s H E hr qh
 refine ⟨ts,vx.ps,vx.snd (·=C) (fun C' e H' g=>by subst e;exact fin H' g) H _ _ H _ _ (mq (N:=N) r) (fun a e=>⟨rfl,?_⟩) (q ds C h)⟩
 rintro (⟨j,s,g1,g2,_⟩ | z)
 ·rw [cH g1] at g2;cases g2
 ·exact z
end
end VL
namespace VL
open PySem L2 PySem.W
section
variable {K:PySem.W.Frag} {H H0:Hp} {Z:AP} {σ:St} {S:List Sl} {i:Nat}
theorem OK.letGo (k:OK K H0 Z σ H S) (hi:i < S.length):OK K H0 Z (σ.set i none) H (S.set i .no)/\Step Z σ S H (σ.set i none) (S.set i .no) H:=by
 have n:∀a,NM Z σ S a->NM Z (σ.set i none) (S.set i .no) a:=fun a x z=>by
  rcases kG z with z | ⟨z,_⟩
  ·exact x z
  ·cases z
 exact ⟨k.put hi (fun a x _=>⟨n a x,rfl⟩) (fun _ _ _ _ _ _ _=>rfl) trivial (fun _ _ _ _ _ _ z=>nomatch z) (fun _ e=>e) k.zl (fun _ z=>nomatch z),fun a x _=>⟨rfl,n a x⟩,fun _ e=>e,fun _ _ _=>rfl⟩
theorem NP.letGo {a:Addr} (h:NP σ S a):NP (σ.set i none) (S.set i .no) a:=fun j ad ns g1 g2=>by
 by_cases hj:i=j
 ·subst hj
  by_cases hl:i < S.length
  ·rw [List.getElem?_set_self hl] at g1;cases g1
  ·rw [List.getElem?_eq_none (by simpa using hl)] at g1;cases g1
 ·rw [List.getElem?_set_ne hj] at g1 g2
  exact h j ad ns g1 g2
noncomputable def unV (V:bt) (i:Nat):bt:={ nx:=fun S=>i < S.length/\V.nx (S.set i .no),rt:=fun d S=>i < S.length/\V.rt d (S.set i .no),bk:=fun S=>i < S.length/\V.bk (S.set i .no),ct:=fun S=>i < S.length/\V.ct (S.set i .no) }
theorem Lf.letGo {V:bt} {E:Ends} (l:Lf K H0 Z σ S H V E):Lf K H0 Z σ S H (unV V i) (unE E i) where
 nx:=fun σ' H' S' k st zt1=>by obtain ⟨hi,q⟩:=zt1;exact l.nx _ _ _ (k.letGo hi).1 (st.trans (k.letGo hi).2) q
 bk:=fun σ' H' S' k st zt1=>by obtain ⟨hi,q⟩:=zt1;exact l.bk _ _ _ (k.letGo hi).1 (st.trans (k.letGo hi).2) q
 ct:=fun σ' H' S' k st zt1=>by obtain ⟨hi,q⟩:=zt1;exact l.ct _ _ _ (k.letGo hi).1 (st.trans (k.letGo hi).2) q
 rt:=fun v d σ' H' S' k st r zt1=>by obtain ⟨hi,q⟩:=zt1;exact l.rt v d _ _ _ (k.letGo hi).1 (st.trans (k.letGo hi).2) (r.mono (fun a n _=>⟨NP.letGo n,rfl⟩) fun _ x=>x) q
end
section
variable {K:PySem.W.Frag} {X:Cx} {k j i:Nat} {CB:Addr} {ps:List Str} {bad:List D->Addr->Prop} {e0:Expr} {es:List Expr} {tr:TA} {vr:VTA} {x cb en:Str} {b0:Stmt} {suite:List Stmt} {th:TS} {vh:VTS} {p pos pe np hp tp:Pos}
noncomputable def DQ (K:Frag) (CB:Addr) (bad:List D->Addr->Prop) (vr:VTA) (i:Nat) (vh:VTS):VTS:=fun V S=>vr S fun rs S1=>i < S1.length/\∃ds C,gets S1 rs=some ds/\bad ds C/\exmOne K (.ref C) (.ref CB)=some true/\vh (unV V i) (S1.set i (.val (.exc (.ref C))))
theorem A9 (F:nQ X.prog X.w X.K X.mg X.base k x ps bad) (hK:X.K=K) (hr:bV j X.A) (ha:VA K X false (e0::es) tr vr) (hcb:X.mg cb=some (.ref CB)) (hs:∀y,VSs K (X.caught y) (b0::suite) th vh) (hxe:∀e s,¬X.xe e s) (hex0:X.ex=[])
  (hst:X.stack=X.env::X.outer) (hfr:X.env.frame=some X.env.locals) (hN:X.N.Nodup) (hi:X.N[i]?=some en) (hloc:X.env.scope.names.lookup en=some .local) (hk:k<=j:=by decide)
  (hg:Gl X x:=by rfl) (hgc:Gl X cb:=by rfl) (hd:(x==("__debug__":Str))=false:=by decide) (hdc:(cb==("__debug__":Str))=false:=by decide) (he:starEach (e0::es) X.env=(false,eval e0 X.env)::starEach es X.env:=by rfl) (hpl:(backTo pos (starEach es X.env)).any (·.1)=false:=by rfl)
  (hsw:swapsWith (.Call (.Name x p) (e0::es) [] pos) none pe.line X.env=pure false:=by rfl) :
  VS K X (.Try [.Expr (.Call (.Name x p) (e0::es) [] pos) pe] [.ExceptHandler (some (.Name cb np)) (some en) (b0::suite) hp] [] [] tp) (DN K CB (spX K bad) tr i th) (DQ K CB bad vr i vh):=by
 subst hK
 obtain ⟨f,fd,F,hm,kp,hb⟩:=F
 refine ⟨A8 F (hr.mono hk) hm kp hb ha.pe hcb (fun y=>(hs y).ps) hxe hex0 hst hfr hN hi hloc hg hgc hd hdc he hpl hsw,fun H0 Z σ H S V D k t l=>?_⟩
 refine ha.snd H0 Z σ H S _ _ k t fun vs H1 rs S1 k1 st1 rrs ⟨hl,ds,C,e,hbd,hex,q⟩=>⟨ds,C,rrs.gets k1 e,hbd,fun H' g=>⟨C,rfl,hex,fun y o hy hc=>?_⟩⟩
 have g2:=aX (o:=.frz o (.own y)) hy
 have k2:=(k1.grow g).grow g2
 have st2:Step Z σ S H σ S1 (upd H' y (.frz o (.own y))):=(st1.trans (.grow g)).trans (.grow g2)
 obtain ⟨k3,st3⟩:=k2.setVal hl (Rep.exc (c:=.ref C) ((k1.grow g).nm hy) aH hc)
 exact (hs 0).snd H0 Z _ _ _ _ _ k3 q ((l.step (st2.trans st3)).letGo)
end
end VL
end
section
namespace VL
open PySem L2 PySem.W
section
variable {i:Nat} {va:VT} {vr:VTA} {S:List Sl} {Q:VR->List Sl->Prop} {q:D->Prop}
theorem nR {K:Frag} {c:Value} {C:Addr} {b:Bool} (e:S[i]?=some (.val (.exc (.ref C)))) (ok:dW K C=true) (hk:kitOne K (.ref C) c=some b) (h:Q (.d (.bl b)) S):yL K i c S Q:=⟨C,b,e,ok,hk,h⟩
theorem Ba {K:Frag} {cs:List Addr} {C:Addr} {b:Bool} (e:S[i]?=some (.val (.exc (.ref C)))) (ok:dW K C=true) (hk:kitAny K (.ref C) (cs.map Value.ref)=some b) (h:Q (.d (.bl b)) S):yM K i cs S Q:=⟨C,b,e,ok,hk,h⟩
end
end VL
namespace VL
open PySem L2 PySem.W
section
variable {K:PySem.W.Frag} {X:Cx} {a b:Expr} {ta tb:TE} {pos:Pos}
noncomputable def yO (t u:VTN):VTN:=fun S Q=>t S fun ds S1=>u S1 fun es S2=>ds.length+es.length<=1000000/\Q (ds++es) S2
theorem oZ {t u:VTN} (h1:VN K X a ta t) (h2:VN K X b tb u):VN K X (.BinOp a .Add b pos) (tOp zU ta tb) (yO t u):=⟨ow qU h1.pe h2.pe,fun H0 Z σ H S Q C k t hc=>
 h1.snd H0 Z σ H S _ _ k t fun c us ds H1 H1' S1 k1 st1 ha1 hg1 hl1 rr1 t1=>h2.snd H0 Z σ H1' S1 _ _ (k1.grow hg1) t1 fun a' vs es H2 H' S2 k2 st2 ha hg hl rr zq1=>by
  obtain ⟨hlen,q⟩:=zq1
  obtain ⟨ec,nc2⟩:=st2.1 c (k1.nm ha1) (by simp [hl1])
  have ec':H' c=some (.lst us):=by rw [hg c (by rw [ec,hl1];simp),ec,hl1]
  have r1:Reps K (NM Z σ S2) (Fr H0) H' us ds:=((rr1.mono (N':=NM Z σ S1) (fun b n e=>⟨n.1,rfl⟩) (fun _ x=>x)).step st2).mono (fun b n e=>⟨n,hg b e⟩) fun _ x=>x
  refine ⟨c,a',us,vs,rfl,rfl,ec',hl,by rw [rr1.length,rr.length,sizeLine_eq];lia,fun p hp=>?_⟩
  refine hc p _ _ H' _ S2 (k2.grow hg) ((st1.trans (.grow hg1)).trans (st2.trans (.grow hg))) hp (aX hp) aH (Reps.append ?_ ?_) q
  ·exact bY hp (r1.mono (fun _ n _=>⟨n,rfl⟩) fun _ x _=>x)
  ·exact bY hp (rr.mono (fun _ n _=>⟨n.1,rfl⟩) fun _ x _=>x)⟩
@[irreducible] noncomputable def kD1 (u:VTN) (Q:List D->List Sl->Prop):List D->List Sl->Prop:=fun ds S1=>u S1 fun es S2=>ds.length+es.length<=1000000/\Q (ds++es) S2
@[irreducible] noncomputable def kD2 (ds:List D) (Q:List D->List Sl->Prop):List D->List Sl->Prop:=fun es S2=>ds.length+es.length<=1000000/\Q (ds++es) S2
theorem Bb {t u:VTN} {Q:List D->List Sl->Prop} (h:t S (kD1 u Q)):yO t u S Q:=by unfold kD1 at h;exact h
theorem DR {u:VTN} {Q:List D->List Sl->Prop} (h:u S (kD2 ds Q)):kD1 u Q ds S:=by unfold kD1;unfold kD2 at h;exact h
theorem yP {ds es:List D} {Q:List D->List Sl->Prop} (hl:ds.length+es.length<=1000000) (h:Q (ds++es) S):kD2 ds Q es S:=by unfold kD2;exact ⟨hl,h⟩
end
end VL
end
section
namespace L2
open PySem PySem.Spec PyProof.Rows PySem.W
section
variable {X:Cx}
noncomputable def sQ (K:PySem.W.Frag) (n:Int):R2:=fun x y H Q=>∃b a ms es i,y=.ref b/\x=.ref a/\SqN K H b ms/\(∃ob,H a=some (bF a ob es))/\b6 K H es/\(atE es ms).getD (.int n)=.int i/\Q (.int i) H
noncomputable def yQ (K:PySem.W.Frag) (n:Int) (to ti:TE):TE:=fun σ H Q=>to σ H fun x H1=>(∃a es ob,x=.ref a/\H1 a=some (bF a ob es))/\ti σ H1 fun y H2=>sQ K n x y H2 Q
theorem qk {s:Shared} {x y:V} {v u:Value} {n:Int} {t:Tok} {Q:VK} (hu:X.A.units+64 < cLine) (I:Inv X pins σ H s) (rx:RelV x v) (ry:RelV y u) (h:sQ X.K n x y H Q) :
  wpAny (model X.prog X.w) X.A (call (.builtin "dict.get") [v,u,.int n t]) (EP X pins σ Q) X.xe s:=by
 obtain ⟨b,a,ms,es,i,rfl,rfl,h1,⟨ob,h2⟩,h3,hi,q⟩:=h
 cases rx;cases ry
 obtain ⟨z,m,nd,xs,ev,dd⟩:=fS I h2 h3
 refine call_meetsIn F.slot_dict_get dd.typeIs F.entry_dict_get (F.args_dict_get_3 _ _ _) (meetsH_dict_get_default (tupleKind (KT.numKind X.prog X.w)) a b m (.int n t)) ⟨tupleKind_room_in1 (by lia),ms,xs,di I h1,dd,?_⟩
 have r:=ev.at_ ms
 refine ⟨.int i,H,I.tok _,?_,q⟩
 cases h4:atE es ms with
 | none=>
  rw [h4] at r hi
  cases h5:(atKey xs ms).map (·.2) with
  | none=>cases hi;exact ⟨t,rfl⟩
  | some w=>rw [h5] at r;exact r.elim
 | some w=>
  rw [h4] at r hi
  cases h5:(atKey xs ms).map (·.2) with
  | none=>rw [h5] at r;exact r.elim
  | some w'=>rw [h5] at r;cases (show w=.int i from hi);exact r
noncomputable def two (K:PySem.W.Frag) (x:V) (Q:VK):List V->Hp->Prop
 | [y,.int k],H=>sQ K k x y H Q
 | _,_=>False
theorem wN {o ie:Expr} {to ti:TE} {n:Int} {j:Nat} {pc apos cpos:Pos} (hu:X.A.units+64 < cLine) (ho:PE X o to) (hi:PE X ie ti) (hbase:attributeBase o "get" X.env (eval o X.env)=eval o X.env:=by rfl)
  (hfew:((backTo cpos (starEach [ie,.Constant (.int n) j pc] X.env)).all (fun x=>!x.1)&&(backToKw cpos (keywordEach [] X.env)).all (fun x=>x.1.isSome)
   && decide (([ie,.Constant (.int n) j pc]:List Expr).length+([]:List Keyword).length+(if ([]:List Keyword).isEmpty then 0 else 1) < 30))=true:=by rfl)
  (hline:(apos.endLine==cpos.line)=true:=by rfl) (hs:starEach [ie,.Constant (.int n) j pc] X.env=(false,eval ie X.env)::starEach [.Constant (.int n) j pc] X.env:=by rfl) (hplain:(backTo cpos (starEach [.Constant (.int n) j pc] X.env)).any (·.1)=false:=by rfl) :
  PE X (.Call (.Attribute o "get" apos) [ie,.Constant (.int n) j pc] [] cpos) (yQ X.K n to ti):=by
 intro pins s σ H Q I h
 refine wpAny_Call_method_late hbase hfew hline rfl (thn (ho pins s σ H _ I h) fun v s1 zr1=>?_)
 obtain ⟨x,H1,I1,r1,⟨a,es,ob,hx,ha⟩,q1⟩:=zr1
 subst hx
 cases r1
 obtain ⟨_,_,_,_,_,ob,_,_,z1,z2,_⟩:=fG I1 ha
 refine ⟨"dict","dict.get",PySem.F.plainAttrs_dict,PySem.F.slot_dict_get,PySem.F.type_dict_get,⟨_,z1,z2.1⟩,fun b e=>by cases e;exact ⟨_,z1,z2.2.1⟩,?_⟩
 have hA:=bW hi (bW (gm (i:=n)) fc rfl) hs cpos pins s1 σ H1 (two X.K (.ref a) Q) I1 q1
 rw [hs] at hA ⊢
 refine Calls.callWith_builtin (by show (false||(backTo cpos (starEach [.Constant (.int n) j pc] X.env)).any (·.1))=false;rw [hplain] <;> rfl) (Calls.evalArgs_plain ?_)
 refine thn hA fun us s2 zr1=>?_
 obtain ⟨vs,H2,I2,r2,q2⟩:=zr1
 match vs,r2,q2 with
 | [y,.int k],r2,q2=>
  obtain ⟨u,w,rfl,ru,t,rfl⟩:=r2.two
  exact qk hu I2 (show RelV (.ref a) (.ref a) from rfl) ru q2
end
section
variable {X:Cx}
theorem DctP.at {D:Addr} {h h':Heap} (d:DctP D es h) (e:h'.get? D=h.get? D):DctP D es h':=
 let ⟨z,m,nd,xs,ev,o,ds,ep,q,r⟩:=d;⟨z,m,nd,xs,ev,o,ds,ep,e.trans q,r⟩
theorem DctP.nocell {D:Addr} {h:Heap} {o:Obj} (d:DctP D es h) (e:h.get? D=some o):∀v,o.data≠.cell v:=fun v z=>by
 obtain ⟨_,_,_,_,_,o',ds,ep,q,_,hd,_⟩:=d
 rw [e] at q;cases q
 rw [hd] at z;cases z
theorem wO {D:Addr} {h:Heap} (e:h.get? D=some { cls:=.type "dict",data:=.dict #[] }) (hb:sysModules < D):DctP D [] h:=
 ⟨Nat.zero_le _,beq_eq_false_iff_ne.mpr (Ne.symm (Nat.ne_of_lt hb)),List.nodup_nil,[],.nil,_,#[],0,e,⟨rfl,rfl,rfl⟩,rfl,rfl⟩
theorem wQ {s:Shared} {a:Addr} (I:Inv X pins σ H s) (d:DctP a es s.heap) (k:b6 X.K H es):es.length<=sizeLine/\(a==sysModules)=false/\(es.map (·.1)).Nodup /\
  ∃xs,EV es xs/\s.heap.DictOfH (tupleKind (KT.numKind X.prog X.w)) a xs:=by
 obtain ⟨z,m,nd,xs,ev,o,ds,ep,h1,h2,h3,h4⟩:=d
 refine ⟨z,m,nd,xs,ev,o,ds,ep,h1,h2,h3,h4,fun x hx=>?_,ev.keys▸nd⟩
 obtain ⟨e,he,e1,e2⟩:=ev.mem x hx
 exact e1▸e2▸di I (k e he)
noncomputable def sR (K:PySem.W.Frag) (wi:TI) (n:Nat) (ix:List Nat) (g:TG) (tc:TT) (tk tv:TE):TE:=fun σ H Q=>wi σ H fun J H1=>∃W:Nat->Nat->List (List Int×Addr×V)->Hp->Prop,(∃m,W 0 m [] H1)/\∀i m es H2,W i m es H2 ->
 (J.stop i H2/\∀D ob,H2 D=none->Q (.ref D) (upd H2 D (bF D ob es))) \/
 (J.go i H2/\es.length < sizeLine/\∃Nx:List (List Int×Addr×V)->Hp->Prop,(∀es' H',Nx es' H'->∃m',m' < m/\W (i+1) m' es' H') /\
  ∀x H3,J.yld i H2 x H3->g x (capt n ix σ) H3 fun σ2 H4=>tc σ2 H4 fun b H5=>if b=true then tk σ2 H5 fun y H6=>tv σ2 H6 fun v H7=>∃b ms,y=.ref b/\SqN K H7 b ms/\b6 K H7 es/\Nx (fu es ms b v) H7 else Nx es H5)
theorem sS {kx vx target iter:Expr} {ifs:List Expr} {scope:Scope} {pos:Pos} {tg cs:List Str} {wi:TI} {g:TG} {tc:TT} {tk tv:TE} (hu:X.A.units+64 < cLine) (S:bB X scope tg cs ix) (hcalm:X.calm=true) (kg:cT tg.length ix g)
    (hi:PI X target iter wi) (hg:∀C fp s H,PG (aE X scope (tg++cs) C fp s H) target g) (hc:∀C fp s H,PTs (aE X scope (tg++cs) C fp s H) ifs tc) (hk:∀C fp s H,PE (aE X scope (tg++cs) C fp s H) kx tk) (hv:∀C fp s H,PE (aE X scope (tg++cs) C fp s H) vx tv)
    (hs:∀x,foldedSetIterable iter X.env x=pure x:=by intro _;rfl):PE X (.DictComp kx vx [⟨target,iter,ifs,0⟩] scope pos) (sR X.K wi tg.length ix g tc tk tv):=by
  intro pins s σ H Q I h
  rw [arm_eval_DictComp]
  refine wpAny_comprehension_free (use:=none) (cl:=cO X.env scope.names []) rfl hs (iS fun n hn=>I.ok.has n (S.out n hn)) S.kind S.names ?_
  refine wpAny_mono (hi pins s σ H _ I h) (fun v s1 h1=>wpAny_mono h1 (fun itv s2 h2=>?_) fun _ _ e=>e) fun _ _ e=>e
  obtain ⟨it,fp,tn,J,H2,rfl,I2,T,st2,f2,W,⟨m0,w0⟩,turn⟩:=h2
  refine wpAny_newObj_type (wpAny_newFunctionEnv S.nocell (by intro y hy;simp at hy) (fun h1 hns1 hsb1=>?_) S.kind)
  dsimp only at hns1 hsb1 ⊢
  generalize hP:s2.heap.push { cls:=.type "dict",dict:=none,data:=.dict #[] }=P2 at hns1 hsb1 ⊢
  have hCs:P2.objs.size=s2.heap.objs.size+1:=by rw [<- hP,Heap.size_push]
  have hDC:s2.heap.objs.size≠P2.objs.size:=by rw [hCs];exact Nat.ne_of_lt (Nat.lt_succ_self _)
  have hCle:s2.heap.objs.size<=P2.objs.size:=by rw [hCs];exact Nat.le_succ _
  generalize hCg:P2.objs.size=C at *
  have old:∀b o,s2.heap.get? b=some o->h1.get? b=some o:=fun b o e=>hsb1.extBut b o (Nat.ne_of_lt (Nat.lt_of_lt_of_le (Heap.lt_size e) hCle)) (Heap.get?_push_of_some _ (hP▸Heap.get?_push_of_some _ e))
  generalize hDg:s2.heap.objs.size=D at *
  have hD0:h1.get? D=some { cls:=.type "dict",data:=.dict #[] }:=hsb1.extBut _ _ hDC (Heap.get?_push_of_some _ (hP▸hDg▸Heap.get?_push_size _ rfl))
  have nC:H2 C=none:=I2.hok.fresh (by rw [hDg];exact hCle)
  have nD:H2 D=none:=I2.hok.fresh (by rw [hDg];exact Nat.le_refl _)
  have fo:∀b∈fp,∃o,s2.heap.get? b=some o:=fun b hb=>let ⟨o,e,_⟩:=T.obj _ _ st2 b hb;⟨o,e⟩
  have Dfp:D∉fp:=fun z=>by
    obtain ⟨o,e⟩:=fo D z
    have:=Heap.lt_size e
    rw [hDg] at this
    exact absurd this (Nat.lt_irrefl _)
  have Dfs:D∉frs X.stack:=fun z=>by
    rcases List.mem_cons.mp (I2.stkSub D z) with e | e
    · have:=I2.lt
      rw [<- e,hDg] at this
      exact absurd this (Nat.lt_irrefl _)
    · exact I2.nofs (by rw [hDg];exact Nat.le_refl _) e
  have DcY:∀x c,(cO X.env scope.names []).lookup x=some c->c≠D:=fun x c e=>by
    rcases fH (PySem.mem_of_lookup e) with h | h
    · cases h
    · exact (I2.fpOk (H':=H2) (b:=D) (by rw [hDg];exact Nat.le_refl _) nD).2.2.2.2.1 x c h
  -- the block's context
  have Yok:∀s4:Shared,s4={ s2 with heap:=h1,toks:=s2.toks+([]:List (Str×Value)).length }->Inv (aE X scope (tg++cs) C fp s2 H2) [] (capt tg.length ix σ) H2 s4:=by
    rintro s4 rfl
    exact lT S I2 f2 fo (by rw [hDg];exact hCle) old (by simpa using hns1) rfl I2.bare nC
  -- the loop
  have loop:∀s4:Shared,s4={ s2 with heap:=h1,toks:=s2.toks+([]:List (Str×Value)).length } ->
      codeAny (model X.prog X.w) X.A (.compLoop (.DictComp kx vx [⟨target,iter,ifs,0⟩] scope pos) 0 (.ref it) (.ref D) (compEnvC scope (cO X.env scope.names []) C X.env)) (compPost (model X.prog X.w) X.A X.xe none (EP X pins σ Q) (.ref D) C) s4:=by
    intro s4 e4
    refine codeAny_loop rfl (fun n s'=>∃i es o H',Inv (aE X scope (tg++cs) C fp s2 H2) [] (capt tg.length ix σ) H' s'/\tn i s'.heap/\(∀b∈fp,H' b=none)/\H' D=none/\s'.heap.get? D=some o/\DctP D es s'.heap/\W i n es H')
      ?_ m0 ⟨0,[],_,H2,Yok s4 e4,?_,fun b hb=>(f2 b hb).1,nD,by rw [e4];exact hD0,wO (by rw [e4];exact hD0) (by rw [<- hDg];exact kR I2),w0⟩
    · rintro n s5 ⟨i,es,o,H5,I5,st5,fr5,d5,o5,v5,w5⟩
      show wpAny _ X.A ((compTurn (.DictComp kx vx [⟨target,iter,ifs,0⟩] scope pos) 0 (.ref it) (.ref D) (compEnvC scope (cO X.env scope.names []) C X.env)).onRaise (fun x=>do noteFrame x (compEnvC scope (cO X.env scope.names []) C X.env);theTreesLotGoes x)) _ _ s5
      refine wpAny_noted ?_
      rw [compTurn_dict]
      have pin0:Inv (aE X scope (tg++cs) C fp s2 H2) [(D,o)] (capt tg.length ix σ) H5 s5:=I5.pins_of fun p hp=>by
        have e:p=(D,o):=by simpa using hp
        subst e
        exact ⟨o5,d5,hDC,Dfs,v5.nocell o5⟩
      have fpY:∀{H':Hp},(∀b∈fp,H' b=none)->∀b∈fp,jC (aE X scope (tg++cs) C fp s2 H2) [(D,o)] H' b:=fun hn b hb=>
        ⟨hn b hb,(I5.ok.exf b hb).1,fun z=>I5.ok.exfs b hb z,.inl hb,(I5.ok.exf b hb).2,fun p hp z=>by
          have hp:p∈([]:List (Addr×Obj))++[(D,o)]:=hp
          have e:p=(D,o):=by simpa using hp
          subst e
          have z:D=b:=z
          exact Dfp (z▸hb)⟩
      refine wpAny_bind (wpAny_standAt (wpAny_bind ?_))
      rcases turn i n es H5 w5 with ⟨stop,qn⟩ | ⟨go,hz,Nx,hN,step⟩
      · refine thn (T.done (aE X scope (tg++cs) C fp s2 H2) rfl rfl rfl hcalm i _ s5 _ H5 _ pin0 (fpY fr5) st5 stop) fun r s6 zr1=>?_
        obtain ⟨hr,I6⟩:=zr1
        subst hr
        refine wpAny_pure ?_
        obtain ⟨mC,hnsC,_⟩:=id I6.loc
        refine ⟨mC,hnsC,fun h' sb=>?_⟩
        have IX:Inv X pins σ H5 s6:=I2.call' (ch:=fp) I6.os I6.base I6.hok I6.bare fun b hb=>let ⟨_,a1,_,a3,a4,a5⟩:=f2 b hb;⟨a3,a1,a4,a5⟩
        obtain ⟨_,c1,_,c3,c4,c5⟩:=I2.fpOk (H':=H5) (b:=C) (by rw [hDg];exact hCle) I6.free
        have IX2:Inv X pins σ H5 { s6 with heap:=h' }:=IX.turned (t':=s6.toks) (fun b o hb e=>(sb.2 b hb).trans e) I6.free c1 c3 c4 c5
        obtain ⟨_,b1,_,b3,b4,b5⟩:=I2.fpOk (H':=H5) (b:=D) (by rw [hDg];exact Nat.le_refl _) d5
        have gD:h'.get? D=some o:=(sb.2 D hDC).trans (I6.pin (D,o) (List.mem_append_right _ List.mem_cons_self)).1
        exact ⟨.ref D,upd H5 D (bF D o es),IX2.track d5 (by rw [<- hDg];exact I2.sz) b1 b4 b5 ((v5.at (gD.trans o5.symm)).ok gD),rfl,qn D o d5⟩
      · refine thn (T.item (aE X scope (tg++cs) C fp s2 H2) rfl rfl rfl hcalm i _ s5 _ H5 _ pin0 (fpY fr5) st5 go) fun r s6 zr1=>?_
        obtain ⟨u,hr,h6⟩:=zr1
        subst hr
        refine wpAny_bind (thn h6 fun _ s7 zr1=>?_)
        obtain ⟨x,H7,I7,r7,y7,st7,fr7⟩:=zr1
        have I7':=I7.pinned (fpY fr7) (T.obj _ _ st7)
        -- the next turn
        have again:∀{σ2:St} {H8:Hp} {s8:Shared} {es':List (List Int×Addr×V)} {o':Obj},Inv (aE X scope (tg++cs) C fp s2 H2) [] σ2 H8 s8->(σ2.length=(capt tg.length ix σ).length/\∀(i:Nat) (v:V),(capt tg.length ix σ)[i]?=some (some v)->σ2[i]?=some (some v)) ->
            (∀b∈fp,∀o,s7.heap.get? b=some o->s8.heap.get? b=some o)->(∀b∈fp,H8 b=none)->H8 D=none->s8.heap.get? D=some o'->DctP D es' s8.heap->Nx es' H8 ->
            ∃m,m < n/\∃i es o H',Inv (aE X scope (tg++cs) C fp s2 H2) [] (capt tg.length ix σ) H' s8/\tn i s8.heap/\(∀b∈fp,H' b=none)/\H' D=none/\s8.heap.get? D=some o/\DctP D es s8.heap/\W i m es H':=by
          intro σ2 H8 s8 es' o' I8 kp fk fn dn dg vv nx
          obtain ⟨m',hm,w8⟩:=hN es' H8 nx
          exact ⟨m',hm,i+1,es',o',H8,I8.weak kp.1.symm kp.2,T.keep _ _ _ st7 fk,fn,dn,dg,vv,w8⟩
        refine wpAny_bind (wpAny_mono (hg C fp s2 H2 _ s7 _ H7 x u _ I7' r7 (kg x σ H7 _ (step x H7 y7))) (fun _ s8 zr1=>?_) fun _ _ z=>z.elim)
        obtain ⟨σ8,H8,I8,kp8,q8⟩:=zr1
        refine wpAny_bind (wpAny_mono (hc C fp s2 H2 _ s8 σ8 H8 _ I8 q8) (fun ok s9 zr1=>?_) fun _ _ z=>z.elim)
        obtain ⟨H9,I9,q9⟩:=zr1
        have pinsOf:∀{σ':St} {H':Hp} {s':Shared},Inv (aE X scope (tg++cs) C fp s2 H2) ([(D,o)]++gq fp s7.heap) σ' H' s' ->
            (∀b∈fp,∀o,s7.heap.get? b=some o->s'.heap.get? b=some o)/\(∀b∈fp,H' b=none)/\H' D=none/\s'.heap.get? D=some o:=by
          intro σ' H' s' I'
          refine ⟨fun b hb o e=>(I'.pin (b,o) (List.mem_append_right _ (List.mem_append_right _ (cq hb e)))).1,fun b hb=>?_,(I'.pin (D,o) (List.mem_append_right _ (List.mem_append_left _ List.mem_cons_self))).2.1,(I'.pin (D,o) (List.mem_append_right _ (List.mem_append_left _ List.mem_cons_self))).1⟩
          obtain ⟨o,e,d⟩:=T.obj _ _ st7 b hb
          exact (I'.pin (b,o) (List.mem_append_right _ (List.mem_append_right _ (cq hb e)))).2.1
        cases ok with
        | false=>
          obtain ⟨p1,p2,p3,p4⟩:=pinsOf I9
          exact wpAny_pure ⟨rfl,again (I9.pins_of fun p hp=>nomatch hp) kp8 p1 p2 p3 p4 (v5.at (p4.trans o5.symm)) q9⟩
        | true=>
          have q9:tk σ8 H9 fun y H6=>tv σ8 H6 fun v H7=>∃b ms,y=.ref b/\SqN X.K H7 b ms/\b6 X.K H7 es/\Nx (fu es ms b v) H7:=q9
          refine wpAny_bind (wpAny_bind (wpAny_mono (hk C fp s2 H2 _ s9 σ8 H9 _ I9 q9) (fun kv s10 zr1=>?_) fun _ _ z=>z.elim))
          obtain ⟨y,H10,I10,ry,q10⟩:=zr1
          refine wpAny_bind (wpAny_holding (wpAny_mono (hv C fp s2 H2 _ s10 σ8 H10 _ I10 q10) (fun vv s11 zr1=>?_) fun _ _ z=>z.elim))
          obtain ⟨v,H11,I11,rv,b,ms,ey,sq,ka,nx⟩:=zr1
          subst ey
          cases ry
          obtain ⟨p1,p2,p3,p4⟩:=pinsOf I11
          have P11:DctP D es s11.heap:=v5.at (p4.trans o5.symm)
          obtain ⟨z,m,nd,xs,ev,dd⟩:=wQ I11 P11 ka
          refine wpAny_bind (wpAny_standAt (wpAny_holding (wpAny_dictSet_heap (hsz:=by rw [<- Paired.length ev];exact z) (show (tupleKind (KT.numKind X.prog X.w)).room X.A from by show X.A.units < cLine;lia) (di (X:=aE X scope (tg++cs) C fp s2 H2) I11 sq) dd fun h' dd' hs'=>?_)))
          have I12:Inv (aE X scope (tg++cs) C fp s2 H2) [] σ8 H11 s11:=I11.pins_of fun p hp=>nomatch hp
          have I13:Inv (aE X scope (tg++cs) C fp s2 H2) [] σ8 H11 { s11 with heap:=h',toks:=s11.toks+(tupleKind (KT.numKind X.prog X.w)).draws ms }:=
            I12.turned (fun b o hb e=>(hs'.2 b hb).trans e) p3 hDC (.inr (by show s2.heap.objs.size<=D;rw [hDg];exact Nat.le_refl _)) DcY (fun p hp=>nomatch hp)
          obtain ⟨qo,qd,qe,h1q,h2q,h3q,h4q,_,h5q⟩:=dd'
          refine wpAny_pure ⟨rfl,again I13 kp8 (fun b hb o e=>(hs'.2 b (fun z:b=D=>Dfp (z▸hb))).trans (p1 b hb o e)) p2 p3 h1q ⟨?_,m,?_,_,ev.put ms rv,qo,qd,qe,h1q,h2q,h3q,h4q⟩ nx⟩
          · have:=jb es ms b v;lia
          · rw [(ev.put ms rv).keys];exact h5q
    · rw [e4];exact T.keep _ _ _ st2 fun b _ o e=>old b o e
  exact codeAny_compStart_dict (loop _ rfl) (T.self _ 0 _ _ _ (T.keep _ _ _ st2 fun b _ o e=>old b o e) (loop _ rfl))
end
end L2
namespace VL
open PySem L2 PySem.W
section
variable {X:Cx} {K:PySem.W.Frag} {m:Bool} {e:Expr} {te:TE} {va:VT} {pos:Pos}
theorem fW {N:AP} {k:List Int}:∀{es:List (List Int×Addr×V)} {kvs:List (List Int×D)},es.map (·.1)=kvs.map (·.1)->Reps K N F H (es.map (·.2.2)) (kvs.map (·.2)) ->
  (atE es k=none/\dC kvs k=none)\/∃v d,atE es k=some v/\dC kvs k=some d/\Rep K N F H v d
 | [],[],_,_=>.inl ⟨rfl,rfl⟩
 | [],_::_,h,_=>by cases h
 | _::_,[],h,_=>by cases h
 | e::es,p::ps,h,.cons r t=>by
  have h1:e.1=p.1:=(List.cons.inj h).1
  by_cases z:p.1=k
  ·exact .inr ⟨e.2.2,p.2,by simp [atE,h1,z],by simp [dC,z],r⟩
  ·rcases fW (k:=k) (List.cons.inj h).2 t with ⟨a,b⟩ | ⟨v,d,a,b,r⟩
   ·exact .inl ⟨by simpa [atE,List.find?_cons,h1,z] using a,by simpa [dC,List.find?_cons,z] using b⟩
   ·exact .inr ⟨v,d,by simpa [atE,List.find?_cons,h1,z] using a,by simpa [dC,List.find?_cons,z] using b,r⟩
noncomputable def yR (n:Int) (va vb:VT):VT:=fun S Q=>va S fun ra S1=>(∃kvs,get S1 ra=some (dc kvs))/\vb S1 fun rb S2=>∃kvs ms i,get S2 ra=some (dc kvs)/\get S2 rb=some (kT ms)/\(dC kvs ms).getD (.int n)=.int i/\Q (.d (.int i)) S2
theorem kW {o ie:Expr} {to ti:TE} {vo vi:VT} {n:Int} {j:Nat} {pc apos:Pos} (hK:X.K=K) (hu:X.A.units+64 < cLine) (ho:VE K X false o to vo) (hi:VE K X false ie ti vi) (hbase:attributeBase o "get" X.env (eval o X.env)=eval o X.env:=by rfl)
  (hfew:((backTo pos (starEach [ie,.Constant (.int n) j pc] X.env)).all (fun x=>!x.1)&&(backToKw pos (keywordEach [] X.env)).all (fun x=>x.1.isSome)
   && decide (([ie,.Constant (.int n) j pc]:List Expr).length+([]:List Keyword).length+(if ([]:List Keyword).isEmpty then 0 else 1) < 30))=true:=by rfl)
  (hline:(apos.endLine==pos.line)=true:=by rfl) (hs:starEach [ie,.Constant (.int n) j pc] X.env=(false,eval ie X.env)::starEach [.Constant (.int n) j pc] X.env:=by rfl) (hplain:(backTo pos (starEach [.Constant (.int n) j pc] X.env)).any (·.1)=false:=by rfl) :
  VE K X m (.Call (.Attribute o "get" apos) [ie,.Constant (.int n) j pc] [] pos) (yQ K n to ti) (yR n vo vi):=
 ⟨by subst hK;exact wN hu ho.pe hi.pe hbase hfew hline hs hplain,fun H0 Z σ H S Q C k t hc=>by
  refine ho.snd H0 Z σ H S _ _ k t fun x H1 ra S1 k1 st1 r1 zr1=>?_
  obtain ⟨⟨kvs0,e0⟩,t1⟩:=zr1
  obtain ⟨a,es0,rfl,_,_,⟨ob0,ha⟩,_⟩:=Rep.dct (show Rep K _ _ H1 x (.dic _ _) from r1.get k1 e0)
  refine ⟨⟨a,es0,ob0,rfl,ha⟩,?_⟩
  refine hi.snd H0 Z σ H1 S1 _ _ k1 t1 fun y H2 rb S2 k2 st2 r2 zr1=>?_
  obtain ⟨kvs,ms,i,e1,e2,ei,q⟩:=zr1
  obtain ⟨b,vs,rfl,hq,rr⟩:=Rep.sqT (show Rep K _ _ H2 y (.tup (ms.map D.int)) from r2.get k2 e2)
  cases Reps.toInts rr
  obtain ⟨a',es,ea,_,_,ha',ek,hk,_,rv⟩:=Rep.dct (show Rep K _ _ H2 (.ref a) (.dic _ _) from (r1.step st2).get k2 e1)
  cases ea
  refine ⟨b,a,ms,es,i,rfl,rfl,SqN.of hq,ha',hk,?_,hc _ H2 (.d (.int i)) S2 k2 (st1.trans st2) (Rep.int i) q⟩
  rcases fW (k:=ms) ek rv with ⟨z1,z2⟩ | ⟨v,d,z1,z2,r⟩
  ·rw [z2] at ei;rw [z1];cases ei;rfl
  ·rw [z2] at ei;rw [z1]
   cases (show d=.int i from ei)
   cases r
   rfl⟩
end
section
variable {K:PySem.W.Frag} {X:Cx} {kx vx iter:Expr} {pos:Pos}
theorem sT {H0 H:Hp} {y:V} {ri:VR} {m:Bool} (rr:d0 K (FM H0 m) Z σ S H y ri) (ek:get S ri=some (kT ms)):∃b,y=.ref b/\SqT K H b (ms.map L2.V.int)/\Rep K (NM Z σ S) AnyF H (.ref b) (kT ms):=by
 cases ri with
 | d z=>
  cases ek
  obtain ⟨b,vs,rfl,hq,r2⟩:=Rep.sqT (show Rep K _ _ H y (.tup (ms.map D.int)) from rr)
  cases Reps.toInts r2
  exact ⟨b,rfl,hq,Rep.mono (fun _ n _=>⟨n,rfl⟩) (fun _ _=>trivial) rr⟩
 | own j=>
  have ek:getO S[j]?=some (kT ms):=ek
  cases e:S[j]? with
  | none=>rw [e] at ek;cases ek
  | some s=>rw [e] at ek;cases s <;> cases ek
noncomputable def sU (vi:VTN) (n:Nat) (ix:List Nat) (vg:VG) (vt:VTT) (vk vv:VT):VTD:=fun S Q=>vi S fun ds S1=>ds.length<=1000000/\∃Iv:Nat->List (List Int×D)->List Sl->Prop,Iv 0 [] S1 /\
 (∀i d kvs S2,ds[i]?=some d->Iv i kvs S2->vg d (bA n ix S2) fun S3=>vt S3 fun b S4=>if b=true then vk S4 fun rk S5=>vv S5 fun rv S6=>∃ms x,get S6 rk=some (kT ms)/\rv=.d x/\Iv (i+1) (b7 kvs ms x) (backS n ix S2 S6) else Iv (i+1) kvs (backS n ix S2 S4)) /\
 ∀kvs S2,Iv ds.length kvs S2->Q kvs S2
theorem wR {ifs:List Expr} {scope:Scope} {tg cs:List Str} {target:Expr} {wi:TI} {vi:VTN} {g:TG} {vg:VG} {tc:TT} {vt:VTT} {tk tv:TE} {vk vv:VT} (hK:X.K=K) (hu:X.A.units+64 < cLine) (Sc:bB X scope tg cs ix) (hcalm:X.calm=true) (kg:cT tg.length ix g) (hnd:ix.Nodup)
    (hi:VI K X target iter wi vi) (hg:∀C fp s H,VGe K (aE X scope (tg++cs) C fp s H) target g vg) (hc:∀C fp s H,VTs K (aE X scope (tg++cs) C fp s H) ifs tc vt) (hk:∀C fp s H,VE K (aE X scope (tg++cs) C fp s H) false kx tk vk) (hv:∀C fp s H,VE K (aE X scope (tg++cs) C fp s H) true vx tv vv)
    (hs:∀x,foldedSetIterable iter X.env x=pure x:=by intro _;rfl):VDe K X (.DictComp kx vx [⟨target,iter,ifs,0⟩] scope pos) (sR K wi tg.length ix g tc tk tv) (sU vi tg.length ix vg vt vk vv):=by
  have sg:SndG K g vg:=(hg 0 [] X.s₀ (fun _=>none)).snd
  have sc:SndT K tc vt:=(hc 0 [] X.s₀ (fun _=>none)).snd
  have sk:SndE K false tk vk:=(hk 0 [] X.s₀ (fun _=>none)).snd
  have sv:SndE K true tv vv:=(hv 0 [] X.s₀ (fun _=>none)).snd
  refine ⟨by subst hK;exact sS hu Sc hcalm kg hi.pi (fun C fp s H=>(hg C fp s H).pg) (fun C fp s H=>(hc C fp s H).pe) (fun C fp s H=>(hk C fp s H).pe) (fun C fp s H=>(hv C fp s H).pe) hs,fun H0 Z σ H S Q C k t hq=>?_⟩
  refine hi.snd H0 Z σ H S _ _ k t fun J ds H1 S1 k1 st1 gd zr1=>?_
  obtain ⟨hl,Iv,i0,hs,hd⟩:=zr1
  refine ⟨fun i m es H=>m=ds.length-i/\i<=ds.length/\es.length<=i/\∃S2 kvs,OK K H0 Z σ H S2/\Step Z σ S1 H1 σ S2 H/\es.map (·.1)=kvs.map (·.1)/\Reps K (NM Z σ S2) AnyF H (es.map fun x=>V.ref x.2.1) ((kvs.map (·.1)).map kT)/\Reps K (NM Z σ S2) (Fr H0) H (es.map (·.2.2)) (kvs.map (·.2))/\Iv i kvs S2,
    ⟨ds.length,by simp,Nat.zero_le _,Nat.le_refl _,S1,[],k1,.refl,rfl,.nil,.nil,i0⟩,?_⟩
  rintro i m es H2 ⟨rfl,hi,hy,S2,kvs,k2,st2,ek,rk,rz,p⟩
  obtain ⟨g1,g2,g3⟩:=gd σ S2 H2 (fun _=>k2.nm) st2.1 i
  have hsz:(1000000:Nat) < sizeLine:=by rw [sizeLine_eq];lia
  by_cases hlt:i < ds.length
  · refine .inr ⟨g1 hlt,by lia,fun es' H'=>es'.length<=i+1/\∃S' kvs',OK K H0 Z σ H' S'/\Step Z σ S1 H1 σ S' H'/\es'.map (·.1)=kvs'.map (·.1)/\Reps K (NM Z σ S') AnyF H' (es'.map fun x=>V.ref x.2.1) ((kvs'.map (·.1)).map kT)/\Reps K (NM Z σ S') (Fr H0) H' (es'.map (·.2.2)) (kvs'.map (·.2))/\Iv (i+1) kvs' S',
      fun es' H' zt1=>by obtain ⟨p1,p2⟩:=zt1;exact ⟨ds.length-(i+1),by lia,rfl,hlt,p1,p2⟩,fun x H3 y=>?_⟩
    obtain ⟨hgr,d,hd',rd⟩:=g2 x H3 y hlt
    replace k2:=k2.grow hgr
    replace st2:=st2.trans (.grow hgr)
    replace rk:=rk.step (.grow hgr)
    replace rz:=rz.step (.grow hgr)
    have kc:=k2.capt (n:=tg.length) hnd
    have rd':Rep K (NM (Zin Z ix σ S2) (L2.capt tg.length ix σ) (bA tg.length ix S2)) AnyF H3 x d:=rd.mono (fun a n _=>⟨fun z=>n (i3.mp z),rfl⟩) fun _ x=>x
    have h1:=sg H0 _ _ H3 _ x d _ (fun σ4 H4=>∃S4,OK K H0 (Zin Z ix σ S2) σ4 H4 S4/\Step (Zin Z ix σ S2) (L2.capt tg.length ix σ) (bA tg.length ix S2) H3 σ4 S4 H4/\vt S4 fun b S5=>if b=true then vk S5 fun rk S6=>vv S6 fun rv S7=>∃ms x,get S7 rk=some (kT ms)/\rv=.d x/\Iv (i+1) (b7 kvs ms x) (backS tg.length ix S2 S7) else Iv (i+1) kvs (backS tg.length ix S2 S5)) kc rd' (hs i d kvs S2 hd' p) (fun σ4 H4 S4 k4 st4 q4=>⟨S4,k4,st4,q4⟩)
    have h2:=kg x σ H3 _ h1
    refine (hg 0 [] X.s₀ (fun _=>none)).mono _ _ _ _ _ ?_ h2
    rintro σ4 H4 ⟨⟨hl4,hσ4⟩,S4,k4,st4,q4⟩
    refine sc H0 _ σ4 H4 S4 _ _ k4 q4 fun bb H5 S5 k5 st5 q5=>?_
    cases bb with
    | false=>
      rw [if_neg Bool.false_ne_true] at q5 ⊢
      obtain ⟨kb,sb,nb⟩:=k2.back k5 (st4.trans st5) hσ4
      exact ⟨by lia,_,kvs,kb,st2.trans sb,ek,rk.step sb,rz.step sb,q5⟩
    | true=>
      rw [if_pos rfl] at q5 ⊢
      refine sk H0 _ σ4 H5 S5 _ _ k5 q5 fun yy H6 ry S6 k6 st6 rry q6=>?_
      refine sv H0 _ σ4 H6 S6 _ _ k6 q6 fun vv' H7 rv S7 k7 st7 rrv zr1=>?_
      obtain ⟨ms,xx,e1,er,q7⟩:=zr1
      subst er
      obtain ⟨b,rfl,sq,rb⟩:=sT (rry.step st7) e1
      obtain ⟨kb,sb,nb⟩:=k2.back k7 (((st4.trans st5).trans st6).trans st7) hσ4
      have rk':=rk.step sb
      have rz':=rz.step sb
      obtain ⟨z1,z2,z3⟩:=oW (k:=ms) (b:=b) (v:=vv') (d:=xx) (F:=Fr H0) (F':=AnyF) (Rep.mono (fun a n _=>⟨nb a n,rfl⟩) (fun _ x=>x rfl) rrv) (Rep.mono (fun a n _=>⟨nb a n,rfl⟩) (fun _ x=>x) rb) ek rk' rz'
      refine ⟨b,ms,rfl,SqN.of sq,dD (by rw [ek];exact rk'),?_,_,b7 kvs ms xx,kb,st2.trans sb,z1,z2,z3,q7⟩
      have:=jb es ms b vv'
      lia
  · have e:i=ds.length:=by lia
    refine .inl ⟨g3 e,fun l ob hp=>?_⟩
    exact hq l es kvs H2 _ S2 k2 (st1.trans st2) hp (aX hp) ⟨ob,aH⟩ ek (rk.mono (fun a n e=>⟨⟨n,fun z=>e (z▸hp)⟩,aD fun z=>e (z▸hp)⟩) fun _ x=>x) (bY hp (rz.mono (fun _ n _=>⟨n,rfl⟩) fun _ x _=>x)) (hd kvs S2 (by rw [<- e];exact p))
end
end VL
end
section
namespace VL
open PySem L2 PySem.W
section
variable {va vb:VT} {vn:VTN} {S:List Sl} {Q:VR->List Sl->Prop} {i:Nat}
noncomputable def Bc (n:Int) (ra:VR) (Q:VR->List Sl->Prop):VR->List Sl->Prop:=fun rb S2=>∃kvs ms i,get S2 ra=some (dc kvs)/\get S2 rb=some (kT ms)/\(dC kvs ms).getD (.int n)=.int i/\Q (.d (.int i)) S2
noncomputable def DS (n:Int) (vb:VT) (Q:VR->List Sl->Prop):VR->List Sl->Prop:=fun ra S1=>(∃kvs,get S1 ra=some (dc kvs))/\vb S1 (Bc n ra Q)
theorem Bd {n:Int} (h:va S (DS n vb Q)):yR n va vb S Q:=h
theorem Be {n:Int} {ra:VR} (e:get S ra=some (dc kvs)) (h:vb S (Bc n ra Q)):DS n vb Q ra S:=⟨⟨kvs,e⟩,h⟩
theorem nS {n:Int} {ra rb:VR} {i:Int} (e:get S ra=some (dc kvs)) (e2:get S rb=some (kT ms)) (e3:(dC kvs ms).getD (.int n)=.int i) (h:Q (.d (.int i)) S):Bc n ra Q rb S:=⟨kvs,ms,i,e,e2,e3,h⟩
end
section
variable {α β:Type} {n:Nat} {ix:List Nat} {g g2:VG} {vt vt2:VTT} {vi vi2:VTN} {ve vk vv:VT} {S:List Sl}
noncomputable def Bf (rk:VR) (A:List Int->D->List Sl->Prop):VR->List Sl->Prop:=fun rv S6=>∃ms x,get S6 rk=some (kT ms)/\rv=.d x/\A ms x S6
noncomputable def Bg (vv:VT) (A:List Int->D->List Sl->Prop):VR->List Sl->Prop:=fun rk S5=>vv S5 (Bf rk A)
noncomputable def wU (vk vv:VT) (A:List Int->D->List Sl->Prop) (B:List Sl->Prop):Bool->List Sl->Prop:=fun b S4=>if b=true then vk S4 (Bg vv A) else B S4
noncomputable def sV (n:Nat) (ix:List Nat) (g:VG) (vt:VTT) (vk vv:VT) (Q:List (List Int×D)->List Sl->Prop):List D->List Sl->Prop:=fun ds S1=>ds.length<=1000000/\∃Iv:Nat->List (List Int×D)->List Sl->Prop,Iv 0 [] S1 /\
 (∀i d kvs S2,ds[i]?=some d->Iv i kvs S2->g d (bA n ix S2) fun S3=>vt S3 (wU vk vv (fun ms x S6=>Iv (i+1) (b7 kvs ms x) (backS n ix S2 S6)) fun S4=>Iv (i+1) kvs (backS n ix S2 S4)))/\∀kvs S2,Iv ds.length kvs S2->Q kvs S2
theorem wV {Q:List (List Int×D)->List Sl->Prop} (h:vi S (sV n ix g vt vk vv Q)):sU vi n ix g vt vk vv S Q:=h
theorem Bh {A:List Int->D->List Sl->Prop} {B:List Sl->Prop} (h:vk S (Bg vv A)):wU vk vv A B true S:=by unfold wU;rw [if_pos rfl];exact h
theorem Bi {A:List Int->D->List Sl->Prop} {rk:VR} (h:vv S (Bf rk A)):Bg vv A rk S:=h
theorem Bj {A:List Int->D->List Sl->Prop} {rk:VR} {x:D} (e:get S rk=some (kT ms)) (h:A ms x S):Bf rk A (.d x) S:=⟨ms,x,e,rfl,h⟩
theorem ql {Q:List (List Int×D)->List Sl->Prop} {xs:List α} {en f:α->D} {ky:α->List Int} (hl:xs.length<=1000000)
  (h:∀x∈xs,∀(A:List Int->D->List Sl->Prop) (B:List Sl->Prop),(∀S5,backS n ix S S5=S->A (ky x) (f x) S5)->g (en x) (bA n ix S) fun S3=>vt S3 (wU vk vv A B))
  (h2:Q (xs.foldl (fun kvs x=>b7 kvs (ky x) (f x)) []) S):sV n ix g vt vk vv Q (xs.map en) S:=by
 refine ⟨by simpa using hl,fun i kvs S'=>S'=S/\kvs=(xs.take i).foldl (fun kvs x=>b7 kvs (ky x) (f x)) [],⟨rfl,by simp⟩,?_,?_⟩
 ·rintro i d kvs S2 e ⟨rfl,rfl⟩
  obtain ⟨x,h1,rfl,hm,ht⟩:=aT e
  refine h x hm _ _ fun S5 e5=>⟨e5,?_⟩
  rw [ht,List.foldl_append]
  rfl
 ·rintro kvs S2 ⟨rfl,rfl⟩
  rw [List.length_map,List.take_length]
  exact h2
theorem sW {k c:List Int}:c∈(b7 kvs k d).map (·.1)↔c=k\/c∈kvs.map (·.1):=by
 unfold b7
 split
 ·next h=>
  rw [show (kvs.map fun x=>if x.1=k then (x.1,d) else x).map (·.1)=kvs.map (·.1) from cY kvs k d]
  exact ⟨.inr,fun z=>z.elim (fun e=>e▸h) id⟩
 ·simp [or_comm]
theorem gK {α:Type} {ky:α->List Int} {f:α->D} {c:List Int}:∀(xs:List α) (kvs:List (List Int×D)),c∈(xs.foldl (fun kvs x=>b7 kvs (ky x) (f x)) kvs).map (·.1)↔c∈xs.map ky\/c∈kvs.map (·.1)
 | [],kvs=>by simp
 | x::xs,kvs=>by
  rw [List.foldl_cons,gK xs,sW,List.map_cons,List.mem_cons]
  exact ⟨fun z=>z.elim (fun h=>.inl (.inr h)) fun z=>z.elim (fun h=>.inl (.inl h)) .inr,fun z=>z.elim (fun z=>z.elim (fun h=>.inr (.inl h)) .inl) fun h=>.inr (.inr h)⟩
end
end VL
end
section
namespace Tim
open PySem PyProof.Rows
noncomputable def gal:Bool->Keyed->Array Keyed->Nat->Nat->Nat->StateT SortSt Sem (Option Nat):=sortPriv% PySem.Builtin.gallop
noncomputable def at_ (arr:Array Keyed) (i:Nat):Keyed:=arr.getD i (Value.none,Value.none)
theorem o8 {arr:Array Keyed} {i:Nat} (h:i < arr.size):arr[i]?=some (at_ arr i):=by
 unfold at_;simp [Array.getD,h]
theorem bp {a b:Array Keyed} {i j:Nat} (h:a[i]?=b[j]?):at_ a i=at_ b j:=by
 unfold at_;rw [Array.getD_eq_getD_getElem?,Array.getD_eq_getD_getElem?,h]
noncomputable def gL (prog:Program) (w:World) (A:Around) (s:Shared) (κ:SortKind) (O:KeyOrd) (key:Keyed->O.α) (P:Keyed->Prop):Prop:=
 ∀(x y:Keyed) (C:Bool->Shared->Prop),P x->P y->C (O.blt (key x) (key y)) s->wpAny (model prog w) A (keyLt' κ x.1 y.1) C (fun _ _=>False) s
noncomputable def bey {O:KeyOrd} (key:Keyed->O.α) (left:Bool) (x y:Keyed):Bool:=if left=true then O.blt (key y) (key x) else !O.blt (key x) (key y)
section
variable {prog:Program} {w:World} {A:Around} {E:Value->Shared->Prop} {s:Shared} {κ:SortKind} {O:KeyOrd} {key:Keyed->O.α} {P:Keyed->Prop}
theorem mE (C:gL prog w A s κ O key P) {x y:Keyed} {st:SortSt} {Q:Option Bool->SortSt->Prop} (hx:P x) (hy:P y) (hk:kindOf st=κ) (h:Q (some (O.blt (key x) (key y))) st) :
  wpS (model prog w) A E s (lt' x y) Q st:=by
 rw [lt'_eq]
 refine wpS_bind (wpS_get ?_)
 rw [hk]
 refine wpS_bind (wpS_lift (wpAny_attempt (wpAny_mono (C x y (fun b s'=>s'=s/\b=O.blt (key x) (key y)) hx hy ⟨rfl,rfl⟩) (fun b s' z=>⟨z.1,?_⟩) fun _ _ z=>z.elim)))
 rw [z.2]
 exact wpS_pure h
theorem aN {arr:Array Keyed} {i:Nat} {st:SortSt} {Q:Keyed->SortSt->Prop} (e:i < arr.size) (h:Q (at_ arr i) st):wpS (model prog w) A E s (elem' arr i) Q st:=by
 rw [elem'_eq,o8 e];exact wpS_pure h
theorem Bk (C:gL prog w A s κ O key P) {left:Bool} {x:Keyed} {arr:Array Keyed} {i:Nat} {st:SortSt} {Q:Option Bool->SortSt->Prop} (e:i < arr.size) (hx:P x) (hy:P (at_ arr i)) (hk:kindOf st=κ)
  (h:Q (some (bey key left x (at_ arr i))) st) :
  wpS (model prog w) A E s (elem' arr i >>= fun y=>if left=true then lt' y x else lt' x y >>= fun r=>pure (Option.map (fun z=>!z) r)) Q st:=by
 refine wpS_bind (aN e ?_)
 unfold bey at h
 cases left with
 | true=>exact mE C hy hx hk h
 | false=>exact wpS_bind (mE C hx hy hk (wpS_pure h))
theorem ef (C:gL prog w A s κ O key P) {left:Bool} {x:Keyed} {arr:Array Keyed} {base n hint:Nat} {st:SortSt} {Q:Option Nat->SortSt->Prop} (hk:kindOf st=κ) (hh:hint < n) (hz:base+n<=arr.size)
  (hP:∀i,i < n->P (at_ arr (base+i))) (hx:P x) (mono:∀i j,i<=j->j < n->bey key left x (at_ arr (base+j))=true->bey key left x (at_ arr (base+i))=true)
  (h:∀k,k<=n->(∀i,i < k->bey key left x (at_ arr (base+i))=true)->(∀i,k<=i->i < n->bey key left x (at_ arr (base+i))=false)->Q (some k) st) :
  wpS (model prog w) A E s (gal left x arr base n hint) Q st:=by
 have B:=fun i (hi:i < n) (R:Option Bool->SortSt->Prop) (r:R (some (bey key left x (at_ arr (base+i)))) st)=>Bk (E:=E) C (left:=left) (show base+i < arr.size by lia) hx (hP i hi) hk r
 generalize eb:(fun i=>bey key left x (at_ arr (base+i)))=b at *
 have eb':∀i,bey key left x (at_ arr (base+i))=b i:=fun i=>by rw [<- eb]
 simp only [eb'] at *
 have anti:∀i j,i<=j->j < n->b i=false->b j=false:=fun i j hij hj hi=>by
  cases hj':b j with
  | false=>rfl
  | true=>rw [mono i j hij hj hj'] at hi;cases hi
 delta gal
 refine wpS_bind (B hint hh _ ?_)
 dsimp only
 cases hb:b hint with
 | true=>
  rw [if_pos rfl]
  refine wpS_bind (wpS_mono (wpS_forRange (I:=fun k c st'=>st'=st/\∃ls os,c=(none,ls,os)/\ls < os/\k+1<=os/\hint+ls < n/\b (hint+ls)=true)
   (Q:=fun c st'=>st'=st/\∃ls os,c=(none,ls,os)/\ls < os/\hint+ls < n/\b (hint+ls)=true/\(n-hint<=os\/b (hint+os)=false)) ?step ?fin ⟨rfl,0,1,rfl,by lia,by lia,by lia,hb⟩) ?post)
  case fin=>
   rintro c st' ⟨rfl,ls,os,rfl,h1,h2,h3,h4⟩
   exact ⟨rfl,ls,os,rfl,h1,h3,h4,.inl (by lia)⟩
  case step=>
   rintro k c st' _ hkn ⟨rfl,ls,os,rfl,h1,h2,h3,h4⟩
   dsimp only
   by_cases hge:os >= n-hint
   ·rw [if_pos hge];exact wpS_pure ⟨rfl,ls,os,rfl,h1,h3,h4,.inl hge⟩
   ·rw [if_neg hge]
    refine wpS_bind (B (hint+os) (by lia) _ ?_)
    dsimp only
    cases ho:b (hint+os) with
    | true=>exact wpS_pure ⟨rfl,os,2*os+1,rfl,by lia,by lia,by lia,ho⟩
    | false=>exact wpS_pure ⟨rfl,ls,os,rfl,h1,h3,h4,.inr ho⟩
  case post=>
   rintro c st' ⟨rfl,ls,os,rfl,h1,h3,h4,h5⟩
   dsimp only
   refine wpS_bind (wpS_mono (wpS_forRange (I:=fun k c st''=>st''=st'/\∃lo hi,c=(none,lo,hi)/\lo<=hi/\hi<=n/\hi-lo<=n-k/\(∀i,i < lo->b i=true)/\(∀i,hi<=i->i < n->b i=false))
    (Q:=fun c st''=>st''=st'/\∃k,c=(none,k,k)/\k<=n/\(∀i,i < k->b i=true)/\(∀i,k<=i->i < n->b i=false)) ?step ?fin ?init) ?post)
   case init=>
    refine ⟨rfl,_,_,rfl,by lia,by lia,by lia,fun i hi=>mono i _ (by lia) h3 h4,fun i hi hn=>?_⟩
    rcases h5 with h5 | h5
    ·lia
    ·by_cases hge:n-hint<=os
     ·lia
     ·exact anti _ i (by lia) hn h5
   case post=>
    rintro c st'' ⟨rfl,k,rfl,z1,z2,z3⟩
    exact wpS_pure (h k z1 z2 z3)
   case fin=>
    rintro c st'' ⟨rfl,lo,hi,rfl,a1,a2,a3,a4,a5⟩
    have:lo=hi:=by lia
    subst this
    exact ⟨rfl,lo,rfl,a2,a4,a5⟩
   case step=>
    rintro k c st'' _ hkn ⟨rfl,lo,hi,rfl,a1,a2,a3,a4,a5⟩
    dsimp only
    by_cases hge:lo >= hi
    ·rw [if_pos hge]
     have:lo=hi:=by lia
     subst this
     exact wpS_pure ⟨rfl,lo,rfl,a2,a4,a5⟩
    ·rw [if_neg hge]
     refine wpS_bind (B (lo+(hi-lo) / 2) (by lia) _ ?_)
     dsimp only
     cases ho:b (lo+(hi-lo) / 2) with
     | true=>exact wpS_pure ⟨rfl,_,_,rfl,by lia,a2,by lia,fun i hi=>mono i _ (by lia) (by lia) ho,a5⟩
     | false=>exact wpS_pure ⟨rfl,_,_,rfl,by lia,by lia,by lia,a4,fun i h1 h2=>anti _ i h1 h2 ho⟩
 | false=>
  rw [if_neg (by simp)]
  refine wpS_bind (wpS_mono (wpS_forRange (I:=fun k c st'=>st'=st/\∃ls os,c=(none,ls,os)/\ls < os/\k+1<=os/\ls<=hint/\b (hint-ls)=false)
   (Q:=fun c st'=>st'=st/\∃ls os,c=(none,ls,os)/\ls < os/\ls<=hint/\b (hint-ls)=false/\(hint+1<=os\/(os<=hint/\b (hint-os)=true))) ?step ?fin ⟨rfl,0,1,rfl,by lia,by lia,by lia,hb⟩) ?post)
  case fin=>
   rintro c st' ⟨rfl,ls,os,rfl,h1,h2,h3,h4⟩
   exact ⟨rfl,ls,os,rfl,h1,h3,h4,.inl (by lia)⟩
  case step=>
   rintro k c st' _ hkn ⟨rfl,ls,os,rfl,h1,h2,h3,h4⟩
   dsimp only
   by_cases hge:os >= hint+1
   ·rw [if_pos hge];exact wpS_pure ⟨rfl,ls,os,rfl,h1,h3,h4,.inl hge⟩
   ·rw [if_neg hge]
    refine wpS_bind (B (hint-os) (by lia) _ ?_)
    dsimp only
    cases ho:b (hint-os) with
    | true=>exact wpS_pure ⟨rfl,ls,os,rfl,h1,h3,h4,.inr ⟨by lia,ho⟩⟩
    | false=>exact wpS_pure ⟨rfl,os,2*os+1,rfl,by lia,by lia,by lia,ho⟩
  case post=>
   rintro c st' ⟨rfl,ls,os,rfl,h1,h3,h4,h5⟩
   dsimp only
   refine wpS_bind (wpS_mono (wpS_forRange (I:=fun k c st''=>st''=st'/\∃lo hi,c=(none,lo,hi)/\lo<=hi/\hi<=n/\hi-lo<=n-k/\(∀i,i < lo->b i=true)/\(∀i,hi<=i->i < n->b i=false))
    (Q:=fun c st''=>st''=st'/\∃k,c=(none,k,k)/\k<=n/\(∀i,i < k->b i=true)/\(∀i,k<=i->i < n->b i=false)) ?step ?fin ?init) ?post)
   case init=>
    refine ⟨rfl,_,_,rfl,by lia,by lia,by lia,fun i hi=>?_,fun i hi hn=>anti _ i hi hn h4⟩
    rcases h5 with h5 | h5
    ·lia
    ·exact mono i _ (by lia) (by lia) h5.2
   case post=>
    rintro c st'' ⟨rfl,k,rfl,z1,z2,z3⟩
    exact wpS_pure (h k z1 z2 z3)
   case fin=>
    rintro c st'' ⟨rfl,lo,hi,rfl,a1,a2,a3,a4,a5⟩
    have:lo=hi:=by lia
    subst this
    exact ⟨rfl,lo,rfl,a2,a4,a5⟩
   case step=>
    rintro k c st'' _ hkn ⟨rfl,lo,hi,rfl,a1,a2,a3,a4,a5⟩
    dsimp only
    by_cases hge:lo >= hi
    ·rw [if_pos hge]
     have:lo=hi:=by lia
     subst this
     exact wpS_pure ⟨rfl,lo,rfl,a2,a4,a5⟩
    ·rw [if_neg hge]
     refine wpS_bind (B (lo+(hi-lo) / 2) (by lia) _ ?_)
     dsimp only
     cases ho:b (lo+(hi-lo) / 2) with
     | true=>exact wpS_pure ⟨rfl,_,_,rfl,by lia,a2,by lia,fun i hi=>mono i _ (by lia) (by lia) ho,a5⟩
     | false=>exact wpS_pure ⟨rfl,_,_,rfl,by lia,by lia,by lia,a4,fun i h1 h2=>anti _ i h1 h2 ho⟩
end
end Tim
end
section
namespace Tim
open PySem PyProof.Rows
section
variable {α:Type} {le:α->α->Prop}
structure MI (le:α->α->Prop) (A B out:List α) (ia ib:Nat):Prop where
 perm:out.Perm (A.take ia++B.take ib)
 srt:out.Pairwise le
 la:∀x∈out,∀y∈A.drop ia,le x y
 lb:∀x∈out,∀y∈B.drop ib,le x y
noncomputable def Res (le:α->α->Prop) (A B r:List α):Prop:=r.Perm (A++B)/\r.Pairwise le
theorem MI.pushA {A B out:List α} {ia ib k:Nat} (sA:A.Pairwise le) (M:MI le A B out ia ib) (h:∀x∈(A.drop ia).take k,∀y∈B.drop ib,le x y):MI le A B (out++(A.drop ia).take k) (ia+k) ib:=by
 have sD:((A.drop ia).take k++(A.drop ia).drop k).Pairwise le:=by rw [List.take_append_drop];exact sA.drop
 have eD:A.drop (ia+k)=(A.drop ia).drop k:=by rw [List.drop_drop]
 rw [List.pairwise_append] at sD
 refine ⟨?_,?_,?_,?_⟩
 ·rw [List.take_add,List.append_assoc]
  refine (M.perm.append_right _).trans ?_
  rw [List.append_assoc]
  exact List.Perm.append_left _ List.perm_append_comm
 ·exact List.pairwise_append.mpr ⟨M.srt,sD.1,fun x hx y hy=>M.la x hx y (List.mem_of_mem_take hy)⟩
 ·intro x hx y hy
  rw [eD] at hy
  rcases List.mem_append.mp hx with hx | hx
  ·exact M.la x hx y (List.mem_of_mem_drop hy)
  ·exact sD.2.2 x hx y hy
 ·intro x hx y hy
  rcases List.mem_append.mp hx with hx | hx
  ·exact M.lb x hx y hy
  ·exact h x hx y hy
theorem MI.swap {A B out:List α} {ia ib:Nat} (M:MI le A B out ia ib):MI le B A out ib ia:=⟨M.perm.trans List.perm_append_comm,M.srt,M.lb,M.la⟩
theorem MI.pushB {A B out:List α} {ia ib k:Nat} (sB:B.Pairwise le) (M:MI le A B out ia ib) (h:∀x∈(B.drop ib).take k,∀y∈A.drop ia,le x y):MI le A B (out++(B.drop ib).take k) ia (ib+k):=
 (M.swap.pushA sB h).swap
theorem MI.done {A B out:List α} {ia ib:Nat} (sA:A.Pairwise le) (sB:B.Pairwise le) (M:MI le A B out ia ib) (h:A.drop ia=[]\/B.drop ib=[]):Res le A B (out++A.drop ia++B.drop ib):=by
 refine ⟨?_,?_⟩
 ·rw [List.append_assoc]
  refine (M.perm.append_right _).trans ?_
  conv=>rhs;rw [<- List.take_append_drop ia A,<- List.take_append_drop ib B]
  rw [List.append_assoc,List.append_assoc]
  refine List.Perm.append_left _ ?_
  rw [<- List.append_assoc,<- List.append_assoc]
  exact List.Perm.append_right _ List.perm_append_comm
 ·rw [List.append_assoc]
  refine List.pairwise_append.mpr ⟨M.srt,?_,fun x hx y hy=>?_⟩
  ·rcases h with h | h
   ·rw [h];exact sB.drop
   ·rw [h,List.append_nil];exact sA.drop
  ·rcases List.mem_append.mp hy with hy | hy
   ·exact M.la x hx y hy
   ·exact M.lb x hx y hy
theorem MI.last {A B out:List α} {ia ib:Nat} (sA:A.Pairwise le) (sB:B.Pairwise le) (M:MI le A B out ia ib) (h:∀x∈B,∀y∈A.drop ia,le x y):Res le A B (out++B.drop ib++A.drop ia):=by
 refine ⟨?_,?_⟩
 ·rw [List.append_assoc]
  refine (M.perm.append_right _).trans ?_
  conv=>rhs;rw [<- List.take_append_drop ia A,<- List.take_append_drop ib B]
  rw [List.append_assoc,List.append_assoc]
  refine List.Perm.append_left _ ?_
  rw [<- List.append_assoc]
  exact List.perm_append_comm
 ·rw [List.append_assoc]
  refine List.pairwise_append.mpr ⟨M.srt,List.pairwise_append.mpr ⟨sB.drop,sA.drop,fun x hx y hy=>h x (List.mem_of_mem_drop hx) y hy⟩,fun x hx y hy=>?_⟩
  rcases List.mem_append.mp hy with hy | hy
  ·exact M.lb x hx y hy
  ·exact M.la x hx y hy
structure MH (le:α->α->Prop) (A B R:List α) (na nb:Nat):Prop where
 perm:R.Perm (A.drop na++B.drop nb)
 srt:R.Pairwise le
 la:∀x∈A.take na,∀y∈R,le x y
 lb:∀x∈B.take nb,∀y∈R,le x y
theorem MH.swap {A B R:List α} {na nb:Nat} (M:MH le A B R na nb):MH le B A R nb na:=⟨M.perm.trans List.perm_append_comm,M.srt,M.lb,M.la⟩
theorem MH.pushA {A B R:List α} {na nb k:Nat} (sA:A.Pairwise le) (hk:k<=na) (M:MH le A B R na nb) (h:∀x∈B.take nb,∀y∈(A.take na).drop k,le x y):MH le A B ((A.take na).drop k++R) k nb:=by
 have sD:((A.take na).take k++(A.take na).drop k).Pairwise le:=by rw [List.take_append_drop];exact sA.take
 have eT:A.take k=(A.take na).take k:=by rw [List.take_take,Nat.min_eq_left hk]
 have eD:A.drop k=(A.take na).drop k++A.drop na:=by
  conv=>lhs;rw [<- List.take_append_drop na A]
  rw [List.drop_append]
  by_cases hz:na<=A.length
  ·rw [show k-(A.take na).length=0 by rw [List.length_take];lia];rfl
  ·rw [List.drop_eq_nil_of_le (show A.length<=na by lia)];simp
 rw [List.pairwise_append] at sD
 refine ⟨?_,?_,?_,?_⟩
 ·rw [eD,List.append_assoc]
  exact List.Perm.append_left _ M.perm
 ·exact List.pairwise_append.mpr ⟨sD.2.1,M.srt,fun x hx y hy=>M.la x (List.mem_of_mem_drop hx) y hy⟩
 ·intro x hx y hy
  rw [eT] at hx
  rcases List.mem_append.mp hy with hy | hy
  ·exact sD.2.2 x hx y hy
  ·exact M.la x (List.mem_of_mem_take hx) y hy
 ·intro x hx y hy
  rcases List.mem_append.mp hy with hy | hy
  ·exact h x hx y hy
  ·exact M.lb x hx y hy
theorem MH.pushB {A B R:List α} {na nb k:Nat} (sB:B.Pairwise le) (hk:k<=nb) (M:MH le A B R na nb) (h:∀x∈A.take na,∀y∈(B.take nb).drop k,le x y):MH le A B ((B.take nb).drop k++R) na k:=
 (M.swap.pushA sB hk h).swap
theorem MH.done {A B R:List α} {na nb:Nat} (sA:A.Pairwise le) (sB:B.Pairwise le) (M:MH le A B R na nb) (h:A.take na=[]\/B.take nb=[]):Res le A B (A.take na++B.take nb++R):=by
 refine ⟨?_,?_⟩
 ·refine (M.perm.append_left _).trans ?_
  conv=>rhs;rw [<- List.take_append_drop na A,<- List.take_append_drop nb B]
  rw [List.append_assoc,List.append_assoc]
  refine List.Perm.append_left _ ?_
  rw [<- List.append_assoc,<- List.append_assoc]
  exact List.Perm.append_right _ List.perm_append_comm
 ·refine List.pairwise_append.mpr ⟨?_,M.srt,fun x hx y hy=>?_⟩
  ·rcases h with h | h
   ·rw [h];exact sB.take
   ·rw [h,List.append_nil];exact sA.take
  ·rcases List.mem_append.mp hx with hx | hx
   ·exact M.la x hx y hy
   ·exact M.lb x hx y hy
theorem MH.first {A B R:List α} {na nb:Nat} (sA:A.Pairwise le) (sB:B.Pairwise le) (M:MH le A B R na nb) (h:∀x∈B.take nb,∀y∈A,le x y):Res le A B (B.take nb++A.take na++R):=by
 refine ⟨?_,?_⟩
 ·refine (M.perm.append_left _).trans ?_
  conv=>rhs;rw [<- List.take_append_drop na A,<- List.take_append_drop nb B]
  rw [<- List.append_assoc,<- List.append_assoc]
  refine List.Perm.append_right _ ?_
  rw [List.append_assoc,List.append_assoc]
  exact List.perm_append_comm.trans (by rw [List.append_assoc])
 ·refine List.pairwise_append.mpr ⟨List.pairwise_append.mpr ⟨sB.take,sA.take,fun x hx y hy=>h x hx y (List.mem_of_mem_take hy)⟩,M.srt,fun x hx y hy=>?_⟩
  rcases List.mem_append.mp hx with hx | hx
  ·exact M.lb x hx y hy
  ·exact M.la x hx y hy
theorem dr {l:List α} {i:Nat} (d:α) (h:i < l.length):(l.drop i).take 1=[l.getD i d]:=by
 rw [List.drop_eq_getElem_cons h,List.take_succ_cons,List.take_zero,List.getD_eq_getElem?_getD,List.getElem?_eq_getElem h];rfl
theorem dt {l:List α} {i:Nat} (d:α) (h:i < l.length):(l.take (i+1)).drop i=[l.getD i d]:=by
 rw [List.take_add_one,List.drop_append,List.drop_eq_nil_of_le (by simp;lia)]
 simp [h,Nat.min_eq_left (Nat.le_of_lt h)]
end
end Tim
end
section
namespace Tim
open PySem PyProof.Rows
noncomputable def mlo:Array Keyed->Array Keyed->StateT SortSt Sem (Array Keyed):=sortPriv% PySem.Builtin.mergeLo
noncomputable def Same (st st':SortSt):Prop:=kindOf st'=kindOf st/\arrOf st'=arrOf st/\pendingOf st'=pendingOf st/\failedOf st'=failedOf st
theorem Same.rfl' {st:SortSt}:Same st st:=⟨rfl,rfl,rfl,rfl⟩
theorem kX (a:Array Keyed) (i:Nat):(a.extract i a.size).toList=a.toList.drop i:=by
 simp only [Array.toList_extract,List.extract_eq_take_drop];exact List.take_of_length_le (by simp)
theorem wW (a:Array Keyed) (i k:Nat):(a.extract i (i+k)).toList=(a.toList.drop i).take k:=by simp [List.extract_eq_take_drop]
noncomputable abbrev kl {O:KeyOrd} (key:Keyed->O.α):Keyed->Keyed->Prop:=fun x y=>O.kle (key x) (key y)
theorem bT {a:Array Keyed} {i:Nat} (h:i < a.size):a.toList[i]?=some (at_ a i):=by rw [Array.getElem?_toList];exact o8 h
theorem eg {a:Array Keyed} {i:Nat} (h:i < a.size):at_ a i∈a.toList:=List.mem_of_getElem? (bT h)
theorem getD_at {a:Array Keyed} {i:Nat} (h:i < a.size):a.toList.getD i (Value.none,Value.none)=at_ a i:=by rw [List.getD_eq_getElem?_getD,bT h];rfl
theorem kY {a:Array Keyed} {i k:Nat} {x:Keyed} (h:x∈(a.toList.drop i).take k):∃j,j < k/\i+j < a.size/\x=at_ a (i+j):=by
 obtain ⟨j,hj,e⟩:=List.getElem_of_mem h
 have hj':j < k/\j < a.size-i:=by simpa [Nat.lt_min] using hj
 refine ⟨j,hj'.1,by lia,?_⟩
 have e2:a.toList[i+j]?=some x:=by
  rw [<- e]
  simp only [List.getElem_take,List.getElem_drop]
  exact List.getElem?_eq_getElem _
 rw [bT (by lia)] at e2
 exact (Option.some.inj e2).symm
theorem j6 {a:Array Keyed} {i:Nat} {x:Keyed} (h:x∈a.toList.drop i):∃j,i+j < a.size/\x=at_ a (i+j):=by
 obtain ⟨j,_,h2,h3⟩:=kY (k:=(a.toList.drop i).length) (by rw [List.take_length];exact h)
 exact ⟨j,h2,h3⟩
section
variable {prog:Program} {w:World} {A:Around} {E:Value->Shared->Prop} {s:Shared} {κ:SortKind} {O:KeyOrd} {key:Keyed->O.α} {P:Keyed->Prop}
theorem eh {a:Array Keyed} (h:a.toList.Pairwise (kl key)) {i j:Nat} (hij:i<=j) (hj:j < a.size):kl key (at_ a i) (at_ a j):=by
 by_cases e:i=j
 ·subst e;exact KeyOrd.kle_refl _
 ·have q:=List.pairwise_iff_getElem.mp h i j (by simp;lia) (by simpa using hj) (by lia)
  have e1:a.toList[i]'(by simp;lia)=at_ a i:=by have:=bT (a:=a) (i:=i) (by lia);rw [List.getElem?_eq_getElem (by simp;lia)] at this;exact Option.some.inj this
  have e2:a.toList[j]'(by simpa using hj)=at_ a j:=by have:=bT (a:=a) (i:=j) hj;rw [List.getElem?_eq_getElem (by simpa using hj)] at this;exact Option.some.inj this
  rw [e1,e2] at q
  exact q
theorem fX {a:Array Keyed} (h:a.toList.Pairwise (kl key)) {i:Nat} {y:Keyed} (hy:y∈a.toList.drop i):kl key (at_ a i) y:=by
 obtain ⟨j,hj,rfl⟩:=j6 hy
 exact eh h (by lia) hj
theorem mF {x y:Keyed} (h:bey key false x y=true):kl key y x:=by
 have:(!O.blt (key x) (key y))=true:=h
 show O.blt (key x) (key y)=false
 simpa using this
theorem sX {x y:Keyed} (h:bey key false x y=false):O.klt (key x) (key y):=by
 have:(!O.blt (key x) (key y))=false:=h
 show O.blt (key x) (key y)=true
 simpa using this
theorem jd {x y:Keyed} (h:bey key true x y=true):O.klt (key y) (key x):=h
theorem mG {x y:Keyed} (h:bey key true x y=false):kl key x y:=h
theorem o9 {a:Array Keyed} (h:a.toList.Pairwise (kl key)) {x:Keyed} {base n:Nat} (hz:base+n<=a.size):∀i j,i<=j->j < n->bey key false x (at_ a (base+j))=true->bey key false x (at_ a (base+i))=true:=fun i j hij hj q=>by
 have q:=mF q
 have:kl key (at_ a (base+i)) x:=KeyOrd.kle_trans (eh h (by lia) (by lia)) q
 show (!O.blt (key x) (key (at_ a (base+i))))=true
 rw [show O.blt (key x) (key (at_ a (base+i)))=false from this];rfl
theorem iq {a:Array Keyed} (h:a.toList.Pairwise (kl key)) {x:Keyed} {base n:Nat} (hz:base+n<=a.size):∀i j,i<=j->j < n->bey key true x (at_ a (base+j))=true->bey key true x (at_ a (base+i))=true:=fun i j hij hj q=>
 KeyOrd.klt_of_kle_of_klt (eh h (show base+i<=base+j by lia) (by lia)) (jd q)
theorem Bl (C:gL prog w A s κ O key P) {a b:Array Keyed} {st:SortSt} {Q:Array Keyed->SortSt->Prop} (hk:kindOf st=κ) (ha:0 < a.size) (hb:0 < b.size) (Pa:∀x∈a.toList,P x) (Pb:∀x∈b.toList,P x)
  (sA:a.toList.Pairwise (kl key)) (sB:b.toList.Pairwise (kl key)) (h0:∀y∈a.toList,kl key (at_ b 0) y) (hl:∀x∈b.toList,kl key x (at_ a (a.size-1)))
  (h:∀r st',Same st st'->Res (kl key) a.toList b.toList r.toList->Q r st'):wpS (model prog w) A E s (mlo a b) Q st:=by
 have pa:∀i,i < a.size->P (at_ a i):=fun i hi=>Pa _ (eg hi)
 have pb:∀i,i < b.size->P (at_ b i):=fun i hi=>Pb _ (eg hi)
 have M0:MI (kl key) a.toList b.toList (#[at_ b 0]:Array Keyed).toList 0 1:=by
  refine ⟨?_,?_,?_,?_⟩
  ·have e:b.toList.take 1=[at_ b 0]:=by have:=dr (l:=b.toList) (i:=0) (Value.none,Value.none) (by simpa using hb);rw [List.drop_zero,getD_at hb] at this;exact this
   rw [e];simp
  ·simp
  ·intro x hx y hy
   have:x=at_ b 0:=by simpa using hx
   subst this;exact h0 y (List.mem_of_mem_drop hy)
  ·intro x hx y hy
   have:x=at_ b 0:=by simpa using hx
   subst this
   obtain ⟨j,hj,rfl⟩:=j6 hy
   exact eh sB (by lia) hj
 have dn:∀{out:Array Keyed} {ia ib:Nat},MI (kl key) a.toList b.toList out.toList ia ib->(a.size<=ia\/b.size<=ib)->Res (kl key) a.toList b.toList (out++a.extract ia a.size++b.extract ib b.size).toList:=fun M hh=>by
  rw [Array.toList_append,Array.toList_append,kX,kX]
  exact M.done sA sB (hh.imp (fun z=>List.drop_eq_nil_of_le (by simpa using z)) fun z=>List.drop_eq_nil_of_le (by simpa using z))
 have la:∀{out:Array Keyed} {ia ib:Nat},MI (kl key) a.toList b.toList out.toList ia ib->ia+1=a.size->Res (kl key) a.toList b.toList (out++b.extract ib b.size++a.extract ia a.size).toList:=fun {out ia ib} M hh=>by
  rw [Array.toList_append,Array.toList_append,kX,kX]
  refine M.last sA sB fun x hx y hy=>?_
  obtain ⟨j,hj,rfl⟩:=j6 hy
  have:=hl x hx
  rwa [show a.size-1=ia+j by lia] at this
 have p1A:∀{out:Array Keyed} {ia ib:Nat},MI (kl key) a.toList b.toList out.toList ia ib->ia < a.size->(∀y∈b.toList.drop ib,kl key (at_ a ia) y)->MI (kl key) a.toList b.toList (out.push (at_ a ia)).toList (ia+1) ib:=fun {out ia ib} M hi q=>by
  have e:=dr (l:=a.toList) (i:=ia) (Value.none,Value.none) (by simpa using hi)
  rw [getD_at hi] at e
  have:=M.pushA (k:=1) sA (by rw [e];intro x hx y hy;rw [List.mem_singleton] at hx;subst hx;exact q y hy)
  rw [e] at this
  rw [Array.toList_push];exact this
 have p1B:∀{out:Array Keyed} {ia ib:Nat},MI (kl key) a.toList b.toList out.toList ia ib->ib < b.size->(∀y∈a.toList.drop ia,kl key (at_ b ib) y)->MI (kl key) a.toList b.toList (out.push (at_ b ib)).toList ia (ib+1):=fun {out ia ib} M hi q=>by
  have e:=dr (l:=b.toList) (i:=ib) (Value.none,Value.none) (by simpa using hi)
  rw [getD_at hi] at e
  have:=M.pushB (k:=1) sB (by rw [e];intro x hx y hy;rw [List.mem_singleton] at hx;subst hx;exact q y hy)
  rw [e] at this
  rw [Array.toList_push];exact this
 have pkA:∀{out:Array Keyed} {ia ib k:Nat},MI (kl key) a.toList b.toList out.toList ia ib->(∀i,i < k->kl key (at_ a (ia+i)) (at_ b ib))->MI (kl key) a.toList b.toList (out++a.extract ia (ia+k)).toList (ia+k) ib:=fun {out ia ib k} M q=>by
  rw [Array.toList_append,wW]
  refine M.pushA sA fun x hx y hy=>?_
  obtain ⟨j,hj,_,rfl⟩:=kY hx
  exact KeyOrd.kle_trans (q j hj) (fX sB hy)
 have pkB:∀{out:Array Keyed} {ia ib k:Nat},MI (kl key) a.toList b.toList out.toList ia ib->(∀i,i < k->O.klt (key (at_ b (ib+i))) (key (at_ a ia)))->MI (kl key) a.toList b.toList (out++b.extract ib (ib+k)).toList ia (ib+k):=fun {out ia ib k} M q=>by
  rw [Array.toList_append,wW]
  refine M.pushB sB fun x hx y hy=>?_
  obtain ⟨j,hj,_,rfl⟩:=kY hx
  exact KeyOrd.kle_trans (KeyOrd.kle_of_klt (q j hj)) (fX sA hy)
 delta mlo
 refine wpS_bind (wpS_lift (wpAny_rule ⟨rfl,?_⟩))
 dsimp only
 refine wpS_bind (aN hb ?_)
 by_cases e1:1=b.size
 ·rw [if_pos (by simpa using e1)]
  exact wpS_pure (h _ _ Same.rfl' (dn M0 (.inr (by lia))))
 rw [if_neg (by simpa using e1)]
 by_cases e2:0+1=a.size
 ·rw [if_pos (by simpa using e2)]
  exact wpS_pure (h _ _ Same.rfl' (la M0 e2))
 rw [if_neg (by simpa using e2)]
 refine wpS_bind (wpS_get ?_)
 refine wpS_bind (wpS_mono (wpS_forRange (I:=fun x c st'=>Same st st'/\∃(out:Array Keyed) (ia ib mg:Nat),c=(none,out,ia,ib,mg)/\MI (kl key) a.toList b.toList out.toList ia ib/\ia+1 < a.size/\ib < b.size/\x+1<=ia+ib)
  (Q:=fun c st'=>Same st st'/\∃(r:Array Keyed) (z:Array Keyed×Nat×Nat×Nat),c=(some r,z)/\Res (kl key) a.toList b.toList r.toList) ?step ?fin ⟨Same.rfl',_,0,1,_,rfl,M0,by lia,by lia,by lia⟩) ?post)
 case post=>
  rintro c st' ⟨S,r,z,rfl,R⟩
  exact wpS_pure (h r st' S R)
 case fin=>
  rintro c st' ⟨S,out,ia,ib,mg,rfl,M,h1,h2,h3⟩
  lia
 case step=>
  rintro x c st' _ hx ⟨S,out,ia,ib,mg,rfl,M,h1,h2,h3⟩
  dsimp only
  refine wpS_bind (wpS_mono (wpS_forRange (I:=fun y c st''=>Same st st''/\∃(out:Array Keyed) (ia' ib' ac bc:Nat),c=(none,out,ia',ib',ac,bc)/\MI (kl key) a.toList b.toList out.toList ia' ib'/\ia'+1 < a.size/\ib' < b.size/\ia+ib+y<=ia'+ib')
   (Q:=fun c st''=>Same st st''/\((∃(r:Array Keyed) (z:Array Keyed×Nat×Nat×Nat×Nat),c=(some r,z)/\Res (kl key) a.toList b.toList r.toList) \/
    ∃(out:Array Keyed) (ia' ib' ac bc:Nat),c=(none,out,ia',ib',ac,bc)/\MI (kl key) a.toList b.toList out.toList ia' ib'/\ia'+1 < a.size/\ib' < b.size/\ia+ib+1<=ia'+ib')) ?s1 ?f1 ⟨S,out,ia,ib,0,0,rfl,M,h1,h2,by lia⟩) ?p1)
  case f1=>
   rintro c st2 ⟨S,out,ia',ib',ac,bc,rfl,M,h1,h2,h3⟩
   exact ⟨S,.inr ⟨out,ia',ib',ac,bc,rfl,M,h1,h2,by lia⟩⟩
  case s1=>
   rintro y c st2 _ hy ⟨S,out,ia',ib',ac,bc,rfl,M,h1,h2,h3⟩
   dsimp only
   refine wpS_bind (aN h2 (wpS_bind (aN (show ia' < a.size by lia) (wpS_bind (mE C (pb _ h2) (pa _ (by lia)) (S.1.trans hk) ?_)))))
   dsimp only
   cases hc:O.blt (key (at_ b ib')) (key (at_ a ia')) with
   | true=>
    rw [if_pos rfl]
    refine wpS_bind (aN h2 ?_)
    have M1:=p1B M h2 fun y hy=>KeyOrd.kle_trans (KeyOrd.kle_of_klt hc) (fX sA hy)
    by_cases e:ib'+1=b.size
    ·rw [if_pos (by simpa using e)]
     exact wpS_pure ⟨S,.inl ⟨_,_,rfl,dn M1 (.inr (by lia))⟩⟩
    ·rw [if_neg (by simpa using e)]
     split
     ·exact wpS_pure ⟨S,.inr ⟨_,_,_,_,_,rfl,M1,h1,by lia,by lia⟩⟩
     ·exact wpS_pure ⟨S,_,_,_,_,_,rfl,M1,h1,by lia,by lia⟩
   | false=>
    rw [if_neg (by simp)]
    refine wpS_bind (aN (show ia' < a.size by lia) ?_)
    have M1:=p1A M (by lia) fun y hy=>KeyOrd.kle_trans (show kl key (at_ a ia') (at_ b ib') from hc) (fX sB hy)
    by_cases e:ia'+1+1=a.size
    ·rw [if_pos (by simpa using e)]
     exact wpS_pure ⟨S,.inl ⟨_,_,rfl,la M1 e⟩⟩
    ·rw [if_neg (by simpa using e)]
     split
     ·exact wpS_pure ⟨S,.inr ⟨_,_,_,_,_,rfl,M1,by lia,by lia,by lia⟩⟩
     ·exact wpS_pure ⟨S,_,_,_,_,_,rfl,M1,by lia,by lia,by lia⟩
  case p1=>
   rintro c st2 ⟨S,⟨r,z,rfl,R⟩ | ⟨out,ia',ib',ac,bc,rfl,M,h1,h2,h3⟩⟩
   ·exact wpS_pure ⟨S,_,_,rfl,R⟩
   dsimp only
   refine wpS_bind (wpS_lift (wpAny_rule ⟨rfl,?_⟩))
   refine wpS_bind (wpS_mono (wpS_forRange (I:=fun y c st''=>Same st st''/\∃(out:Array Keyed) (ia' ib' mg ac bc:Nat),c=(none,out,ia',ib',mg,ac,bc)/\MI (kl key) a.toList b.toList out.toList ia' ib'/\ia'+1 < a.size/\ib' < b.size/\ia+ib+1<=ia'+ib')
    (Q:=fun c st''=>Same st st''/\((∃(r:Array Keyed) (z:Array Keyed×Nat×Nat×Nat×Nat×Nat),c=(some r,z)/\Res (kl key) a.toList b.toList r.toList) \/
     ∃(out:Array Keyed) (ia' ib' mg ac bc:Nat),c=(none,out,ia',ib',mg,ac,bc)/\MI (kl key) a.toList b.toList out.toList ia' ib'/\ia'+1 < a.size/\ib' < b.size/\ia+ib+1<=ia'+ib')) ?s2 ?f2 ⟨S,out,ia',ib',_,ac,bc,rfl,M,h1,h2,h3⟩) ?p2)
   case f2=>
    rintro c st3 ⟨S,out,ia',ib',mg,ac,bc,rfl,M,h1,h2,h3⟩
    exact ⟨S,.inr ⟨out,ia',ib',mg,ac,bc,rfl,M,h1,h2,h3⟩⟩
   case p2=>
    rintro c st3 ⟨S,⟨r,z,rfl,R⟩ | ⟨out,ia',ib',mg,ac,bc,rfl,M,h1,h2,h3⟩⟩
    ·exact wpS_pure ⟨S,_,_,rfl,R⟩
    ·dsimp only
     exact wpS_bind (wpS_modify (wpS_pure ⟨S,_,_,_,_,rfl,M,h1,h2,by lia⟩))
   case s2=>
    rintro y c st3 _ hy ⟨S,out,ia',ib',mg,ac,bc,rfl,M,h1,h2,h3⟩
    dsimp only
    rcases Nat.lt_or_ge 1 mg with hm | hm
    case' inl=>rw [if_pos hm]
    case' inr=>rw [if_neg (Nat.not_lt.mpr hm)]
    all_goals
     refine wpS_bind (wpS_modify ?_)
     refine wpS_bind (aN h2 (wpS_bind (ef C (S.1.trans hk) (show 0 < a.size-ia' by lia) (by lia) (fun i hi=>pa _ (by lia)) (pb _ h2) (o9 sA (by lia)) fun k z1 z2 z3=>?_)))
     dsimp only
     have gt:∀y∈a.toList.drop (ia'+k),kl key (at_ b ib') y:=fun y hy=>by
      obtain ⟨j,hj,rfl⟩:=j6 hy
      have:=sX (z3 (k+j) (by lia) (by lia))
      rw [<- Nat.add_assoc] at this
      exact KeyOrd.kle_of_klt this
     by_cases hk0:k > 0
     ·rw [if_pos hk0]
      have M1:=pkA (k:=k) M fun i hi=>mF (z2 i hi)
      by_cases e:ia'+k+1=a.size
      ·rw [if_pos (by simpa using e)]
       exact wpS_pure ⟨S,.inl ⟨_,_,rfl,la M1 e⟩⟩
      rw [if_neg (by simpa using e)]
      by_cases e':ia'+k=a.size
      ·rw [if_pos (by simpa using e')]
       exact wpS_pure ⟨S,.inl ⟨_,_,rfl,dn M1 (.inl (by lia))⟩⟩
      rw [if_neg (by simpa using e')]
      have hia:ia'+k+1 < a.size:=by lia
      refine wpS_bind (aN h2 ?_)
      have M2:=p1B M1 h2 gt
      by_cases e3:ib'+1=b.size
      ·rw [if_pos (by simpa using e3)]
       exact wpS_pure ⟨S,.inl ⟨_,_,rfl,dn M2 (.inr (by lia))⟩⟩
      rw [if_neg (by simpa using e3)]
      refine wpS_bind (aN (show ia'+k < a.size by lia) (wpS_bind (ef C (S.1.trans hk) (show 0 < b.size-(ib'+1) by lia) (by lia) (fun i hi=>pb _ (by lia)) (pa _ (by lia)) (iq sB (by lia)) fun k2 y1 y2 y3=>?_)))
      dsimp only
      have ge:∀y∈b.toList.drop (ib'+1+k2),kl key (at_ a (ia'+k)) y:=fun y hy=>by
       obtain ⟨j,hj,rfl⟩:=j6 hy
       have:=mG (y3 (k2+j) (by lia) (by lia))
       rw [<- Nat.add_assoc] at this
       exact this
      by_cases hk2:k2 > 0
      ·rw [if_pos hk2]
       have M3:=pkB (k:=k2) M2 fun i hi=>jd (y2 i hi)
       by_cases e4:ib'+1+k2=b.size
       ·rw [if_pos (by simpa using e4)]
        exact wpS_pure ⟨S,.inl ⟨_,_,rfl,dn M3 (.inr (by lia))⟩⟩
       rw [if_neg (by simpa using e4)]
       refine wpS_bind (aN (show ia'+k < a.size by lia) ?_)
       have M4:=p1A M3 (by lia) ge
       by_cases e5:ia'+k+1+1=a.size
       ·rw [if_pos (by simpa using e5)]
        exact wpS_pure ⟨S,.inl ⟨_,_,rfl,la M4 e5⟩⟩
       rw [if_neg (by simpa using e5)]
       split
       ·exact wpS_pure ⟨S,.inr ⟨_,_,_,_,_,_,rfl,M4,by lia,by lia,by lia⟩⟩
       ·exact wpS_pure ⟨S,_,_,_,_,_,_,rfl,M4,by lia,by lia,by lia⟩
      ·rw [if_neg hk2]
       have hz:k2=0:=by lia
       subst hz
       refine wpS_bind (aN (show ia'+k < a.size by lia) ?_)
       have M4:=p1A M2 (by lia) ge
       by_cases e5:ia'+k+1+1=a.size
       ·rw [if_pos (by simpa using e5)]
        exact wpS_pure ⟨S,.inl ⟨_,_,rfl,la M4 e5⟩⟩
       rw [if_neg (by simpa using e5)]
       split
       ·exact wpS_pure ⟨S,.inr ⟨_,_,_,_,_,_,rfl,M4,by lia,by lia,by lia⟩⟩
       ·exact wpS_pure ⟨S,_,_,_,_,_,_,rfl,M4,by lia,by lia,by lia⟩
     ·rw [if_neg hk0]
      have hz:k=0:=by lia
      subst hz
      refine wpS_bind (aN h2 ?_)
      have M2:=p1B M h2 gt
      by_cases e3:ib'+1=b.size
      ·rw [if_pos (by simpa using e3)]
       exact wpS_pure ⟨S,.inl ⟨_,_,rfl,dn M2 (.inr (by lia))⟩⟩
      rw [if_neg (by simpa using e3)]
      refine wpS_bind (aN (show ia' < a.size by lia) (wpS_bind (ef C (S.1.trans hk) (show 0 < b.size-(ib'+1) by lia) (by lia) (fun i hi=>pb _ (by lia)) (pa _ (by lia)) (iq sB (by lia)) fun k2 y1 y2 y3=>?_)))
      dsimp only
      have ge:∀y∈b.toList.drop (ib'+1+k2),kl key (at_ a ia') y:=fun y hy=>by
       obtain ⟨j,hj,rfl⟩:=j6 hy
       have:=mG (y3 (k2+j) (by lia) (by lia))
       rw [<- Nat.add_assoc] at this
       exact this
      by_cases hk2:k2 > 0
      ·rw [if_pos hk2]
       have M3:=pkB (k:=k2) M2 fun i hi=>jd (y2 i hi)
       by_cases e4:ib'+1+k2=b.size
       ·rw [if_pos (by simpa using e4)]
        exact wpS_pure ⟨S,.inl ⟨_,_,rfl,dn M3 (.inr (by lia))⟩⟩
       rw [if_neg (by simpa using e4)]
       refine wpS_bind (aN (show ia' < a.size by lia) ?_)
       have M4:=p1A M3 (by lia) ge
       by_cases e5:ia'+1+1=a.size
       ·rw [if_pos (by simpa using e5)]
        exact wpS_pure ⟨S,.inl ⟨_,_,rfl,la M4 e5⟩⟩
       rw [if_neg (by simpa using e5)]
       split
       ·exact wpS_pure ⟨S,.inr ⟨_,_,_,_,_,_,rfl,M4,by lia,by lia,by lia⟩⟩
       ·exact wpS_pure ⟨S,_,_,_,_,_,_,rfl,M4,by lia,by lia,by lia⟩
      ·rw [if_neg hk2]
       have hz:k2=0:=by lia
       subst hz
       refine wpS_bind (aN (show ia' < a.size by lia) ?_)
       have M4:=p1A M2 (by lia) ge
       by_cases e5:ia'+1+1=a.size
       ·rw [if_pos (by simpa using e5)]
        exact wpS_pure ⟨S,.inl ⟨_,_,rfl,la M4 e5⟩⟩
       rw [if_neg (by simpa using e5)]
       split
       ·exact wpS_pure ⟨S,.inr ⟨_,_,_,_,_,_,rfl,M4,by lia,by lia,by lia⟩⟩
       ·exact wpS_pure ⟨S,_,_,_,_,_,_,rfl,M4,by lia,by lia,by lia⟩
end
end Tim
end
section
namespace Tim
open PySem PyProof.Rows
noncomputable def mhi:Array Keyed->Array Keyed->StateT SortSt Sem (Array Keyed):=sortPriv% PySem.Builtin.mergeHi
theorem ir (a:Array Keyed) (n:Nat):(a.extract 0 n).toList=a.toList.take n:=by
 have:=wW a 0 n
 rw [Nat.zero_add,List.drop_zero] at this;exact this
theorem nT (a:Array Keyed) (i n:Nat) (h:i<=n):(a.extract i n).toList=(a.toList.take n).drop i:=by
 have:=wW a i (n-i)
 rw [show i+(n-i)=n by lia] at this
 rw [this,List.drop_take]
theorem je {a:Array Keyed} {i n:Nat} {x:Keyed} (h:x∈(a.toList.take n).drop i):∃j,i<=j/\j < n/\j < a.size/\x=at_ a j:=by
 rw [List.drop_take] at h
 obtain ⟨j,h1,h2,h3⟩:=kY h
 exact ⟨i+j,by lia,by lia,h2,h3⟩
theorem jf {a:Array Keyed} {n:Nat} {x:Keyed} (h:x∈a.toList.take n):∃j,j < n/\j < a.size/\x=at_ a j:=by
 obtain ⟨j,_,h2,h3,h4⟩:=je (i:=0) (by rw [List.drop_zero];exact h)
 exact ⟨j,h2,h3,h4⟩
section
variable {prog:Program} {w:World} {A:Around} {E:Value->Shared->Prop} {s:Shared} {κ:SortKind} {O:KeyOrd} {key:Keyed->O.α} {P:Keyed->Prop}
theorem Bm (C:gL prog w A s κ O key P) {a b:Array Keyed} {st:SortSt} {Q:Array Keyed->SortSt->Prop} (hk:kindOf st=κ) (ha:0 < a.size) (hb:0 < b.size) (Pa:∀x∈a.toList,P x) (Pb:∀x∈b.toList,P x)
  (sA:a.toList.Pairwise (kl key)) (sB:b.toList.Pairwise (kl key)) (h0:∀y∈a.toList,kl key (at_ b 0) y) (hl:∀x∈b.toList,kl key x (at_ a (a.size-1)))
  (h:∀r st',Same st st'->Res (kl key) a.toList b.toList r.toList->Q r st'):wpS (model prog w) A E s (mhi a b) Q st:=by
 have pa:∀i,i < a.size->P (at_ a i):=fun i hi=>Pa _ (eg hi)
 have pb:∀i,i < b.size->P (at_ b i):=fun i hi=>Pb _ (eg hi)
 have M0:MH (kl key) a.toList b.toList (#[at_ a (a.size-1)]:Array Keyed).reverse.toList (a.size-1) b.size:=by
  have eR:(#[at_ a (a.size-1)]:Array Keyed).reverse.toList=[at_ a (a.size-1)]:=rfl
  rw [eR]
  refine ⟨?_,List.pairwise_singleton _ _,?_,?_⟩
  ·have e:=dt (l:=a.toList) (i:=a.size-1) (Value.none,Value.none) (by simp;lia)
   rw [getD_at (by lia),show a.size-1+1=a.size by lia,show a.toList.take a.size=a.toList from List.take_of_length_le (by simp)] at e
   rw [e,List.drop_eq_nil_of_le (by simp)]
   exact List.Perm.refl _
  ·intro x hx y hy
   obtain ⟨j,h1,h2,rfl⟩:=jf hx
   rw [List.mem_singleton] at hy;subst hy
   exact eh sA (by lia) (by lia)
  ·intro x hx y hy
   rw [List.mem_singleton] at hy;subst hy
   exact hl x (List.mem_of_mem_take hx)
 have dn:∀{out:Array Keyed} {na nb:Nat},MH (kl key) a.toList b.toList out.reverse.toList na nb->(na=0\/nb=0)->Res (kl key) a.toList b.toList (a.extract 0 na++b.extract 0 nb++out.reverse).toList:=fun M hh=>by
  rw [Array.toList_append,Array.toList_append,ir,ir]
  exact M.done sA sB (hh.imp (fun z=>by rw [z];rfl) fun z=>by rw [z];rfl)
 have fi:∀{out:Array Keyed} {na nb:Nat},MH (kl key) a.toList b.toList out.reverse.toList na nb->nb=1->Res (kl key) a.toList b.toList (b.extract 0 nb++a.extract 0 na++out.reverse).toList:=fun {out na nb} M hh=>by
  rw [Array.toList_append,Array.toList_append,ir,ir]
  refine M.first sA sB fun x hx y hy=>?_
  obtain ⟨j,h1,h2,rfl⟩:=jf hx
  rw [show j=0 by lia]
  exact h0 y hy
 have pkA:∀{out:Array Keyed} {na nb k:Nat},MH (kl key) a.toList b.toList out.reverse.toList na nb->k<=na->(∀x∈b.toList.take nb,∀j,k<=j->j < na->kl key x (at_ a j))->MH (kl key) a.toList b.toList (out++(a.extract k na).reverse).reverse.toList k nb:=fun {out na nb k} M hi q=>by
  have e:(out++(a.extract k na).reverse).reverse.toList=(a.toList.take na).drop k++out.reverse.toList:=by
   rw [Array.reverse_append,Array.reverse_reverse,Array.toList_append,nT a k na hi]
  rw [e]
  refine M.pushA sA hi fun x hx y hy=>?_
  obtain ⟨j,h1,h2,_,rfl⟩:=je hy
  exact q x hx j h1 h2
 have pkB:∀{out:Array Keyed} {na nb k:Nat},MH (kl key) a.toList b.toList out.reverse.toList na nb->k<=nb->(∀x∈a.toList.take na,∀j,k<=j->j < nb->kl key x (at_ b j))->MH (kl key) a.toList b.toList (out++(b.extract k nb).reverse).reverse.toList na k:=fun {out na nb k} M hi q=>by
  have e:(out++(b.extract k nb).reverse).reverse.toList=(b.toList.take nb).drop k++out.reverse.toList:=by
   rw [Array.reverse_append,Array.reverse_reverse,Array.toList_append,nT b k nb hi]
  rw [e]
  refine M.pushB sB hi fun x hx y hy=>?_
  obtain ⟨j,h1,h2,_,rfl⟩:=je hy
  exact q x hx j h1 h2
 have p1A:∀{out:Array Keyed} {na nb:Nat},MH (kl key) a.toList b.toList out.reverse.toList na nb->0 < na->na<=a.size->(∀x∈b.toList.take nb,kl key x (at_ a (na-1)))->MH (kl key) a.toList b.toList (out.push (at_ a (na-1))).reverse.toList (na-1) nb:=fun {out na nb} M h1 h2 q=>by
  have e:(out.push (at_ a (na-1))).reverse.toList=(a.toList.take na).drop (na-1)++out.reverse.toList:=by
   have z:=dt (l:=a.toList) (i:=na-1) (Value.none,Value.none) (by simp;lia)
   rw [show na-1+1=na by lia,getD_at (by lia)] at z
   rw [z];simp
  rw [e]
  refine M.pushA sA (by lia) fun x hx y hy=>?_
  obtain ⟨j,g1,g2,_,rfl⟩:=je hy
  rw [show j=na-1 by lia]
  exact q x hx
 have p1B:∀{out:Array Keyed} {na nb:Nat},MH (kl key) a.toList b.toList out.reverse.toList na nb->0 < nb->nb<=b.size->(∀x∈a.toList.take na,kl key x (at_ b (nb-1)))->MH (kl key) a.toList b.toList (out.push (at_ b (nb-1))).reverse.toList na (nb-1):=fun {out na nb} M h1 h2 q=>by
  have e:(out.push (at_ b (nb-1))).reverse.toList=(b.toList.take nb).drop (nb-1)++out.reverse.toList:=by
   have z:=dt (l:=b.toList) (i:=nb-1) (Value.none,Value.none) (by simp;lia)
   rw [show nb-1+1=nb by lia,getD_at (by lia)] at z
   rw [z];simp
  rw [e]
  refine M.pushB sB (by lia) fun x hx y hy=>?_
  obtain ⟨j,g1,g2,_,rfl⟩:=je hy
  rw [show j=nb-1 by lia]
  exact q x hx
 have tA:∀{n:Nat} {x:Keyed},n<=a.size->x∈a.toList.take n->kl key x (at_ a (n-1)):=fun {n x} hn hx=>by
  obtain ⟨j,h1,h2,rfl⟩:=jf hx
  exact eh sA (by lia) (by lia)
 have tB:∀{n:Nat} {x:Keyed},n<=b.size->x∈b.toList.take n->kl key x (at_ b (n-1)):=fun {n x} hn hx=>by
  obtain ⟨j,h1,h2,rfl⟩:=jf hx
  exact eh sB (by lia) (by lia)
 delta mhi
 refine wpS_bind (wpS_lift (wpAny_rule ⟨rfl,?_⟩))
 dsimp only
 refine wpS_bind (aN (show a.size-1 < a.size by lia) ?_)
 by_cases e1:a.size-1=0
 ·rw [if_pos (by simpa using e1)]
  exact wpS_pure (h _ _ Same.rfl' (dn M0 (.inl e1)))
 rw [if_neg (by simpa using e1)]
 by_cases e2:b.size=1
 ·rw [if_pos (by simpa using e2)]
  exact wpS_pure (h _ _ Same.rfl' (fi M0 e2))
 rw [if_neg (by simpa using e2)]
 refine wpS_bind (wpS_get ?_)
 refine wpS_bind (wpS_mono (wpS_forRange (I:=fun x c st'=>Same st st'/\∃(na nb:Nat) (out:Array Keyed) (mg:Nat),c=(none,na,nb,out,mg)/\MH (kl key) a.toList b.toList out.reverse.toList na nb/\0 < na/\na<=a.size/\1 < nb/\nb<=b.size/\na+nb+x+1<=a.size+b.size)
  (Q:=fun c st'=>Same st st'/\∃(r:Array Keyed) (z:Nat×Nat×Array Keyed×Nat),c=(some r,z)/\Res (kl key) a.toList b.toList r.toList) ?step ?fin ⟨Same.rfl',_,_,_,_,rfl,M0,by lia,by lia,by lia,by lia,by lia⟩) ?post)
 case post=>
  rintro c st' ⟨S,r,z,rfl,R⟩
  exact wpS_pure (h r st' S R)
 case fin=>
  rintro c st' ⟨S,na,nb,out,mg,rfl,M,h1,h2,h3,h4,h5⟩
  lia
 case step=>
  rintro x c st' _ hx ⟨S,na,nb,out,mg,rfl,M,h1,h1',h2,h2',h3⟩
  dsimp only
  refine wpS_bind (wpS_mono (wpS_forRange (I:=fun y c st''=>Same st st''/\∃(na' nb':Nat) (out:Array Keyed) (ac bc:Nat),c=(none,na',nb',out,ac,bc)/\MH (kl key) a.toList b.toList out.reverse.toList na' nb'/\0 < na'/\na'<=a.size/\1 < nb'/\nb'<=b.size/\na'+nb'+y<=na+nb)
   (Q:=fun c st''=>Same st st''/\((∃(r:Array Keyed) (z:Nat×Nat×Array Keyed×Nat×Nat),c=(some r,z)/\Res (kl key) a.toList b.toList r.toList) \/
    ∃(na' nb':Nat) (out:Array Keyed) (ac bc:Nat),c=(none,na',nb',out,ac,bc)/\MH (kl key) a.toList b.toList out.reverse.toList na' nb'/\0 < na'/\na'<=a.size/\1 < nb'/\nb'<=b.size/\na'+nb'+1<=na+nb)) ?s1 ?f1 ⟨S,na,nb,out,0,0,rfl,M,h1,h1',h2,h2',by lia⟩) ?p1)
  case f1=>
   rintro c st2 ⟨S,na',nb',out,ac,bc,rfl,M,h1,h1',h2,h2',h3⟩
   exact ⟨S,.inr ⟨na',nb',out,ac,bc,rfl,M,h1,h1',h2,h2',by lia⟩⟩
  case s1=>
   rintro y c st2 _ hy ⟨S,na',nb',out,ac,bc,rfl,M,h1,h1',h2,h2',h3⟩
   dsimp only
   refine wpS_bind (aN (show nb'-1 < b.size by lia) (wpS_bind (aN (show na'-1 < a.size by lia) (wpS_bind (mE C (pb _ (by lia)) (pa _ (by lia)) (S.1.trans hk) ?_)))))
   dsimp only
   cases hc:O.blt (key (at_ b (nb'-1))) (key (at_ a (na'-1))) with
   | true=>
    rw [if_pos rfl]
    refine wpS_bind (aN (show na'-1 < a.size by lia) ?_)
    have M1:=p1A M h1 h1' fun x hx=>KeyOrd.kle_trans (tB h2' hx) (KeyOrd.kle_of_klt hc)
    by_cases e:na'-1=0
    ·rw [if_pos (by simpa using e)]
     exact wpS_pure ⟨S,.inl ⟨_,_,rfl,dn M1 (.inl e)⟩⟩
    ·rw [if_neg (by simpa using e)]
     split
     ·exact wpS_pure ⟨S,.inr ⟨_,_,_,_,_,rfl,M1,by lia,by lia,by lia,by lia,by lia⟩⟩
     ·exact wpS_pure ⟨S,_,_,_,_,_,rfl,M1,by lia,by lia,by lia,by lia,by lia⟩
   | false=>
    rw [if_neg (by simp)]
    refine wpS_bind (aN (show nb'-1 < b.size by lia) ?_)
    have M1:=p1B M (by lia) h2' fun x hx=>KeyOrd.kle_trans (tA h1' hx) (show kl key (at_ a (na'-1)) (at_ b (nb'-1)) from hc)
    by_cases e:nb'-1=1
    ·rw [if_pos (by simpa using e)]
     exact wpS_pure ⟨S,.inl ⟨_,_,rfl,fi M1 e⟩⟩
    ·rw [if_neg (by simpa using e)]
     split
     ·exact wpS_pure ⟨S,.inr ⟨_,_,_,_,_,rfl,M1,by lia,by lia,by lia,by lia,by lia⟩⟩
     ·exact wpS_pure ⟨S,_,_,_,_,_,rfl,M1,by lia,by lia,by lia,by lia,by lia⟩
  case p1=>
   rintro c st2 ⟨S,⟨r,z,rfl,R⟩ | ⟨na',nb',out,ac,bc,rfl,M,h1,h1',h2,h2',h3⟩⟩
   ·exact wpS_pure ⟨S,_,_,rfl,R⟩
   dsimp only
   refine wpS_bind (wpS_lift (wpAny_rule ⟨rfl,?_⟩))
   refine wpS_bind (wpS_mono (wpS_forRange (I:=fun y c st''=>Same st st''/\∃(na' nb':Nat) (out:Array Keyed) (mg ac bc:Nat),c=(none,na',nb',out,mg,ac,bc)/\MH (kl key) a.toList b.toList out.reverse.toList na' nb'/\0 < na'/\na'<=a.size/\1 < nb'/\nb'<=b.size/\na'+nb'+1<=na+nb)
    (Q:=fun c st''=>Same st st''/\((∃(r:Array Keyed) (z:Nat×Nat×Array Keyed×Nat×Nat×Nat),c=(some r,z)/\Res (kl key) a.toList b.toList r.toList) \/
     ∃(na' nb':Nat) (out:Array Keyed) (mg ac bc:Nat),c=(none,na',nb',out,mg,ac,bc)/\MH (kl key) a.toList b.toList out.reverse.toList na' nb'/\0 < na'/\na'<=a.size/\1 < nb'/\nb'<=b.size/\na'+nb'+1<=na+nb)) ?s2 ?f2 ⟨S,na',nb',out,_,ac,bc,rfl,M,h1,h1',h2,h2',h3⟩) ?p2)
   case f2=>
    rintro c st3 ⟨S,na',nb',out,mg,ac,bc,rfl,M,h1,h1',h2,h2',h3⟩
    exact ⟨S,.inr ⟨na',nb',out,mg,ac,bc,rfl,M,h1,h1',h2,h2',h3⟩⟩
   case p2=>
    rintro c st3 ⟨S,⟨r,z,rfl,R⟩ | ⟨na',nb',out,mg,ac,bc,rfl,M,h1,h1',h2,h2',h3⟩⟩
    ·exact wpS_pure ⟨S,_,_,rfl,R⟩
    ·dsimp only
     exact wpS_bind (wpS_modify (wpS_pure ⟨S,_,_,_,_,rfl,M,h1,h1',h2,h2',by lia⟩))
   case s2=>
    rintro y c st3 _ hy ⟨S,na',nb',out,mg,ac,bc,rfl,M,h1,h1',h2,h2',h3⟩
    dsimp only
    rcases Nat.lt_or_ge 1 mg with hm | hm
    case' inl=>rw [if_pos hm]
    case' inr=>rw [if_neg (Nat.not_lt.mpr hm)]
    all_goals
     refine wpS_bind (wpS_modify ?_)
     refine wpS_bind (aN (show nb'-1 < b.size by lia) (wpS_bind (ef C (S.1.trans hk) (show na'-1 < na' by lia) (by lia) (fun i hi=>pa _ (by lia)) (pb _ (by lia)) (o9 sA (by lia)) fun k z1 z2 z3=>?_)))
     simp only [Nat.zero_add] at z2 z3
     dsimp only
     have le1:∀x∈a.toList.take k,kl key x (at_ b (nb'-1)):=fun x hx=>by
      obtain ⟨j,g1,g2,rfl⟩:=jf hx
      exact mF (z2 j g1)
     have M1:=pkA (k:=k) M z1 fun x hx j g1 g2=>KeyOrd.kle_trans (tB h2' hx) (KeyOrd.kle_of_klt (sX (z3 j g1 g2)))
     by_cases hk0:na'-k > 0
     ·rw [if_pos hk0]
      by_cases e:k=0
      ·rw [if_pos (by simpa using e)]
       exact wpS_pure ⟨S,.inl ⟨_,_,rfl,dn M1 (.inl e)⟩⟩
      rw [if_neg (by simpa using e)]
      have hk1:0 < k:=by lia
      refine wpS_bind (aN (show nb'-1 < b.size by lia) ?_)
      have M2:=p1B M1 (by lia) h2' le1
      by_cases e3:nb'-1=1
      ·rw [if_pos (by simpa using e3)]
       exact wpS_pure ⟨S,.inl ⟨_,_,rfl,fi M2 e3⟩⟩
      rw [if_neg (by simpa using e3)]
      refine wpS_bind (aN (show k-1 < a.size by lia) (wpS_bind (ef C (S.1.trans hk) (show nb'-1-1 < nb'-1 by lia) (by lia) (fun i hi=>pb _ (by lia)) (pa _ (by lia)) (iq sB (by lia)) fun k2 y1 y2 y3=>?_)))
      simp only [Nat.zero_add] at y2 y3
      dsimp only
      have lt2:∀x∈b.toList.take k2,kl key x (at_ a (k-1)):=fun x hx=>by
       obtain ⟨j,g1,g2,rfl⟩:=jf hx
       exact KeyOrd.kle_of_klt (jd (y2 j g1))
      have M3:=pkB (k:=k2) M2 y1 fun x hx j g1 g2=>KeyOrd.kle_trans (tA (by lia) hx) (mG (y3 j g1 g2))
      by_cases hk2:nb'-1-k2 > 0
      ·rw [if_pos hk2]
       by_cases e4:k2=1
       ·rw [if_pos (by simpa using e4)]
        exact wpS_pure ⟨S,.inl ⟨_,_,rfl,fi M3 e4⟩⟩
       rw [if_neg (by simpa using e4)]
       by_cases e6:k2=0
       ·rw [if_pos (by simpa using e6)]
        exact wpS_pure ⟨S,.inl ⟨_,_,rfl,dn M3 (.inr e6)⟩⟩
       rw [if_neg (by simpa using e6)]
       refine wpS_bind (aN (show k-1 < a.size by lia) ?_)
       have M4:=p1A M3 hk1 (by lia) lt2
       by_cases e5:k-1=0
       ·rw [if_pos (by simpa using e5)]
        exact wpS_pure ⟨S,.inl ⟨_,_,rfl,dn M4 (.inl e5)⟩⟩
       rw [if_neg (by simpa using e5)]
       split
       ·exact wpS_pure ⟨S,.inr ⟨_,_,_,_,_,_,rfl,M4,by lia,by lia,by lia,by lia,by lia⟩⟩
       ·exact wpS_pure ⟨S,_,_,_,_,_,_,rfl,M4,by lia,by lia,by lia,by lia,by lia⟩
      ·rw [if_neg hk2]
       have hz:k2=nb'-1:=by lia
       rw [hz] at lt2
       refine wpS_bind (aN (show k-1 < a.size by lia) ?_)
       have M4:=p1A M2 hk1 (by lia) lt2
       by_cases e5:k-1=0
       ·rw [if_pos (by simpa using e5)]
        exact wpS_pure ⟨S,.inl ⟨_,_,rfl,dn M4 (.inl e5)⟩⟩
       rw [if_neg (by simpa using e5)]
       split
       ·exact wpS_pure ⟨S,.inr ⟨_,_,_,_,_,_,rfl,M4,by lia,by lia,by lia,by lia,by lia⟩⟩
       ·exact wpS_pure ⟨S,_,_,_,_,_,_,rfl,M4,by lia,by lia,by lia,by lia,by lia⟩
     ·rw [if_neg hk0]
      have hz:k=na':=by lia
      have M1:=M
      subst hz
      have hk1:0 < k:=by lia
      refine wpS_bind (aN (show nb'-1 < b.size by lia) ?_)
      have M2:=p1B M1 (by lia) h2' le1
      by_cases e3:nb'-1=1
      ·rw [if_pos (by simpa using e3)]
       exact wpS_pure ⟨S,.inl ⟨_,_,rfl,fi M2 e3⟩⟩
      rw [if_neg (by simpa using e3)]
      refine wpS_bind (aN (show k-1 < a.size by lia) (wpS_bind (ef C (S.1.trans hk) (show nb'-1-1 < nb'-1 by lia) (by lia) (fun i hi=>pb _ (by lia)) (pa _ (by lia)) (iq sB (by lia)) fun k2 y1 y2 y3=>?_)))
      simp only [Nat.zero_add] at y2 y3
      dsimp only
      have lt2:∀x∈b.toList.take k2,kl key x (at_ a (k-1)):=fun x hx=>by
       obtain ⟨j,g1,g2,rfl⟩:=jf hx
       exact KeyOrd.kle_of_klt (jd (y2 j g1))
      have M3:=pkB (k:=k2) M2 y1 fun x hx j g1 g2=>KeyOrd.kle_trans (tA (by lia) hx) (mG (y3 j g1 g2))
      by_cases hk2:nb'-1-k2 > 0
      ·rw [if_pos hk2]
       by_cases e4:k2=1
       ·rw [if_pos (by simpa using e4)]
        exact wpS_pure ⟨S,.inl ⟨_,_,rfl,fi M3 e4⟩⟩
       rw [if_neg (by simpa using e4)]
       by_cases e6:k2=0
       ·rw [if_pos (by simpa using e6)]
        exact wpS_pure ⟨S,.inl ⟨_,_,rfl,dn M3 (.inr e6)⟩⟩
       rw [if_neg (by simpa using e6)]
       refine wpS_bind (aN (show k-1 < a.size by lia) ?_)
       have M4:=p1A M3 hk1 (by lia) lt2
       by_cases e5:k-1=0
       ·rw [if_pos (by simpa using e5)]
        exact wpS_pure ⟨S,.inl ⟨_,_,rfl,dn M4 (.inl e5)⟩⟩
       rw [if_neg (by simpa using e5)]
       split
       ·exact wpS_pure ⟨S,.inr ⟨_,_,_,_,_,_,rfl,M4,by lia,by lia,by lia,by lia,by lia⟩⟩
       ·exact wpS_pure ⟨S,_,_,_,_,_,_,rfl,M4,by lia,by lia,by lia,by lia,by lia⟩
      ·rw [if_neg hk2]
       have hz:k2=nb'-1:=by lia
       rw [hz] at lt2
       refine wpS_bind (aN (show k-1 < a.size by lia) ?_)
       have M4:=p1A M2 hk1 (by lia) lt2
       by_cases e5:k-1=0
       ·rw [if_pos (by simpa using e5)]
        exact wpS_pure ⟨S,.inl ⟨_,_,rfl,dn M4 (.inl e5)⟩⟩
       rw [if_neg (by simpa using e5)]
       split
       ·exact wpS_pure ⟨S,.inr ⟨_,_,_,_,_,_,rfl,M4,by lia,by lia,by lia,by lia,by lia⟩⟩
       ·exact wpS_pure ⟨S,_,_,_,_,_,_,rfl,M4,by lia,by lia,by lia,by lia,by lia⟩
end
end Tim
end
section
namespace Tim
open PySem PyProof.Rows
section
variable {prog:Program} {w:World} {A:Around} {E:Value->Shared->Prop} {s:Shared} {κ:SortKind} {O:KeyOrd} {key:Keyed->O.α} {P:Keyed->Prop}
noncomputable def Sg {O:KeyOrd} (key:Keyed->O.α) (a:Array Keyed) (lo hi:Nat):Prop:=∀i j,lo<=i->i<=j->j < hi->kl key (at_ a i) (at_ a j)
noncomputable def Fl {O:KeyOrd} (key:Keyed->O.α) (a:Array Keyed) (lo hi:Nat):Prop:=∀i j,lo<=i->i<=j->j < hi->kl key (at_ a j) (at_ a i)
structure Mv (lo:Nat) (st st':SortSt):Prop where
 kind:kindOf st'=kindOf st
 pend:pendingOf st'=pendingOf st
 fail:failedOf st'=failedOf st
 perm:(arrOf st').Perm (arrOf st)
 pre:∀i,i < lo->(arrOf st')[i]?=(arrOf st)[i]?
theorem Mv.rfl' {lo:Nat} {st:SortSt}:Mv lo st st:=⟨rfl,rfl,rfl,Array.Perm.refl _,fun _ _=>rfl⟩
theorem Mv.size {lo:Nat} {st st':SortSt} (h:Mv lo st st'):(arrOf st').size=(arrOf st).size:=h.perm.size_eq
theorem Mv.all {lo:Nat} {st st':SortSt} (h:Mv lo st st') (hP:∀x∈(arrOf st).toList,P x):∀x∈(arrOf st').toList,P x:=fun x hx=>hP x ((Array.perm_iff_toList_perm.mp h.perm).mem_iff.mp hx)
theorem bO {xs:Array Keyed} {i j:Nat} (hj:j<=xs.size) (k:Nat):at_ (mirror xs i j ((j-i) / 2)) k=if i<=k/\k < j then at_ xs (i+j-1-k) else at_ xs k:=by
 have z:=getElem?_mirror_all (i:=i) hj k
 by_cases c:i<=k/\k < j
 ·rw [if_pos c] at z ⊢;exact bp z
 ·rw [if_neg c] at z ⊢;exact bp z
theorem cZ {xs:Array Keyed} {i j:Nat} (hj:j<=xs.size) (he:∀k,i<=k->k < j->key (at_ xs k)=key (at_ xs (j-1))) (k:Nat):key (at_ (mirror xs i j ((j-i) / 2)) k)=key (at_ xs k):=by
 rw [bO hj]
 split
 ·rename_i c;rw [he _ (by lia) (by lia),he k c.1 c.2]
 ·rfl
theorem Mv.rev {lo:Nat} {st st':SortSt} (h:Mv lo st st') {i j:Nat} (hi:lo<=i) (hj:j<=(arrOf st').size):Mv lo st (setArr st' (mirror (arrOf st') i j ((j-i) / 2))):=
 ⟨h.kind,h.pend,h.fail,(mirror_perm _ _ _ _).trans h.perm,fun k hk=>by
  rw [<- h.pre k hk]
  show (mirror (arrOf st') i j ((j-i) / 2))[k]?=_
  rw [getElem?_mirror_all hj,if_neg (by lia)]⟩
theorem b8 (C:gL prog w A s κ O key P) {st:SortSt} {i j:Nat} {Q:Option Bool->SortSt->Prop} (hk:kindOf st=κ) (hP:∀x∈(arrOf st).toList,P x) (hi:i < (arrOf st).size) (hj:j < (arrOf st).size)
  (h:Q (some (O.blt (key (at_ (arrOf st) i)) (key (at_ (arrOf st) j)))) st):wpS (model prog w) A E s (ltAt' i j) Q st:=by
 rw [ltAt'_eq]
 refine wpS_bind (wpS_get (wpS_bind (aN hi (wpS_bind (aN hj (mE C (hP _ (eg hi)) (hP _ (eg hj)) hk h))))))
theorem Sg.one {a:Array Keyed} {lo:Nat}:Sg key a lo (lo+1):=fun i j h1 h2 h3=>by
 rw [show i=j by lia];exact KeyOrd.kle_refl _
theorem Sg.more {a:Array Keyed} {lo n:Nat} (h:Sg key a lo (lo+n)) (h1:1<=n) (q:kl key (at_ a (lo+n-1)) (at_ a (lo+n))):Sg key a lo (lo+(n+1)):=fun i j z1 z2 z3=>by
 by_cases hj:j=lo+n
 ·subst hj
  by_cases hi:i=lo+n
  ·subst hi;exact KeyOrd.kle_refl _
  ·exact KeyOrd.kle_trans (h i (lo+n-1) z1 (by lia) (by lia)) q
 ·exact h i j z1 z2 (by lia)
theorem Fl.more {a:Array Keyed} {lo n:Nat} (h:Fl key a lo (lo+n)) (h1:1<=n) (q:kl key (at_ a (lo+n)) (at_ a (lo+n-1))):Fl key a lo (lo+(n+1)):=fun i j z1 z2 z3=>by
 by_cases hj:j=lo+n
 ·subst hj
  by_cases hi:i=lo+n
  ·subst hi;exact KeyOrd.kle_refl _
  ·exact KeyOrd.kle_trans q (h i (lo+n-1) z1 (by lia) (by lia))
 ·exact h i j z1 z2 (by lia)
theorem Fl.congr {a b:Array Keyed} {lo hi:Nat} (h:Fl key a lo hi) (e:∀k,key (at_ b k)=key (at_ a k)):Fl key b lo hi:=fun i j z1 z2 z3=>by
 show O.kle _ _
 rw [e,e];exact h i j z1 z2 z3
theorem Bn (C:gL prog w A s κ O key P) {st:SortSt} {lo nrem:Nat} {Q:Option Nat->SortSt->Prop} (hk:kindOf st=κ) (hP:∀x∈(arrOf st).toList,P x) (hz:lo+nrem<=(arrOf st).size) (h1:1<=nrem)
  (h:∀n st',Mv lo st st'->1<=n->n<=nrem->Sg key (arrOf st') lo (lo+n)->Q (some n) st'):wpS (model prog w) A E s (countRun' lo nrem) Q st:=by
 rw [countRun'_eq]
 refine wpS_bind (wpS_mono (wpS_forRange (I:=fun k c st'=>st'=st/\c=(none,k)/\k<=nrem/\1<=k/\Sg key (arrOf st) lo (lo+k))
  (Q:=fun c st'=>st'=st/\∃n,c=(none,n)/\1<=n/\n<=nrem/\Sg key (arrOf st) lo (lo+n)/\(n < nrem->O.klt (key (at_ (arrOf st) (lo+n))) (key (at_ (arrOf st) (lo+n-1))))) ?step ?fin ⟨rfl,rfl,h1,by lia,Sg.one⟩) ?post)
 case fin=>
  rintro c st' ⟨rfl,rfl,a1,a2,a3⟩
  exact ⟨rfl,_,rfl,by lia,by lia,a3,fun z=>by lia⟩
 case step=>
  rintro k c st' _ hkn ⟨rfl,rfl,a1,a2,a3⟩
  dsimp only
  refine wpS_bind (b8 C hk hP (by lia) (by lia) ?_)
  dsimp only
  cases hc:O.blt (key (at_ (arrOf st') (lo+k))) (key (at_ (arrOf st') (lo+k-1))) with
  | true=>rw [if_pos rfl];exact wpS_pure ⟨rfl,k,rfl,a2,a1,a3,fun _=>hc⟩
  | false=>rw [if_neg (by simp)];exact wpS_pure ⟨rfl,rfl,by lia,by lia,a3.more a2 hc⟩
 case post=>
  rintro c st' ⟨rfl,n,rfl,n1,n2,n3,n4⟩
  dsimp only
  by_cases e:n=nrem
  ·rw [if_pos (by simpa using e)]
   exact wpS_pure (h n st' Mv.rfl' n1 n2 n3)
  rw [if_neg (by simpa using e)]
  have n4:=n4 (by lia)
  by_cases hn:n > 1
  ·rw [if_pos hn]
   refine wpS_bind (b8 C hk hP (by lia) (by lia) ?_)
   dsimp only
   cases hc:O.blt (key (at_ (arrOf st') lo)) (key (at_ (arrOf st') (lo+n-1))) with
   | true=>rw [if_pos rfl];exact wpS_pure (h n st' Mv.rfl' n1 n2 n3)
   | false=>
    rw [if_neg (by simp),reverseSlice'_eq]
    have eq:∀k,lo<=k->k < lo+n->key (at_ (arrOf st') k)=key (at_ (arrOf st') (lo+n-1)):=fun k k1 k2=>
     KeyOrd.kle_antisymm (n3 k (lo+n-1) k1 (by lia) (by lia)) (KeyOrd.kle_trans hc (n3 lo k (by lia) k1 (by lia)))
    have ek:=cZ (key:=key) (xs:=arrOf st') (i:=lo) (j:=lo+n) (by lia) eq
    refine wpS_bind (wpS_modify ?_)
    have M1:=(Mv.rfl' (lo:=lo) (st:=st')).rev (i:=lo) (j:=lo+n) (Nat.le_refl _) (by lia)
    have F1:Fl key (arrOf (setArr st' (mirror (arrOf st') lo (lo+n) ((lo+n-lo) / 2)))) lo (lo+(n+1)):=by
     refine Fl.congr (a:=arrOf st') (Fl.more (fun i j z1 z2 z3=>?_) n1 (KeyOrd.kle_of_klt n4)) ek
     show O.kle _ _
     rw [eq i z1 (by lia),eq j (by lia) z3];exact KeyOrd.kle_refl _
    generalize setArr st' (mirror (arrOf st') lo (lo+n) ((lo+n-lo) / 2))=st1 at M1 F1 ⊢
    refine wpS_bind (wpS_lift (wpAny_rule ⟨rfl,?_⟩))
    refine wpS_bind (wpS_mono (wpS_forRange (I:=fun k c st2=>Mv lo st' st2/\∃q,c=(none,k,q)/\k<=nrem/\q+1<=k/\Fl key (arrOf st2) lo (lo+k)/\(∀i,lo+k-(q+1)<=i->i < lo+k->key (at_ (arrOf st2) i)=key (at_ (arrOf st2) (lo+k-1))))
     (Q:=fun c st2=>Mv lo st' st2/\∃k q,c=(none,k,q)/\k<=nrem/\q+1<=k/\Fl key (arrOf st2) lo (lo+k)/\(∀i,lo+k-(q+1)<=i->i < lo+k->key (at_ (arrOf st2) i)=key (at_ (arrOf st2) (lo+k-1)))) ?dstep ?dfin ⟨M1,0,rfl,by lia,by lia,F1,fun i g1 g2=>by rw [show i=lo+(n+1)-1 by lia]⟩) ?dpost)
    case dfin=>
     rintro c st2 ⟨M2,q,rfl,a1,a2,a3,a4⟩
     exact ⟨M2,_,q,rfl,a1,a2,a3,a4⟩
    case dstep=>
     rintro k c st2 hk1 hkn ⟨M2,q,rfl,a1,a2,a3,a4⟩
     have hz2:lo+nrem<=(arrOf st2).size:=by rw [M2.size];exact hz
     have hk2:kindOf st2=κ:=M2.kind.trans hk
     have hP2:=M2.all hP
     dsimp only
     refine wpS_bind (b8 C hk2 hP2 (by lia) (by lia) ?_)
     dsimp only
     cases hc:O.blt (key (at_ (arrOf st2) (lo+k))) (key (at_ (arrOf st2) (lo+k-1))) with
     | true=>
      rw [if_pos rfl]
      have F2:=a3.more (by lia) (KeyOrd.kle_of_klt hc)
      by_cases hq:q > 0
      ·rw [if_pos hq,reverseSlice'_eq]
       have ek:=cZ (key:=key) (xs:=arrOf st2) (i:=lo+k-(q+1)) (j:=lo+k) (by lia) a4
       refine wpS_bind (wpS_modify (wpS_pure ⟨M2.rev (by lia) (by lia),0,rfl,by lia,by lia,F2.congr ek,fun i g1 g2=>?_⟩))
       rw [show i=lo+(k+1)-1 by lia]
      ·rw [if_neg hq]
       exact wpS_pure ⟨M2,0,rfl,by lia,by lia,F2,fun i g1 g2=>by rw [show i=lo+(k+1)-1 by lia]⟩
     | false=>
      rw [if_neg (by simp)]
      refine wpS_bind (b8 C hk2 hP2 (by lia) (by lia) ?_)
      dsimp only
      cases hd:O.blt (key (at_ (arrOf st2) (lo+k-1))) (key (at_ (arrOf st2) (lo+k))) with
      | true=>rw [if_pos rfl];exact wpS_pure ⟨M2,k,q,rfl,a1,a2,a3,a4⟩
      | false=>
       rw [if_neg (by simp)]
       have eq1:key (at_ (arrOf st2) (lo+k))=key (at_ (arrOf st2) (lo+k-1)):=O.total _ _ hc hd
       refine wpS_pure ⟨M2,q+1,rfl,by lia,by lia,a3.more (by lia) hd,fun i g1 g2=>?_⟩
       rw [show lo+(k+1)-1=lo+k by lia]
       by_cases hi:i=lo+k
       ·rw [hi]
       ·rw [eq1];exact a4 i (by lia) (by lia)
    case dpost=>
     rintro c st2 ⟨M2,k,q,rfl,a1,a2,a3,a4⟩
     have hz2:lo+nrem<=(arrOf st2).size:=by rw [M2.size];exact hz
     dsimp only
     by_cases hq:q > 0
     ·rw [if_pos hq,reverseSlice'_eq]
      have ek:=cZ (key:=key) (xs:=arrOf st2) (i:=lo+k-(q+1)) (j:=lo+k) (by lia) a4
      refine wpS_bind (wpS_modify ?_)
      have M3:=M2.rev (i:=lo+k-(q+1)) (j:=lo+k) (by lia) (by lia)
      have F3:Fl key (arrOf (setArr st2 (mirror (arrOf st2) (lo+k-(q+1)) (lo+k) ((lo+k-(lo+k-(q+1))) / 2)))) lo (lo+k):=a3.congr ek
      generalize setArr st2 (mirror (arrOf st2) (lo+k-(q+1)) (lo+k) ((lo+k-(lo+k-(q+1))) / 2))=st3 at M3 F3 ⊢
      have hz3:lo+nrem<=(arrOf st3).size:=by rw [M3.size];exact hz
      rw [reverseSlice'_eq]
      refine wpS_bind (wpS_modify ?_)
      have M4:=M3.rev (i:=lo) (j:=lo+k) (Nat.le_refl _) (by lia)
      have S4:Sg key (arrOf (setArr st3 (mirror (arrOf st3) lo (lo+k) ((lo+k-lo) / 2)))) lo (lo+k):=fun i j g1 g2 g3=>by
       show kl key (at_ (mirror (arrOf st3) lo (lo+k) ((lo+k-lo) / 2)) i) (at_ (mirror (arrOf st3) lo (lo+k) ((lo+k-lo) / 2)) j)
       rw [bO (by lia),bO (by lia),if_pos ⟨g1,by lia⟩,if_pos ⟨by lia,g3⟩]
       exact F3 _ _ (by lia) (by lia) (by lia)
      generalize setArr st3 (mirror (arrOf st3) lo (lo+k) ((lo+k-lo) / 2))=st4 at M4 S4 ⊢
      have hz4:lo+nrem<=(arrOf st4).size:=by rw [M4.size];exact hz
      have hk4:kindOf st4=κ:=M4.kind.trans hk
      have hP4:=M4.all hP
      refine wpS_bind (wpS_mono (wpS_forRange (I:=fun i c st5=>st5=st4/\c=(none,i)/\i<=nrem/\1<=i/\Sg key (arrOf st4) lo (lo+i)) (Q:=fun c st5=>st5=st4/\∃i,c=(none,i)/\i<=nrem/\1<=i/\Sg key (arrOf st4) lo (lo+i)) ?tstep ?tfin ⟨rfl,rfl,a1,by lia,S4⟩) ?tpost)
      case tfin=>
       rintro c st5 ⟨rfl,rfl,b1,b2,b3⟩
       exact ⟨rfl,_,rfl,b1,b2,b3⟩
      case tstep=>
       rintro i c st5 _ hi ⟨rfl,rfl,b1,b2,b3⟩
       dsimp only
       refine wpS_bind (b8 C hk4 hP4 (by lia) (by lia) ?_)
       dsimp only
       cases hc:O.blt (key (at_ (arrOf st5) (lo+i))) (key (at_ (arrOf st5) (lo+i-1))) with
       | true=>rw [if_pos rfl];exact wpS_pure ⟨rfl,i,rfl,b1,b2,b3⟩
       | false=>rw [if_neg (by simp)];exact wpS_pure ⟨rfl,rfl,by lia,by lia,b3.more b2 hc⟩
      case tpost=>
       rintro c st5 ⟨rfl,i,rfl,b1,b2,b3⟩
       exact wpS_pure (h i st5 M4 b2 b1 b3)
     ·rw [if_neg hq]
      have M3:=M2
      have F3:=a3
      have hz3:lo+nrem<=(arrOf st2).size:=by rw [M3.size];exact hz
      rw [reverseSlice'_eq]
      refine wpS_bind (wpS_modify ?_)
      have M4:=M3.rev (i:=lo) (j:=lo+k) (Nat.le_refl _) (by lia)
      have S4:Sg key (arrOf (setArr st2 (mirror (arrOf st2) lo (lo+k) ((lo+k-lo) / 2)))) lo (lo+k):=fun i j g1 g2 g3=>by
       show kl key (at_ (mirror (arrOf st2) lo (lo+k) ((lo+k-lo) / 2)) i) (at_ (mirror (arrOf st2) lo (lo+k) ((lo+k-lo) / 2)) j)
       rw [bO (by lia),bO (by lia),if_pos ⟨g1,by lia⟩,if_pos ⟨by lia,g3⟩]
       exact F3 _ _ (by lia) (by lia) (by lia)
      generalize setArr st2 (mirror (arrOf st2) lo (lo+k) ((lo+k-lo) / 2))=st4 at M4 S4 ⊢
      have hz4:lo+nrem<=(arrOf st4).size:=by rw [M4.size];exact hz
      have hk4:kindOf st4=κ:=M4.kind.trans hk
      have hP4:=M4.all hP
      refine wpS_bind (wpS_mono (wpS_forRange (I:=fun i c st5=>st5=st4/\c=(none,i)/\i<=nrem/\1<=i/\Sg key (arrOf st4) lo (lo+i)) (Q:=fun c st5=>st5=st4/\∃i,c=(none,i)/\i<=nrem/\1<=i/\Sg key (arrOf st4) lo (lo+i)) ?tstep ?tfin ⟨rfl,rfl,a1,by lia,S4⟩) ?tpost)
      case tfin=>
       rintro c st5 ⟨rfl,rfl,b1,b2,b3⟩
       exact ⟨rfl,_,rfl,b1,b2,b3⟩
      case tstep=>
       rintro i c st5 _ hi ⟨rfl,rfl,b1,b2,b3⟩
       dsimp only
       refine wpS_bind (b8 C hk4 hP4 (by lia) (by lia) ?_)
       dsimp only
       cases hc:O.blt (key (at_ (arrOf st5) (lo+i))) (key (at_ (arrOf st5) (lo+i-1))) with
       | true=>rw [if_pos rfl];exact wpS_pure ⟨rfl,i,rfl,b1,b2,b3⟩
       | false=>rw [if_neg (by simp)];exact wpS_pure ⟨rfl,rfl,by lia,by lia,b3.more b2 hc⟩
      case tpost=>
       rintro c st5 ⟨rfl,i,rfl,b1,b2,b3⟩
       exact wpS_pure (h i st5 M4 b2 b1 b3)
  ·rw [if_neg hn]
   have hn1:n=1:=by lia
   subst hn1
   have M1:Mv lo st' st':=Mv.rfl'
   have F1:Fl key (arrOf st') lo (lo+(1+1)):=Fl.more (fun i j z1 z2 z3=>by rw [show i=j by lia];exact KeyOrd.kle_refl _) (Nat.le_refl _) (KeyOrd.kle_of_klt n4)
   refine wpS_bind (wpS_lift (wpAny_rule ⟨rfl,?_⟩))
   refine wpS_bind (wpS_mono (wpS_forRange (I:=fun k c st2=>Mv lo st' st2/\∃q,c=(none,k,q)/\k<=nrem/\q+1<=k/\Fl key (arrOf st2) lo (lo+k)/\(∀i,lo+k-(q+1)<=i->i < lo+k->key (at_ (arrOf st2) i)=key (at_ (arrOf st2) (lo+k-1))))
    (Q:=fun c st2=>Mv lo st' st2/\∃k q,c=(none,k,q)/\k<=nrem/\q+1<=k/\Fl key (arrOf st2) lo (lo+k)/\(∀i,lo+k-(q+1)<=i->i < lo+k->key (at_ (arrOf st2) i)=key (at_ (arrOf st2) (lo+k-1)))) ?dstep ?dfin ⟨M1,0,rfl,by lia,by lia,F1,fun i g1 g2=>by rw [show i=lo+(1+1)-1 by lia]⟩) ?dpost)
   case dfin=>
    rintro c st2 ⟨M2,q,rfl,a1,a2,a3,a4⟩
    exact ⟨M2,_,q,rfl,a1,a2,a3,a4⟩
   case dstep=>
    rintro k c st2 hk1 hkn ⟨M2,q,rfl,a1,a2,a3,a4⟩
    have hz2:lo+nrem<=(arrOf st2).size:=by rw [M2.size];exact hz
    have hk2:kindOf st2=κ:=M2.kind.trans hk
    have hP2:=M2.all hP
    dsimp only
    refine wpS_bind (b8 C hk2 hP2 (by lia) (by lia) ?_)
    dsimp only
    cases hc:O.blt (key (at_ (arrOf st2) (lo+k))) (key (at_ (arrOf st2) (lo+k-1))) with
    | true=>
     rw [if_pos rfl]
     have F2:=a3.more (by lia) (KeyOrd.kle_of_klt hc)
     by_cases hq:q > 0
     ·rw [if_pos hq,reverseSlice'_eq]
      have ek:=cZ (key:=key) (xs:=arrOf st2) (i:=lo+k-(q+1)) (j:=lo+k) (by lia) a4
      refine wpS_bind (wpS_modify (wpS_pure ⟨M2.rev (by lia) (by lia),0,rfl,by lia,by lia,F2.congr ek,fun i g1 g2=>?_⟩))
      rw [show i=lo+(k+1)-1 by lia]
     ·rw [if_neg hq]
      exact wpS_pure ⟨M2,0,rfl,by lia,by lia,F2,fun i g1 g2=>by rw [show i=lo+(k+1)-1 by lia]⟩
    | false=>
     rw [if_neg (by simp)]
     refine wpS_bind (b8 C hk2 hP2 (by lia) (by lia) ?_)
     dsimp only
     cases hd:O.blt (key (at_ (arrOf st2) (lo+k-1))) (key (at_ (arrOf st2) (lo+k))) with
     | true=>rw [if_pos rfl];exact wpS_pure ⟨M2,k,q,rfl,a1,a2,a3,a4⟩
     | false=>
      rw [if_neg (by simp)]
      have eq1:key (at_ (arrOf st2) (lo+k))=key (at_ (arrOf st2) (lo+k-1)):=O.total _ _ hc hd
      refine wpS_pure ⟨M2,q+1,rfl,by lia,by lia,a3.more (by lia) hd,fun i g1 g2=>?_⟩
      rw [show lo+(k+1)-1=lo+k by lia]
      by_cases hi:i=lo+k
      ·rw [hi]
      ·rw [eq1];exact a4 i (by lia) (by lia)
   case dpost=>
    rintro c st2 ⟨M2,k,q,rfl,a1,a2,a3,a4⟩
    have hz2:lo+nrem<=(arrOf st2).size:=by rw [M2.size];exact hz
    dsimp only
    by_cases hq:q > 0
    ·rw [if_pos hq,reverseSlice'_eq]
     have ek:=cZ (key:=key) (xs:=arrOf st2) (i:=lo+k-(q+1)) (j:=lo+k) (by lia) a4
     refine wpS_bind (wpS_modify ?_)
     have M3:=M2.rev (i:=lo+k-(q+1)) (j:=lo+k) (by lia) (by lia)
     have F3:Fl key (arrOf (setArr st2 (mirror (arrOf st2) (lo+k-(q+1)) (lo+k) ((lo+k-(lo+k-(q+1))) / 2)))) lo (lo+k):=a3.congr ek
     generalize setArr st2 (mirror (arrOf st2) (lo+k-(q+1)) (lo+k) ((lo+k-(lo+k-(q+1))) / 2))=st3 at M3 F3 ⊢
     have hz3:lo+nrem<=(arrOf st3).size:=by rw [M3.size];exact hz
     rw [reverseSlice'_eq]
     refine wpS_bind (wpS_modify ?_)
     have M4:=M3.rev (i:=lo) (j:=lo+k) (Nat.le_refl _) (by lia)
     have S4:Sg key (arrOf (setArr st3 (mirror (arrOf st3) lo (lo+k) ((lo+k-lo) / 2)))) lo (lo+k):=fun i j g1 g2 g3=>by
      show kl key (at_ (mirror (arrOf st3) lo (lo+k) ((lo+k-lo) / 2)) i) (at_ (mirror (arrOf st3) lo (lo+k) ((lo+k-lo) / 2)) j)
      rw [bO (by lia),bO (by lia),if_pos ⟨g1,by lia⟩,if_pos ⟨by lia,g3⟩]
      exact F3 _ _ (by lia) (by lia) (by lia)
     generalize setArr st3 (mirror (arrOf st3) lo (lo+k) ((lo+k-lo) / 2))=st4 at M4 S4 ⊢
     have hz4:lo+nrem<=(arrOf st4).size:=by rw [M4.size];exact hz
     have hk4:kindOf st4=κ:=M4.kind.trans hk
     have hP4:=M4.all hP
     refine wpS_bind (wpS_mono (wpS_forRange (I:=fun i c st5=>st5=st4/\c=(none,i)/\i<=nrem/\1<=i/\Sg key (arrOf st4) lo (lo+i)) (Q:=fun c st5=>st5=st4/\∃i,c=(none,i)/\i<=nrem/\1<=i/\Sg key (arrOf st4) lo (lo+i)) ?tstep ?tfin ⟨rfl,rfl,a1,by lia,S4⟩) ?tpost)
     case tfin=>
      rintro c st5 ⟨rfl,rfl,b1,b2,b3⟩
      exact ⟨rfl,_,rfl,b1,b2,b3⟩
     case tstep=>
      rintro i c st5 _ hi ⟨rfl,rfl,b1,b2,b3⟩
      dsimp only
      refine wpS_bind (b8 C hk4 hP4 (by lia) (by lia) ?_)
      dsimp only
      cases hc:O.blt (key (at_ (arrOf st5) (lo+i))) (key (at_ (arrOf st5) (lo+i-1))) with
      | true=>rw [if_pos rfl];exact wpS_pure ⟨rfl,i,rfl,b1,b2,b3⟩
      | false=>rw [if_neg (by simp)];exact wpS_pure ⟨rfl,rfl,by lia,by lia,b3.more b2 hc⟩
     case tpost=>
      rintro c st5 ⟨rfl,i,rfl,b1,b2,b3⟩
      exact wpS_pure (h i st5 M4 b2 b1 b3)
    ·rw [if_neg hq]
     have M3:=M2
     have F3:=a3
     have hz3:lo+nrem<=(arrOf st2).size:=by rw [M3.size];exact hz
     rw [reverseSlice'_eq]
     refine wpS_bind (wpS_modify ?_)
     have M4:=M3.rev (i:=lo) (j:=lo+k) (Nat.le_refl _) (by lia)
     have S4:Sg key (arrOf (setArr st2 (mirror (arrOf st2) lo (lo+k) ((lo+k-lo) / 2)))) lo (lo+k):=fun i j g1 g2 g3=>by
      show kl key (at_ (mirror (arrOf st2) lo (lo+k) ((lo+k-lo) / 2)) i) (at_ (mirror (arrOf st2) lo (lo+k) ((lo+k-lo) / 2)) j)
      rw [bO (by lia),bO (by lia),if_pos ⟨g1,by lia⟩,if_pos ⟨by lia,g3⟩]
      exact F3 _ _ (by lia) (by lia) (by lia)
     generalize setArr st2 (mirror (arrOf st2) lo (lo+k) ((lo+k-lo) / 2))=st4 at M4 S4 ⊢
     have hz4:lo+nrem<=(arrOf st4).size:=by rw [M4.size];exact hz
     have hk4:kindOf st4=κ:=M4.kind.trans hk
     have hP4:=M4.all hP
     refine wpS_bind (wpS_mono (wpS_forRange (I:=fun i c st5=>st5=st4/\c=(none,i)/\i<=nrem/\1<=i/\Sg key (arrOf st4) lo (lo+i)) (Q:=fun c st5=>st5=st4/\∃i,c=(none,i)/\i<=nrem/\1<=i/\Sg key (arrOf st4) lo (lo+i)) ?tstep ?tfin ⟨rfl,rfl,a1,by lia,S4⟩) ?tpost)
     case tfin=>
      rintro c st5 ⟨rfl,rfl,b1,b2,b3⟩
      exact ⟨rfl,_,rfl,b1,b2,b3⟩
     case tstep=>
      rintro i c st5 _ hi ⟨rfl,rfl,b1,b2,b3⟩
      dsimp only
      refine wpS_bind (b8 C hk4 hP4 (by lia) (by lia) ?_)
      dsimp only
      cases hc:O.blt (key (at_ (arrOf st5) (lo+i))) (key (at_ (arrOf st5) (lo+i-1))) with
      | true=>rw [if_pos rfl];exact wpS_pure ⟨rfl,i,rfl,b1,b2,b3⟩
      | false=>rw [if_neg (by simp)];exact wpS_pure ⟨rfl,rfl,by lia,by lia,b3.more b2 hc⟩
     case tpost=>
      rintro c st5 ⟨rfl,i,rfl,b1,b2,b3⟩
      exact wpS_pure (h i st5 M4 b2 b1 b3)
theorem Bo (C:gL prog w A s κ O key P) {st:SortSt} {lo n ok:Nat} {Q:Bool->SortSt->Prop} (hk:kindOf st=κ) (hP:∀x∈(arrOf st).toList,P x) (hz:lo+n<=(arrOf st).size) (ho:1<=ok) (hn:ok<=n) (hs:Sg key (arrOf st) lo (lo+ok))
  (h:∀st',Mv lo st st'->Sg key (arrOf st') lo (lo+n)->Q true st'):wpS (model prog w) A E s (binarySort' lo n ok) Q st:=by
 rw [binarySort'_eq]
 refine wpS_bind (wpS_mono (wpS_forRange (I:=fun k c st'=>c=(none,())/\Mv lo st st'/\k<=n/\Sg key (arrOf st') lo (lo+k)) (Q:=fun c st'=>c=(none,())/\Mv lo st st'/\Sg key (arrOf st') lo (lo+n)) ?step ?fin ⟨rfl,Mv.rfl',by lia,by rw [show max ok 1=ok by lia];exact hs⟩) ?post)
 case post=>
  rintro c st' ⟨rfl,M,S⟩
  exact wpS_pure (h st' M S)
 case fin=>
  rintro c st' ⟨hc,M,hkn,S⟩
  rw [show max (max ok 1) n=n by lia] at S
  exact ⟨hc,M,S⟩
 case step=>
  rintro k c st' hak hkn ⟨rfl,M,_,S⟩
  have hz':lo+n<=(arrOf st').size:=by rw [M.size];exact hz
  have hk':kindOf st'=κ:=M.kind.trans hk
  have hP':=M.all hP
  dsimp only
  refine wpS_bind (wpS_mono (wpS_forRange (I:=fun x c st''=>st''=st'/\∃l r,c=(none,l,r)/\l<=r/\r<=k/\r-l<=k-x/\(∀i,i < l->kl key (at_ (arrOf st') (lo+i)) (at_ (arrOf st') (lo+k)))/\(∀i,r<=i->i < k->O.klt (key (at_ (arrOf st') (lo+k))) (key (at_ (arrOf st') (lo+i)))))
   (Q:=fun c st''=>st''=st'/\∃l r,c=(none,l,r)/\l<=k/\(∀i,i < l->kl key (at_ (arrOf st') (lo+i)) (at_ (arrOf st') (lo+k)))/\(∀i,l<=i->i < k->O.klt (key (at_ (arrOf st') (lo+k))) (key (at_ (arrOf st') (lo+i))))) ?s1 ?f1 ⟨rfl,0,k,rfl,by lia,by lia,by lia,fun i hi=>by lia,fun i h1 h2=>by lia⟩) ?p1)
  case f1=>
   rintro c st'' ⟨rfl,l,r,rfl,z1,z2,z3,z4,z5⟩
   have:l=r:=by lia
   subst this
   exact ⟨rfl,l,l,rfl,z2,z4,z5⟩
  case s1=>
   rintro x c st'' _ hx ⟨rfl,l,r,rfl,z1,z2,z3,z4,z5⟩
   dsimp only
   by_cases hge:l >= r
   ·rw [if_pos hge]
    have:l=r:=by lia
    subst this
    exact wpS_pure ⟨rfl,l,l,rfl,z2,z4,z5⟩
   rw [if_neg hge]
   refine wpS_bind (b8 C hk' hP' (by lia) (by lia) ?_)
   dsimp only
   cases hc:O.blt (key (at_ (arrOf st'') (lo+k))) (key (at_ (arrOf st'') (lo+(l+r) / 2))) with
   | true=>
    rw [if_pos rfl]
    exact wpS_pure ⟨rfl,l,(l+r) / 2,rfl,by lia,by lia,by lia,z4,fun i g1 g2=>KeyOrd.klt_of_klt_of_kle hc (S (lo+(l+r) / 2) (lo+i) (by lia) (by lia) (by lia))⟩
   | false=>
    rw [if_neg (by simp)]
    exact wpS_pure ⟨rfl,(l+r) / 2+1,r,rfl,by lia,by lia,by lia,fun i g1=>KeyOrd.kle_trans (S (lo+i) (lo+(l+r) / 2) (by lia) (by lia) (by lia)) hc,z5⟩
  case p1=>
   rintro c st'' ⟨rfl,l,r,rfl,z1,z2,z3⟩
   dsimp only
   rw [moveDown'_eq]
   have eb:∀i,at_ (bubble (arrOf st'') (lo+k) (lo+k-(lo+l))) i=if i=lo+l then at_ (arrOf st'') (lo+k) else if lo+l < i/\i<=lo+k then at_ (arrOf st'') (i-1) else at_ (arrOf st'') i:=fun i=>by
    have z:=getElem?_bubble (xs:=arrOf st'') (src:=lo+k) (by lia) (lo+k-(lo+l)) (by lia) i
    rw [show lo+k-(lo+k-(lo+l))=lo+l by lia] at z
    by_cases c1:i=lo+l
    ·rw [if_pos c1] at z ⊢;exact bp z
    ·rw [if_neg c1] at z ⊢
     by_cases c2:lo+l < i/\i<=lo+k
     ·rw [if_pos c2] at z ⊢;exact bp z
     ·rw [if_neg c2] at z ⊢;exact bp z
   refine wpS_bind (wpS_modify (wpS_pure ⟨rfl,⟨M.kind,M.pend,M.fail,(bubble_perm _ _ _).trans M.perm,fun i hi=>?_⟩,by lia,fun i j g1 g2 g3=>?_⟩))
   ·rw [<- M.pre i hi]
    show (bubble (arrOf st'') (lo+k) (lo+k-(lo+l)))[i]?=_
    rw [getElem?_bubble (by lia) _ (by lia),if_neg (by lia),if_neg (by lia)]
   ·show kl key (at_ (bubble (arrOf st'') (lo+k) (lo+k-(lo+l))) i) (at_ (bubble (arrOf st'') (lo+k) (lo+k-(lo+l))) j)
    rw [eb,eb]
    by_cases c1:i=lo+l
    ·rw [if_pos c1]
     by_cases c2:j=lo+l
     ·rw [if_pos c2];exact KeyOrd.kle_refl _
     ·rw [if_neg c2,if_pos ⟨by lia,by lia⟩]
      have:=z3 (j-1-lo) (by lia) (by lia)
      rw [show lo+(j-1-lo)=j-1 by lia] at this
      exact KeyOrd.kle_of_klt this
    ·rw [if_neg c1]
     by_cases c3:lo+l < i
     ·rw [if_pos ⟨c3,by lia⟩,if_neg (by lia),if_pos ⟨by lia,by lia⟩]
      exact S _ _ (by lia) (by lia) (by lia)
     ·rw [if_neg (by lia)]
      by_cases c2:j=lo+l
      ·rw [if_pos c2]
       have:=z2 (i-lo) (by lia)
       rwa [show lo+(i-lo)=i by lia] at this
      ·rw [if_neg c2]
       by_cases c4:lo+l < j
       ·rw [if_pos ⟨c4,by lia⟩];exact S _ _ g1 (by lia) (by lia)
       ·rw [if_neg (by lia)];exact S _ _ g1 g2 (by lia)
end
end Tim
end
section
namespace Tim
open PySem PyProof.Rows
theorem mH:∀(l:List Keyed) (a:Array Keyed) (b j0:Nat),((l.zipIdx j0).foldl (fun a x=>a.setIfInBounds (b+x.2) x.1) a).size=a.size
 | [],_,_,_=>rfl
 | x::l,a,b,j0=>by
  rw [List.zipIdx_cons,List.foldl_cons,mH l]
  simp
theorem sY:∀(l:List Keyed) (a:Array Keyed) (b j0:Nat) (i:Nat),b+j0+l.length<=a.size->((l.zipIdx j0).foldl (fun a x=>a.setIfInBounds (b+x.2) x.1) a)[i]?=if b+j0<=i/\i < b+j0+l.length then l[i-(b+j0)]? else a[i]?
 | [],a,b,j0,i,_=>by
  rw [if_neg (by simp only [List.length_nil];lia)];rfl
 | x::l,a,b,j0,i,h=>by
  have hl:(x::l).length=l.length+1:=rfl
  rw [hl] at h ⊢
  rw [List.zipIdx_cons,List.foldl_cons,sY l _ b (j0+1) i (by simp;lia)]
  by_cases c:b+(j0+1)<=i/\i < b+(j0+1)+l.length
  ·rw [if_pos c,if_pos (by lia),show i-(b+j0)=(i-(b+(j0+1)))+1 by lia,List.getElem?_cons_succ]
  ·rw [if_neg c]
   by_cases e:i=b+j0
   ·subst e
    rw [if_pos (by lia),Nat.sub_self,List.getElem?_cons_zero]
    simp [Array.getElem?_setIfInBounds];lia
   ·rw [if_neg (by lia)]
    simp [Array.getElem?_setIfInBounds];lia
noncomputable def Cov:List (Nat×Nat×Nat)->Nat->Nat->Prop
 | [],f,t=>f=t
 | x::r,f,t=>x.1=f/\1<=x.2.1/\Cov r (f+x.2.1) t
theorem Cov.le:∀{l:List (Nat×Nat×Nat)} {f t:Nat},Cov l f t->f+l.length<=t
 | [],_,_,h=>by cases h;exact Nat.le_refl _
 | x::r,f,t,⟨h1,h2,h3⟩=>by have:=Cov.le h3;simp only [List.length_cons];lia
theorem Cov.app:∀{l m:List (Nat×Nat×Nat)} {f t:Nat},Cov (l++m) f t↔∃k,Cov l f k/\Cov m k t
 | [],m,f,t=>⟨fun h=>⟨f,rfl,h⟩,fun zq1=>by obtain ⟨k,h1,h2⟩:=zq1;cases h1;exact h2⟩
 | x::r,m,f,t=>⟨fun ⟨h1,h2,h3⟩=>let ⟨k,k1,k2⟩:=Cov.app.mp h3;⟨k,⟨h1,h2,k1⟩,k2⟩,fun zt1=>by obtain ⟨k,⟨h1,h2,k1⟩,k2⟩:=zt1;exact ⟨h1,h2,Cov.app.mpr ⟨k,k1,k2⟩⟩⟩
theorem Cov.mem:∀{l:List (Nat×Nat×Nat)} {f t:Nat},Cov l f t->∀x∈l,f<=x.1/\x.1+x.2.1<=t
 | x::r,f,t,⟨h1,h2,h3⟩,y,hy=>by
  have:=Cov.le h3
  rcases List.mem_cons.mp hy with rfl | hy
  ·lia
  ·have:=Cov.mem h3 y hy;lia
section
variable {prog:Program} {w:World} {A:Around} {E:Value->Shared->Prop} {s:Shared} {κ:SortKind} {O:KeyOrd} {key:Keyed->O.α} {P:Keyed->Prop}
theorem wX {σ:Type} {M:Model} {x:σ} {Q:PUnit->σ->Prop} {st:σ} (h:Q ⟨⟩ x):wpS M A E s (set x:StateT σ Sem PUnit) Q st:=by
 unfold wpS;rw [StateT.run_set];exact wpAny_pure ⟨rfl,h⟩
structure G {O:KeyOrd} (κ:SortKind) (key:Keyed->O.α) (a0:Array Keyed) (st:SortSt) (lo:Nat):Prop where
 kind:kindOf st=κ
 fail:failedOf st=none
 perm:(arrOf st).Perm a0
 cov:Cov (pendingOf st).toList 0 lo
 srt:∀x∈(pendingOf st).toList,Sg key (arrOf st) x.1 (x.1+x.2.1)
 le:lo<=a0.size
theorem sZ {a:Array Keyed} {x:Keyed} {base n:Nat} (h:Sg key a base (base+n)):∀i j,i<=j->j < n->bey key false x (at_ a (base+j))=true->bey key false x (at_ a (base+i))=true:=fun i j hij hj q=>by
 have:kl key (at_ a (base+i)) x:=KeyOrd.kle_trans (h _ _ (by lia) (by lia) (by lia)) (mF q)
 show (!O.blt (key x) (key (at_ a (base+i))))=true
 rw [show O.blt (key x) (key (at_ a (base+i)))=false from this];rfl
theorem tf {a:Array Keyed} {x:Keyed} {base n:Nat} (h:Sg key a base (base+n)):∀i j,i<=j->j < n->bey key true x (at_ a (base+j))=true->bey key true x (at_ a (base+i))=true:=fun i j hij hj q=>
 KeyOrd.klt_of_kle_of_klt (h (base+i) (base+j) (by lia) (by lia) (by lia)) (jd q)
theorem mI {a:Array Keyed} {i n j:Nat} (h:n<=a.size) (hj:i+j < n):at_ (a.extract i n) j=at_ a (i+j):=by
 refine bp ?_
 rw [Array.getElem?_extract]
 rw [if_pos (by lia)]
theorem mJ {a:Array Keyed} {i n:Nat} (h:n<=a.size):(a.extract i n).size=n-i:=by
 rw [Array.size_extract];lia
theorem tj {a:Array Keyed} {i n:Nat} (h:n<=a.size) (q:Sg key a i n):(a.extract i n).toList.Pairwise (kl key):=by
 rw [List.pairwise_iff_getElem]
 intro x y hx hy hxy
 have hz:=mJ (a:=a) (i:=i) h
 have hx':x < (a.extract i n).size:=by rw [<- Array.length_toList];exact hx
 have hy':y < (a.extract i n).size:=by rw [<- Array.length_toList];exact hy
 have g:∀z (hz:z < (a.extract i n).toList.length),(a.extract i n).toList[z]=at_ (a.extract i n) z:=fun z hz'=>by
  have e1:=bT (a:=a.extract i n) (i:=z) (by rw [<- Array.length_toList];exact hz')
  rw [List.getElem?_eq_getElem hz'] at e1
  exact Option.some.inj e1
 rw [g x hx,g y hy,mI h (by lia),mI h (by lia)]
 exact q _ _ (by lia) (by lia) (by lia)
theorem jg {a:Array Keyed} {i n:Nat} (h:n<=a.size) {x:Keyed} (hx:x∈(a.extract i n).toList):∃j,i<=j/\j < n/\x=at_ a j:=by
 obtain ⟨j,hj,e⟩:=List.getElem_of_mem hx
 have hj':j < (a.extract i n).size:=by rw [<- Array.length_toList];exact hj
 have hz:=mJ (a:=a) (i:=i) h
 have e1:=bT (a:=a.extract i n) (i:=j) hj'
 rw [List.getElem?_eq_getElem hj,e] at e1
 refine ⟨i+j,by lia,by lia,?_⟩
 rw [Option.some.inj e1,mI h (by lia)]
theorem j7 {a:Array Keyed} (hP:∀x∈a.toList,P x) {i:Nat} (h:i < a.size):P (at_ a i):=hP _ (eg h)
theorem wY {a m:Array Keyed} {lo hi:Nat} (h:hi<=a.size) (hl:lo<=hi) (hm:m.toList.Perm (a.extract lo hi).toList) :
  let a':=(m.toList.zipIdx).foldl (fun a x=>a.setIfInBounds (lo+x.2) x.1) a
  a'.Perm a/\(∀i,(lo<=i/\i < hi->a'[i]?=m[i-lo]?)/\(¬ (lo<=i/\i < hi)->a'[i]?=a[i]?)):=by
 intro a'
 have hlen:m.toList.length=hi-lo:=by rw [hm.length_eq];simp;lia
 have g:∀i,a'[i]?=if lo+0<=i/\i < lo+0+m.toList.length then m.toList[i-(lo+0)]? else a[i]?:=fun i=>sY m.toList a lo 0 i (by lia)
 rw [Nat.add_zero,hlen,show lo+(hi-lo)=hi by lia] at g
 have hz:a'.size=a.size:=mH _ _ _ _
 refine ⟨?_,fun i=>⟨fun c=>by rw [g,if_pos c,Array.getElem?_toList],fun c=>by rw [g,if_neg c]⟩⟩
 have e:a'.toList=a.toList.take lo++(m.toList++a.toList.drop hi):=by
  apply List.ext_getElem?
  intro i
  rw [Array.getElem?_toList,g,List.getElem?_append,List.getElem?_append]
  have hlt:(a.toList.take lo).length=lo:=by simp;lia
  rw [hlt,hlen]
  by_cases c1:i < lo
  ·rw [if_neg (by lia),if_pos c1,List.getElem?_take,if_pos c1,Array.getElem?_toList]
  ·rw [if_neg c1]
   by_cases c2:i < hi
   ·rw [if_pos ⟨by lia,c2⟩,if_pos (by lia)]
   ·rw [if_neg (by lia),if_neg (by lia),List.getElem?_drop,Array.getElem?_toList]
    congr 1;lia
 have e2:a.toList=a.toList.take lo++((a.extract lo hi).toList++a.toList.drop hi):=by
  rw [nT a lo hi hl]
  conv=>lhs;rw [<- List.take_append_drop hi a.toList,<- List.take_append_drop lo (a.toList.take hi)]
  rw [List.take_take,Nat.min_eq_left hl,List.append_assoc]
 rw [Array.perm_iff_toList_perm,e]
 conv=>rhs;rw [e2]
 exact List.Perm.append_left _ (hm.append_right _)
theorem nU (C:gL prog w A s κ O key P) {a0:Array Keyed} {st:SortSt} {lo i:Nat} {Q:Bool->SortSt->Prop} (hP:∀x∈a0.toList,P x) (g:G κ key a0 st lo) (hi:i+1 < (pendingOf st).size)
  (h:∀st',G κ key a0 st' lo->(∀j,lo<=j->(arrOf st')[j]?=(arrOf st)[j]?)->(pendingOf st').size+1=(pendingOf st).size->Q true st'):wpS (model prog w) A E s (mergeAt' i) Q st:=by
 obtain ⟨sa,na,pw,eA⟩:∃sa na pw,(pendingOf st)[i]?=some (sa,na,pw):=⟨_,_,_,getElem?_pos _ i (by lia)⟩
 obtain ⟨sb,nb,pw2,eB⟩:∃sb nb pw2,(pendingOf st)[i+1]?=some (sb,nb,pw2):=⟨_,_,_,getElem?_pos _ (i+1) hi⟩
 have eL:(pendingOf st).toList=(pendingOf st).toList.take i++(sa,na,pw)::(sb,nb,pw2)::(pendingOf st).toList.drop (i+2):=by
  conv=>lhs;rw [<- List.take_append_drop i (pendingOf st).toList]
  congr 1
  rw [<- Array.getElem?_toList] at eA eB
  obtain ⟨l1,q1⟩:=List.getElem?_eq_some_iff.mp eA
  obtain ⟨l2,q2⟩:=List.getElem?_eq_some_iff.mp eB
  rw [List.drop_eq_getElem_cons l1,q1,List.drop_eq_getElem_cons l2,q2]
 have hcov:=g.cov
 rw [eL] at hcov
 obtain ⟨k0,c1,c2,c3,c4,c5,c6⟩:=Cov.app.mp hcov
 dsimp only at c2 c3 c4 c5 c6
 subst c2
 have hpost:=Cov.le c6
 have hsz:(arrOf st).size=a0.size:=g.perm.size_eq
 have hle:=g.le
 have hPs:∀x∈(arrOf st).toList,P x:=fun x hx=>hP x ((Array.perm_iff_toList_perm.mp g.perm).mem_iff.mp hx)
 have sgA:Sg key (arrOf st) sa (sa+na):=g.srt (sa,na,pw) (by rw [eL];simp)
 have sgB:Sg key (arrOf st) (sa+na) (sa+na+nb):=by have:=g.srt (sb,nb,pw2) (by rw [eL];simp);dsimp only at this;rwa [c4] at this
 -- the pending runs afterwards
 have pn:(((pendingOf st).setIfInBounds i (sa,na+nb,pw)).eraseIdxIfInBounds (i+1)).toList=(pendingOf st).toList.take i++(sa,na+nb,pw)::(pendingOf st).toList.drop (i+2):=by
  rw [Array.eraseIdxIfInBounds,dif_pos (by simp;lia),Array.toList_eraseIdx,Array.toList_setIfInBounds]
  conv=>lhs;rw [eL]
  have hl:((pendingOf st).toList.take i).length=i:=by simp;lia
  rw [List.set_append_right _ _ (by lia),hl,Nat.sub_self,List.set_cons_zero,List.eraseIdx_append_of_length_le (by lia),hl,Nat.add_sub_cancel_left,List.eraseIdx_cons_succ,List.eraseIdx_cons_zero]
 have hps:(((pendingOf st).setIfInBounds i (sa,na+nb,pw)).eraseIdxIfInBounds (i+1)).size+1=(pendingOf st).size:=by
  rw [<- Array.length_toList,pn];simp;lia
 -- what is wanted of a state with these runs
 have fin:∀st',kindOf st'=κ->failedOf st'=none->pendingOf st'=(((pendingOf st).setIfInBounds i (sa,na+nb,pw)).eraseIdxIfInBounds (i+1))->(arrOf st').Perm (arrOf st)->(∀j,¬ (sa<=j/\j < sa+na+nb)->(arrOf st')[j]?=(arrOf st)[j]?) ->
   Sg key (arrOf st') sa (sa+na+nb)->Q true st':=fun st' k1 k2 k3 k4 k5 k6=>by
  refine h st' ⟨k1,k2,k4.trans g.perm,?_,?_,hle⟩ (fun j hj=>k5 j (by lia)) (by rw [k3];exact hps)
  ·rw [k3,pn]
   refine Cov.app.mpr ⟨sa,c1,rfl,by show 1<=na+nb;lia,?_⟩
   show Cov _ (sa+(na+nb)) lo
   rw [<- Nat.add_assoc];exact c6
  ·intro x hx
   rw [k3,pn] at hx
   rcases List.mem_append.mp hx with hx | hx
   ·have q:=g.srt x (by rw [eL];exact List.mem_append_left _ hx)
    have r:=Cov.mem c1 x hx
    intro i' j' z1 z2 z3
    show O.kle _ _
    rw [bp (k5 i' (by lia)),bp (k5 j' (by lia))]
    exact q i' j' z1 z2 z3
   ·rcases List.mem_cons.mp hx with rfl | hx
    ·show Sg key (arrOf st') sa (sa+(na+nb))
     rw [<- Nat.add_assoc];exact k6
    ·have q:=g.srt x (by rw [eL];exact List.mem_append_right _ (List.mem_cons_of_mem _ (List.mem_cons_of_mem _ hx)))
     have r:=Cov.mem c6 x hx
     intro i' j' z1 z2 z3
     show O.kle _ _
     rw [bp (k5 i' (by lia)),bp (k5 j' (by lia))]
     exact q i' j' z1 z2 z3
 subst c4
 delta mergeAt'
 refine wpS_bind (wpS_get ?_)
 rw [eA,eB]
 dsimp only
 refine wpS_bind (wX ?_)
 refine wpS_bind (aN (show sa+na < (arrOf st).size by lia) (wpS_bind (ef C g.kind (show 0 < na by lia) (show sa+na<=(arrOf st).size by lia) (fun j hj=>j7 hPs (by lia)) (j7 hPs (by lia)) (sZ sgA) fun k z1 z2 z3=>?_)))
 dsimp only
 have low:∀j,sa<=j->j < sa+k->kl key (at_ (arrOf st) j) (at_ (arrOf st) (sa+na)):=fun j j1 j2=>by
  have:=mF (z2 (j-sa) (by lia));rwa [show sa+(j-sa)=j by lia] at this
 have high:∀j,sa+k<=j->j < sa+na->O.klt (key (at_ (arrOf st) (sa+na))) (key (at_ (arrOf st) j)):=fun j j1 j2=>by
  have:=sX (z3 (j-sa) (by lia) (by lia));rwa [show sa+(j-sa)=j by lia] at this
 by_cases e1:na-k=0
 ·rw [if_pos (by simpa using e1)]
  refine wpS_pure (fin _ g.kind g.fail rfl (Array.Perm.refl _) (fun _ _=>rfl) fun i' j' y1 y2 y3=>?_)
  show kl key (at_ (arrOf st) i') (at_ (arrOf st) j')
  by_cases d1:j' < sa+na
  ·exact sgA i' j' y1 y2 d1
  ·by_cases d2:i' < sa+na
   ·exact KeyOrd.kle_trans (low i' y1 (by lia)) (sgB _ j' (Nat.le_refl _) (by lia) y3)
   ·exact sgB i' j' (by lia) y2 y3
 rw [if_neg (by simpa using e1)]
 have hlast:sa+k+(na-k)-1=sa+na-1:=by lia
 rw [hlast]
 refine wpS_bind (aN (show sa+na-1 < (arrOf st).size by lia) (wpS_bind (ef C g.kind (show nb-1 < nb by lia) (show sa+na+nb<=(arrOf st).size by lia) (fun j hj=>j7 hPs (by lia)) (j7 hPs (by lia)) (tf sgB) fun m y1 y2 y3=>?_)))
 dsimp only
 have lowB:∀j,sa+na<=j->j < sa+na+m->O.klt (key (at_ (arrOf st) j)) (key (at_ (arrOf st) (sa+na-1))):=fun j j1 j2=>by
  have:=jd (y2 (j-(sa+na)) (by lia));rwa [show sa+na+(j-(sa+na))=j by lia] at this
 have highB:∀j,sa+na+m<=j->j < sa+na+nb->kl key (at_ (arrOf st) (sa+na-1)) (at_ (arrOf st) j):=fun j j1 j2=>by
  have:=mG (y3 (j-(sa+na)) (by lia) (by lia));rwa [show sa+na+(j-(sa+na))=j by lia] at this
 by_cases e2:m=0
 ·rw [if_pos (by simpa using e2)]
  refine wpS_pure (fin _ g.kind g.fail rfl (Array.Perm.refl _) (fun _ _=>rfl) fun i' j' x1 x2 x3=>?_)
  show kl key (at_ (arrOf st) i') (at_ (arrOf st) j')
  by_cases d1:j' < sa+na
  ·exact sgA i' j' x1 x2 d1
  ·by_cases d2:i' < sa+na
   ·exact KeyOrd.kle_trans (sgA i' (sa+na-1) x1 (by lia) (by lia)) (highB j' (by lia) x3)
   ·exact sgB i' j' (by lia) x2 x3
 rw [if_neg (by simpa using e2)]
 have hx1:sa+na<=(arrOf st).size:=by lia
 have hx2:sa+na+m<=(arrOf st).size:=by lia
 have sx:=mJ (a:=arrOf st) (i:=sa+k) hx1
 have sy:=mJ (a:=arrOf st) (i:=sa+na) hx2
 have srX:=tj (key:=key) (i:=sa+k) hx1 (fun i' j' a1 a2 a3=>sgA i' j' (by lia) a2 a3)
 have srY:=tj (key:=key) (i:=sa+na) hx2 (fun i' j' a1 a2 a3=>sgB i' j' a1 a2 (by lia))
 have PX:∀x∈((arrOf st).extract (sa+k) (sa+na)).toList,P x:=fun x hx=>by obtain ⟨j,j1,j2,rfl⟩:=jg hx1 hx;exact j7 hPs (by lia)
 have PY:∀x∈((arrOf st).extract (sa+na) (sa+na+m)).toList,P x:=fun x hx=>by obtain ⟨j,j1,j2,rfl⟩:=jg hx2 hx;exact j7 hPs (by lia)
 have H0:∀y∈((arrOf st).extract (sa+k) (sa+na)).toList,kl key (at_ ((arrOf st).extract (sa+na) (sa+na+m)) 0) y:=fun y hy=>by
  obtain ⟨j,j1,j2,rfl⟩:=jg hx1 hy
  rw [mI hx2 (by lia),Nat.add_zero]
  exact KeyOrd.kle_of_klt (high j j1 j2)
 have HL:∀x∈((arrOf st).extract (sa+na) (sa+na+m)).toList,kl key x (at_ ((arrOf st).extract (sa+k) (sa+na)) (((arrOf st).extract (sa+k) (sa+na)).size-1)):=fun x hx=>by
  obtain ⟨j,j1,j2,rfl⟩:=jg hx2 hx
  rw [sx,mI hx1 (by lia),show sa+k+(sa+na-(sa+k)-1)=sa+na-1 by lia]
  exact KeyOrd.kle_of_klt (lowB j j1 j2)
 have eXY:((arrOf st).extract (sa+k) (sa+na+m)).toList=((arrOf st).extract (sa+k) (sa+na)).toList++((arrOf st).extract (sa+na) (sa+na+m)).toList:=by
  rw [<- Array.toList_append,Array.extract_append_extract]
  congr 2 <;> lia
 -- the end,by either way
 have done:∀(r:Array Keyed) (st1:SortSt),kindOf st1=κ->failedOf st1=none->pendingOf st1=(((pendingOf st).setIfInBounds i (sa,na+nb,pw)).eraseIdxIfInBounds (i+1))->arrOf st1=arrOf st ->
   Res (kl key) ((arrOf st).extract (sa+k) (sa+na)).toList ((arrOf st).extract (sa+na) (sa+na+m)).toList r.toList ->
   Q true (SortSt.mk' (kindOf st1) ((r.toList.zipIdx).foldl (fun a x=>a.setIfInBounds (sa+k+x.2) x.1) (arrOf st1)) (pendingOf st1) (gallopOf st1) (failedOf st1)):=fun r st1 k1 k2 k3 k4 R=>by
  rw [k4]
  obtain ⟨R1,R2⟩:=R
  rw [<- eXY] at R1
  obtain ⟨b1,b2⟩:=wY (a:=arrOf st) (m:=r) (lo:=sa+k) (hi:=sa+na+m) hx2 (by lia) R1
  generalize (r.toList.zipIdx).foldl (fun a x=>a.setIfInBounds (sa+k+x.2) x.1) (arrOf st)=a' at b1 b2 ⊢
  have hrl:r.size=sa+na+m-(sa+k):=by have:=R1.length_eq;rw [Array.length_toList,Array.length_toList,mJ hx2] at this;exact this
  have mid:∀j,sa+k<=j->j < sa+na+m->at_ a' j=at_ r (j-(sa+k)):=fun j j1 j2=>bp ((b2 j).1 ⟨j1,j2⟩)
  have out:∀j,¬ (sa+k<=j/\j < sa+na+m)->at_ a' j=at_ (arrOf st) j:=fun j hj=>bp ((b2 j).2 hj)
  have midv:∀j,sa+k<=j->j < sa+na+m->∃t,sa+k<=t/\t < sa+na+m/\at_ a' j=at_ (arrOf st) t:=fun j j1 j2=>by
   have hm:at_ r (j-(sa+k))∈r.toList:=eg (by lia)
   obtain ⟨t,t1,t2,t3⟩:=jg hx2 (R1.mem_iff.mp hm)
   exact ⟨t,t1,t2,by rw [mid j j1 j2,t3]⟩
  refine fin _ k1 k2 k3 b1 (fun j hj=>(b2 j).2 (by lia)) fun i' j' x1 x2 x3=>?_
  show kl key (at_ a' i') (at_ a' j')
  by_cases d1:i' < sa+k
  ·rw [out i' (by lia)]
   by_cases d2:j' < sa+k
   ·rw [out j' (by lia)];exact sgA i' j' x1 x2 (by lia)
   ·by_cases d3:j' < sa+na+m
    ·obtain ⟨t,t1,t2,t3⟩:=midv j' (by lia) d3
     rw [t3]
     by_cases d4:t < sa+na
     ·exact sgA i' t x1 (by lia) d4
     ·exact KeyOrd.kle_trans (low i' x1 d1) (sgB _ t (Nat.le_refl _) (by lia) (by lia))
    ·rw [out j' (by lia)]
     exact KeyOrd.kle_trans (low i' x1 d1) (sgB _ j' (Nat.le_refl _) (by lia) x3)
  ·by_cases d2:i' < sa+na+m
   ·by_cases d3:j' < sa+na+m
    ·rw [mid i' (by lia) d2,mid j' (by lia) d3]
     exact eh R2 (by lia) (by lia)
    ·obtain ⟨t,t1,t2,t3⟩:=midv i' (by lia) d2
     rw [t3,out j' (by lia)]
     by_cases d4:t < sa+na
     ·exact KeyOrd.kle_trans (sgA t (sa+na-1) (by lia) (by lia) (by lia)) (highB j' (by lia) x3)
     ·exact sgB t j' (by lia) (by lia) x3
   ·rw [out i' (by lia),out j' (by lia)]
    exact sgB i' j' (by lia) x2 x3
 by_cases hcase:na-k<=m
 ·rw [if_pos hcase]
  refine wpS_bind (Bl C g.kind (show 0 < ((arrOf st).extract (sa+k) (sa+na)).size by rw [sx];lia) (show 0 < ((arrOf st).extract (sa+na) (sa+na+m)).size by rw [sy];lia) PX PY srX srY H0 HL fun r st1 S R=>?_)
  refine wpS_bind (wpS_modify (wpS_bind (wpS_get ?_)))
  have hf:failedOf st1=none:=S.2.2.2.trans g.fail
  show wpS _ _ _ _ (pure (failedOf st1).isNone) _ _
  rw [hf]
  exact wpS_pure (done r st1 (S.1.trans g.kind) hf S.2.2.1 S.2.1 R)
 ·rw [if_neg hcase]
  refine wpS_bind (Bm C g.kind (show 0 < ((arrOf st).extract (sa+k) (sa+na)).size by rw [sx];lia) (show 0 < ((arrOf st).extract (sa+na) (sa+na+m)).size by rw [sy];lia) PX PY srX srY H0 HL fun r st1 S R=>?_)
  refine wpS_bind (wpS_modify (wpS_bind (wpS_get ?_)))
  have hf:failedOf st1=none:=S.2.2.2.trans g.fail
  show wpS _ _ _ _ (pure (failedOf st1).isNone) _ _
  rw [hf]
  exact wpS_pure (done r st1 (S.1.trans g.kind) hf S.2.2.1 S.2.1 R)
end
end Tim
end
section
namespace Tim
open PySem PyProof.Rows
noncomputable def bare (x:Nat×Nat×Nat):Nat×Nat:=(x.1,x.2.1)
theorem Cov.bare:∀{l m:List (Nat×Nat×Nat)} {f t:Nat},l.map bare=m.map bare->Cov l f t->Cov m f t
 | [],[],_,_,_,h=>h
 | [],_::_,_,_,e,_=>by cases e
 | _::_,[],_,_,e,_=>by cases e
 | x::l,y::m,f,t,e,⟨h1,h2,h3⟩=>by
  have e':=List.cons.inj e
  have e1:x.1=y.1:=(Prod.mk.inj e'.1).1
  have e2:x.2.1=y.2.1:=(Prod.mk.inj e'.1).2
  exact ⟨e1▸h1,e2▸h2,e2▸Cov.bare e'.2 h3⟩
theorem tm (l:List (Nat×Nat×Nat)) (i pw:Nat):(l.modify i fun x=>(x.1,x.2.1,pw)).map bare=l.map bare:=by
 apply List.ext_getElem?
 intro j
 rw [List.getElem?_map,List.getElem?_map,List.getElem?_modify]
 cases l[j]? with
 | none=>rfl
 | some x=>by_cases h:i=j <;> simp [h,bare]
section
variable {prog:Program} {w:World} {A:Around} {E:Value->Shared->Prop} {s:Shared} {κ:SortKind} {O:KeyOrd} {key:Keyed->O.α} {P:Keyed->Prop}
theorem G.push {a0:Array Keyed} {st:SortSt} {lo n:Nat} (g:G κ key a0 st lo) (S:Sg key (arrOf st) lo (lo+n)) (h1:1<=n) (h2:lo+n<=a0.size):G κ key a0 (setPending st ((pendingOf st).push (lo,n,0))) (lo+n):=by
 have e:(pendingOf (setPending st ((pendingOf st).push (lo,n,0)))).toList=(pendingOf st).toList++[(lo,n,0)]:=Array.toList_push ..
 refine ⟨g.kind,g.fail,g.perm,?_,fun x hx=>?_,h2⟩
 ·rw [e];exact Cov.app.mpr ⟨lo,g.cov,rfl,h1,rfl⟩
 ·rw [e] at hx
  rcases List.mem_append.mp hx with hx | hx
  ·exact g.srt x hx
  ·rw [List.mem_singleton] at hx;subst hx;exact S
theorem G.pow {a0:Array Keyed} {st:SortSt} {lo:Nat} (g:G κ key a0 st lo) (i pw:Nat):G κ key a0 (setPending st ((pendingOf st).modify i fun x=>(x.1,x.2.1,pw))) lo:=by
 have e:(pendingOf (setPending st ((pendingOf st).modify i fun x=>(x.1,x.2.1,pw)))).toList=(pendingOf st).toList.modify i fun x=>(x.1,x.2.1,pw):=Array.toList_modify ..
 have b:=tm (pendingOf st).toList i pw
 refine ⟨g.kind,g.fail,g.perm,?_,fun x hx=>?_,g.le⟩
 ·rw [e];exact Cov.bare b.symm g.cov
 ·rw [e] at hx
  have hb:bare x∈((pendingOf st).toList.map bare):=by rw [<- b];exact List.mem_map_of_mem hx
  obtain ⟨y,hy,ey⟩:=List.mem_map.mp hb
  have q:=g.srt y hy
  have e1:y.1=x.1:=(Prod.mk.inj ey).1
  have e2:y.2.1=x.2.1:=(Prod.mk.inj ey).2
  rw [e1,e2] at q
  exact q
theorem Sg.keep {a b:Array Keyed} {lo hi:Nat} (h:Sg key a lo hi) (e:∀j,lo<=j->b[j]?=a[j]?):Sg key b lo hi:=fun i j z1 z2 z3=>by
 rw [bp (e i z1),bp (e j (by lia))];exact h i j z1 z2 z3
theorem wZ (C:gL prog w A s κ O key P) {st:SortSt} {Q:Unit->SortSt->Prop} (hP:∀x∈(arrOf st).toList,P x) (hk:kindOf st=κ) (hf:failedOf st=none) (hp:pendingOf st=#[]) (h1:1<=(arrOf st).size)
  (h:∀st',(arrOf st').Perm (arrOf st)->failedOf st'=none->(arrOf st').toList.Pairwise (kl key)->Q () st'):wpS (model prog w) A E s sortRuns' Q st:=by
 have g0:G κ key (arrOf st) st 0:=⟨hk,hf,Array.Perm.refl _,by rw [hp];rfl,(fun x hx=>by rw [hp] at hx;cases hx),Nat.zero_le _⟩
 rw [sortRuns'_eq]
 refine wpS_bind (wpS_get ?_)
 dsimp only
 refine wpS_bind (wpS_mono (wpS_forRange (I:=fun x c st1=>∃lo,c=(none,lo)/\x<=lo/\G κ key (arrOf st) st1 lo) (Q:=fun c st1=>c=(none,(arrOf st).size)/\G κ key (arrOf st) st1 (arrOf st).size) ?step ?fin ⟨0,rfl,Nat.le_refl _,g0⟩) ?post)
 case fin=>
  rintro c st1 ⟨lo,rfl,hx,g⟩
  have:=g.le
  have e:lo=(arrOf st).size:=by lia
  subst e;exact ⟨rfl,g⟩
 case post=>
  rintro c st1 ⟨rfl,g⟩
  dsimp only
  refine wpS_bind (wpS_mono (wpS_forRange (I:=fun x c st2=>c=(none,())/\(pendingOf st2).size+x<=(arrOf st).size/\G κ key (arrOf st) st2 (arrOf st).size) (Q:=fun c st2=>c=(none,())/\(pendingOf st2).size<=1/\G κ key (arrOf st) st2 (arrOf st).size) ?ls ?lf ⟨rfl,by have:=g.cov.le;rw [Array.length_toList] at this;lia,g⟩) ?lp)
  case lf=>
   rintro c st2 ⟨rfl,b1,g2⟩
   exact ⟨rfl,by lia,g2⟩
  case ls=>
   rintro x c st2 _ hx ⟨rfl,b1,g2⟩
   refine wpS_bind (wpS_get ?_)
   by_cases hp1:(pendingOf st2).size<=1
   ·rw [if_pos hp1];exact wpS_pure ⟨rfl,hp1,g2⟩
   rw [if_neg hp1]
   have hi:∀b:Bool,(if b=true then (pendingOf st2).size-2-1 else (pendingOf st2).size-2)+1 < (pendingOf st2).size:=fun b=>by
    cases b with
    | true=>rw [if_pos rfl];lia
    | false=>rw [if_neg (by simp)];lia
   refine wpS_bind (nU C hP g2 (hi _) fun st3 g3 _ b3=>?_)
   rw [if_neg (by simp)]
   exact wpS_pure ⟨rfl,by lia,g3⟩
  case lp=>
   rintro c st2 ⟨rfl,b1,g2⟩
   refine wpS_pure (h st2 g2.perm g2.fail ?_)
   have hz:(arrOf st2).size=(arrOf st).size:=g2.perm.size_eq
   have S:Sg key (arrOf st2) 0 (arrOf st).size:=by
    have c:=g2.cov
    have q:=g2.srt
    rw [<- Array.length_toList] at b1
    match hl:(pendingOf st2).toList,b1 with
    | [],_=>rw [hl] at c;have c:0=(arrOf st).size:=c;lia
    | [x],_=>
     rw [hl] at c q
     obtain ⟨c1,_,c3⟩:=c
     have:=q x List.mem_cons_self
     have c3:0+x.2.1=(arrOf st).size:=c3
     rwa [c1,c3] at this
    | _::_::_,b1=>simp only [List.length_cons] at b1;lia
   rw [List.pairwise_iff_getElem]
   intro i j hi hj hij
   have gt:∀z (hz:z < (arrOf st2).toList.length),(arrOf st2).toList[z]=at_ (arrOf st2) z:=fun z hz'=>by
    have e1:=bT (a:=arrOf st2) (i:=z) (by rw [<- Array.length_toList];exact hz')
    rw [List.getElem?_eq_getElem hz'] at e1
    exact Option.some.inj e1
   rw [gt i hi,gt j hj]
   rw [Array.length_toList] at hi hj
   exact S i j (Nat.zero_le _) (by lia) (by lia)
 case step=>
  rintro x c st1 _ hx ⟨lo,rfl,hxl,g⟩
  have hle:=g.le
  have hsz:(arrOf st1).size=(arrOf st).size:=g.perm.size_eq
  dsimp only
  by_cases hge:lo >= (arrOf st).size
  ·rw [if_pos hge]
   have e:lo=(arrOf st).size:=by lia
   subst e;exact wpS_pure ⟨rfl,g⟩
  rw [if_neg hge]
  have hPs:∀x∈(arrOf st1).toList,P x:=fun x hx=>hP x ((Array.perm_iff_toList_perm.mp g.perm).mem_iff.mp hx)
  have step:∀{st2:SortSt},Mv lo st1 st2->G κ key (arrOf st) st2 lo:=fun {st2} M=>by
   refine ⟨M.kind.trans g.kind,M.fail.trans g.fail,M.perm.trans g.perm,by rw [M.pend];exact g.cov,fun x hx=>?_,hle⟩
   rw [M.pend] at hx
   have q:=g.srt x hx
   have r:=g.cov.mem x hx
   intro i j z1 z2 z3
   rw [bp (M.pre i (by lia)),bp (M.pre j (by lia))]
   exact q i j z1 z2 z3
  refine wpS_bind (Bn C g.kind hPs (by lia) (by lia) fun n st2 M2 n1 n2 S2=>?_)
  dsimp only
  by_cases hm:n < minRun' (arrOf st).size (arrOf st).size 0
  ·rw [if_pos hm]
   refine wpS_bind (wpS_lift (wpAny_rule ⟨rfl,?_⟩))
   have hz2:(arrOf st2).size=(arrOf st).size:=M2.size.trans hsz
   refine wpS_bind (Bo C (M2.kind.trans g.kind) (M2.all hPs) (by rw [hz2];lia) n1 (by lia) S2 fun st3 M3 S3=>?_)
   rw [if_neg (by simp)]
   have M4:Mv lo st1 st3:=⟨M3.kind.trans M2.kind,M3.pend.trans M2.pend,M3.fail.trans M2.fail,M3.perm.trans M2.perm,fun i hi=>(M3.pre i hi).trans (M2.pre i hi)⟩
   have g4:=step M4
   have n3:1<=min ((arrOf st).size-lo) (minRun' (arrOf st).size (arrOf st).size 0):=by lia
   have n4:lo+min ((arrOf st).size-lo) (minRun' (arrOf st).size (arrOf st).size 0)<=(arrOf st).size:=by lia
   generalize min ((arrOf st).size-lo) (minRun' (arrOf st).size (arrOf st).size 0)=N at S3 n3 n4 ⊢
   refine wpS_bind (wpS_get ?_)
   cases hb:(pendingOf st3).back? with
   | none=>
    dsimp only
    exact wpS_bind (wpS_modify (wpS_pure ⟨_,rfl,by lia,g4.push S3 n3 n4⟩))
   | some z=>
    obtain ⟨s1,l1,p1⟩:=z
    dsimp only
    refine wpS_bind (wpS_mono (wpS_forRange (I:=fun _ c st5=>c=(none,())/\G κ key (arrOf st) st5 lo/\Sg key (arrOf st5) lo (lo+N)) (Q:=fun c st5=>c=(none,())/\G κ key (arrOf st) st5 lo/\Sg key (arrOf st5) lo (lo+N)) ?ms ?mf ⟨rfl,g4,S3⟩) ?mp)
    case mf=>rintro c st5 z;exact z
    case ms=>
     rintro y c st5 _ hy ⟨rfl,g5,S5⟩
     refine wpS_bind (wpS_get ?_)
     by_cases hp2:(pendingOf st5).size > 1
     ·rw [if_pos hp2]
      obtain ⟨u1,u2,u3,hu⟩:∃u1 u2 u3,(pendingOf st5)[(pendingOf st5).size-2]?=some (u1,u2,u3):=⟨_,_,_,getElem?_pos _ _ (by lia)⟩
      rw [hu]
      dsimp only
      split
      ·exact wpS_pure ⟨rfl,g5,S5⟩
      ·refine wpS_bind (nU C hP g5 (by lia) fun st6 g6 k6 _=>?_)
       rw [if_neg (by simp)]
       exact wpS_pure ⟨rfl,g6,S5.keep k6⟩
     ·rw [if_neg hp2]
      exact wpS_pure ⟨rfl,g5,S5⟩
    case mp=>
     rintro c st5 ⟨rfl,g5,S5⟩
     dsimp only
     exact wpS_bind (wpS_modify (wpS_bind (wpS_modify (wpS_pure ⟨_,rfl,by lia,(g5.pow _ _).push S5 n3 n4⟩))))
  ·rw [if_neg hm]
   have g4:=step M2
   have n4:lo+n<=(arrOf st).size:=by lia
   refine wpS_bind (wpS_get ?_)
   cases hb:(pendingOf st2).back? with
   | none=>
    dsimp only
    exact wpS_bind (wpS_modify (wpS_pure ⟨_,rfl,by lia,g4.push S2 n1 n4⟩))
   | some z=>
    obtain ⟨s1,l1,p1⟩:=z
    dsimp only
    refine wpS_bind (wpS_mono (wpS_forRange (I:=fun _ c st5=>c=(none,())/\G κ key (arrOf st) st5 lo/\Sg key (arrOf st5) lo (lo+n)) (Q:=fun c st5=>c=(none,())/\G κ key (arrOf st) st5 lo/\Sg key (arrOf st5) lo (lo+n)) ?ms ?mf ⟨rfl,g4,S2⟩) ?mp)
    case mf=>rintro c st5 z;exact z
    case ms=>
     rintro y c st5 _ hy ⟨rfl,g5,S5⟩
     refine wpS_bind (wpS_get ?_)
     by_cases hp2:(pendingOf st5).size > 1
     ·rw [if_pos hp2]
      obtain ⟨u1,u2,u3,hu⟩:∃u1 u2 u3,(pendingOf st5)[(pendingOf st5).size-2]?=some (u1,u2,u3):=⟨_,_,_,getElem?_pos _ _ (by lia)⟩
      rw [hu]
      dsimp only
      split
      ·exact wpS_pure ⟨rfl,g5,S5⟩
      ·refine wpS_bind (nU C hP g5 (by lia) fun st6 g6 k6 _=>?_)
       rw [if_neg (by simp)]
       exact wpS_pure ⟨rfl,g6,S5.keep k6⟩
     ·rw [if_neg hp2]
      exact wpS_pure ⟨rfl,g5,S5⟩
    case mp=>
     rintro c st5 ⟨rfl,g5,S5⟩
     dsimp only
     exact wpS_bind (wpS_modify (wpS_bind (wpS_modify (wpS_pure ⟨_,rfl,by lia,(g5.pow _ _).push S5 n1 n4⟩))))
end
end Tim
end
section
namespace Tim
open PySem PyProof.Rows L2
section
variable {prog:Program} {w:World} {A:Around} {E:Value->Shared->Prop} {s:Shared} {κ:SortKind} {O:KeyOrd} {key:Keyed->O.α} {P:Keyed->Prop}
noncomputable def bH (h:Heap) (a:Addr) (vs:List Value):Heap:=((h.update a (Obj.mapSeq fun _=>#[])).push (seqObj "tuple" vs.toArray 0)).push (seqObj "list" #[] 0)
theorem w4 {h:Heap} {a b:Addr} {vs:List Value} {o:Obj} (hb:b≠a) (e:h.get? b=some o):(bH h a vs).get? b=some o:=
 Heap.get?_push_of_some _ (Heap.get?_push_of_some _ (((Heap.SameBut.update h a _).2 b hb).trans e))
theorem tu (vs:List Value):(vs.toArray.zip vs.toArray).toList=vs.map fun v=>(v,v):=by
 apply List.ext_getElem <;> simp
theorem tw {a:Addr} {vs:List Value} {n:Nat} {R:PySem.Fin->Shared->Prop} (ho:s.heap.get? a=some (seqObj "list" vs.toArray n)) (h2:2<=vs.length) (hz:vs.length<=sizeLine)
  (hk:∀Q':SortKind->Shared->Prop,Q' κ { s with heap:=bH s.heap a vs }->wpAny (model prog w) A (keyKind' vs.toArray) Q' E { s with heap:=bH s.heap a vs })
  (C:gL prog w A { s with heap:=bH s.heap a vs } κ O key P) (hP:∀v∈vs,P (v,v))
  (h:∀out:List Value,out.Perm vs->out.Pairwise (fun x y=>O.kle (key (x,x)) (key (y,y)))->R (.done (.ret .none)) { s with heap:=sortedHeap s.heap a vs out.toArray }) :
  wpAny (model prog w) A (Builtin.«list.sort» ⟨[.ref a],[]⟩) R E s:=by
 have many:¬ vs.toArray.size < 2:=by rw [List.size_toArray];lia
 obtain ⟨e,he⟩:∃e,(s.heap.update a (Obj.mapSeq fun _=>#[])).get? a=some (seqObj "list" #[] e):=⟨_,get?_update_seq ho (fun _=>#[])⟩
 rw [list_sort_plain]
 refine wpAny_bind (listItems_at ho rfl (wpAny_bind (listUpdate_at ho rfl (wpAny_bind (seqEpoch_at he rfl (wpAny_bind (wpAny_newTuple (wpAny_bind (wpAny_newList (wpAny_holding ?_))) (hsz:=hz))))) (by rw [List.size_toArray];lia))))
 have he2:(bH s.heap a vs).get? a=some (seqObj "list" #[] e):=Heap.get?_push_of_some _ (Heap.get?_push_of_some _ he)
 dsimp only
 rw [if_neg many,if_neg many]
 refine wpAny_bind (hk _ ?_)
 have hl0:(arrOf (SortSt.mk' κ (vs.toArray.zip vs.toArray) #[] 7 none)).toList=vs.map fun v=>(v,v):=tu vs
 refine wpAny_bind (wpAny_mono (wZ (E:=E) C (st:=SortSt.mk' κ (vs.toArray.zip vs.toArray) #[] 7 none) (Q:=fun _ st'=>(arrOf st').toList.Perm (vs.map fun v=>(v,v))/\failedOf st'=none/\(arrOf st').toList.Pairwise (kl key))
  (fun x hx=>?_) rfl rfl rfl ?_ fun st' q1 q2 q3=>⟨?_,q2,q3⟩) ?_ fun _ _ z=>z)
 ·rw [hl0] at hx
  obtain ⟨v,hv,rfl⟩:=List.mem_map.mp hx
  exact hP v hv
 ·rw [<- Array.length_toList,hl0,List.length_map];lia
 ·rw [<- hl0];exact Array.perm_iff_toList_perm.mp q1
 rintro ⟨⟨⟩,st'⟩ s' ⟨rfl,pm,hf,pw⟩
 dsimp only
 have same:∀x∈(arrOf st').toList,x=(x.2,x.2):=fun x hx=>by
  obtain ⟨v,_,rfl⟩:=List.mem_map.mp (pm.mem_iff.mp hx);rfl
 have eo:(arrOf st').map (·.2)=((arrOf st').toList.map (·.2)).toArray:=by apply Array.ext' ; simp
 have p2:((arrOf st').toList.map (·.2)).Perm vs:=by have:=pm.map (·.2);rw [List.map_map] at this;simpa [Function.comp_def] using this
 have w2:((arrOf st').toList.map (·.2)).Pairwise (fun x y=>O.kle (key (x,x)) (key (y,y))):=by
  rw [List.pairwise_map]
  refine List.Pairwise.imp_of_mem (fun {x y} hx hy q=>?_) pw
  have q:O.kle (key x) (key y):=q
  rw [same x hx,same y hy] at q
  exact q
 refine wpAny_bind (seqEpoch_at he2 rfl (wpAny_bind (listUpdate_at he2 rfl ?_ (hsz2:=by rw [eo,List.size_toArray,p2.length_eq];lia))))
 rw [eo,hf]
 simp only [bne_self_eq_false,Bool.false_eq_true,if_false]
 exact wpAny_pure (h _ p2 w2)
noncomputable def cF (h:Heap) (vs:List Value):Heap:=((h.push (seqObj "list" #[] 0)).update h.objs.size (Obj.mapSeq (·++vs.toArray))).push (seqObj "list" vs.toArray 0)
theorem pre_size (h:Heap) (vs:List Value):((h.push (seqObj "list" #[] 0)).update h.objs.size (Obj.mapSeq (·++vs.toArray))).objs.size=h.objs.size+1:=by rw [Heap.size_update,size_push']
theorem ph {h:Heap} {b:Addr} {vs:List Value} {o:Obj} (e:h.get? b=some o):(bH (cF h vs) (h.objs.size+1) vs).get? b=some o:=by
 have hb:b < h.objs.size:=Heap.lt_size e
 refine w4 (Nat.ne_of_lt (Nat.lt_succ_of_lt hb)) (Heap.get?_push_of_some _ (((Heap.SameBut.update _ _ _).2 b (Nat.ne_of_lt hb)).trans (Heap.get?_push_of_some _ e)))
theorem nV {l:Addr} {vs:List Value} {Q:Value->Shared->Prop} (hl:s.heap.IsList l vs.toArray) (h2:2<=vs.length) (hz:vs.length<=sizeLine)
  (hk:∀Q':SortKind->Shared->Prop,Q' κ { s with heap:=bH (cF s.heap vs) (s.heap.objs.size+1) vs }->wpAny (model prog w) A.in1.in1 (keyKind' vs.toArray) Q' E { s with heap:=bH (cF s.heap vs) (s.heap.objs.size+1) vs })
  (C:gL prog w A.in1.in1 { s with heap:=bH (cF s.heap vs) (s.heap.objs.size+1) vs } κ O key P) (hP:∀v∈vs,P (v,v))
  (h:∀out:List Value,out.Perm vs->out.Pairwise (fun x y=>O.kle (key (x,x)) (key (y,y)))->Q (.ref (s.heap.objs.size+1)) { s with heap:=sortedAll s.heap vs out.toArray }) :
  wpAny (model prog w) A (call (.builtin "sorted") [.ref l]) Q E s:=by
 have z1:=pre_size s.heap vs
 have z2:(cF s.heap vs).get? (s.heap.objs.size+1)=some (seqObj "list" vs.toArray 0):=z1▸Heap.get?_push_size _ rfl
 have col:=fun R r=>collect_list (prog:=prog) (w:=w) (A:=A.in1) (E:=E) (Q:=R) hl r hz
 refine Calls.call_function_entry kind_sorted plain_sorted entry_sorted (args_sorted1 _) (wpAny_bind (m:=checkCount "sorted" 1 1 _) (wpAny_pure (wpAny_bind (m:=collect (.ref l)) (col _ (wpAny_bind (wpAny_newList ?_ (hsz:=hz)))))))
 dsimp only
 rw [z1]
 refine wpAny_bind (wpAny_holding (wpAny_call_entry slot_list_sort ⟨_,z2,rfl⟩ entry_list_sort (tw (κ:=κ) (O:=O) (key:=key) (P:=P) z2 h2 hz hk C hP fun out p q=>⟨_,rfl,wpAny_pure ⟨_,rfl,h out p q⟩⟩) (args_list_sort _)))
noncomputable def dec (h:Heap):Value->List Int
 | .ref p=>match h.get? p with
  | some o=>match o.data with
   | .seq xs _=>xs.toList.map numOf
   | _=>[]
  | none=>[]
 | _=>[]
noncomputable def IsT (h:Heap) (v:Value) (ns:List Int):Prop:=∃p its,v=.ref p/\IsTup h p (List.toArray its)/\Vals (ns.map V.int) its
theorem j8:∀{ns:List Int} {its:List Value},Vals (ns.map V.int) its->its.map numOf=ns
 | [],its,h=>by have h:Vals [] its:=h;cases h;rfl
 | n::ns,its,h=>by
  have h:Vals (V.int n::ns.map V.int) its:=h
  cases h with
  | cons a b=>obtain ⟨t,rfl⟩:=a;rw [List.map_cons,j8 b];rfl
theorem IsT.dec {h:Heap} {v:Value} (q:IsT h v ns):dec h v=ns:=by
 obtain ⟨p,its,rfl,⟨o,ho,_,n,hd⟩,r⟩:=q
 unfold Tim.dec
 dsimp only
 rw [ho]
 dsimp only
 rw [hd]
 dsimp only
 exact j8 r
theorem qm {h:Heap}:gL prog w A { s with heap:=h } (tuples' true) lexOrd (fun x=>dec h x.1) (fun x=>∃ns,IsT h x.1 ns):=by
 intro x y C hx hy q
 obtain ⟨ns,hx⟩:=hx
 obtain ⟨ms,hy⟩:=hy
 have q:C (HT.lexLt (dec h x.1) (dec h y.1)) { s with heap:=h }:=q
 rw [hx.dec,hy.dec] at q
 obtain ⟨p,us,ex,⟨o,ho,_,n,hd⟩,r⟩:=hx
 obtain ⟨p',vs,ey,⟨o',ho',_,n',hd'⟩,r'⟩:=hy
 rw [ex,ey]
 exact PySem.W.kat_lt (s:={ s with heap:=h }) ho hd ho' hd' (vP ns ms 0 r r' (by simp) q)
end
end Tim
namespace L2
open PySem PySem.Spec PyProof.Rows
noncomputable def tx (K:PySem.W.Frag):List V->Hp->VK->Prop:=fun xs H Q=>∃(l:Addr) (ps:List Addr) (mss:List (List Int)),xs=[.ref l]/\SqL K H l (ps.map V.ref)/\iR K H ps mss/\(∀ms∈mss,ms≠[]) /\
 ∀(D:Addr) (ps':List Addr),H D=none->iR K H ps' (srt mss)->Q (.ref D) (upd H D (.lst (ps'.map V.ref)))
noncomputable def adr:Value->Addr
 | .ref a=>a
 | _=>0
theorem pz (f:Addr->List Int):∀{ps:List Addr},(∀p∈ps,SqT K H p ((f p).map V.int))->iR K H ps (ps.map f)
 | [],_=>.nil
 | p::ps,h=>.cons (h p List.mem_cons_self) (pz f fun q hq=>h q (List.mem_cons_of_mem _ hq))
theorem j9 (f:Addr->List Int):∀{ps:List Addr} {mss:List (List Int)},iR K H ps mss->(∀p ms,SqT K H p (ms.map V.int)->f p=ms)->ps.map f=mss/\∀p∈ps,SqT K H p ((f p).map V.int)
 | _,_,.nil,_=>⟨rfl,fun _ h=>nomatch h⟩
 | _,_,.cons h t,hf=>by
  obtain ⟨e,q⟩:=j9 f t hf
  refine ⟨by rw [List.map_cons,e,hf _ _ h],fun p hp=>?_⟩
  rcases List.mem_cons.mp hp with rfl | hp
  ·rw [hf _ _ h];exact h
  ·exact q p hp
theorem nW {X:Cx}:cQ X (.builtin "sorted") (tx X.K):=by
 intro pins s σ H xs us Q I r h
 obtain ⟨l,ps,mss,rfl,hl,ht,hne,q⟩:=h
 obtain ⟨u,rfl,rx⟩:=vals1 r
 cases rx
 obtain ⟨vs,rv,pl,hz⟩:=I.list hl
 have hlen:ps.length=mss.length:=Paired.length ht
 have evs:=jQ rv
 subst evs
 rw [List.length_map] at hz
 by_cases h2:ps.length < 2
 ·refine nj pl.isList (by simpa using h2) ?_
  obtain ⟨e,he⟩:=sortedAll_at s.heap (ps.map Value.ref) (ps.map Value.ref).toArray
  have es:srt mss=mss:=(gA (List.Perm.refl _) (by
   match mss,hlen with
   | [],_=>exact List.Pairwise.nil
   | [_],_=>simp
   | _::_::_,hl=>simp at hl;lia)).symm
  exact ⟨.ref (s.heap.objs.size+1),_,I.laid (t':=s.toks) (o:=.lst (ps.map V.ref)) (fun b o e=>sortedAll_old e) (Nat.le_succ _) ⟨by rw [List.length_map];exact hz,_,e,rv,he⟩,rfl,q _ ps (I.hok.fresh (Nat.le_succ _)) (by rw [es];exact ht)⟩
 ·have isT:∀p ms,SqT X.K H p (ms.map V.int)->Tim.IsT (Tim.bH (Tim.cF s.heap (ps.map Value.ref)) (s.heap.objs.size+1) (ps.map Value.ref)) (.ref p) ms:=fun p ms hp=>by
   obtain ⟨its,r1,⟨o,ho,hc,n,hd⟩,_⟩:=I.tuple hp
   exact ⟨p,its,rfl,⟨o,Tim.ph ho,hc,n,hd⟩,r1⟩
  have isT0:∀p ms,SqT X.K H p (ms.map V.int)->Tim.IsT s.heap (.ref p) ms:=fun p ms hp=>by
   obtain ⟨its,r1,t1,_⟩:=I.tuple hp
   exact ⟨p,its,rfl,t1,r1⟩
  obtain ⟨em,each⟩:=j9 (fun p=>Tim.dec s.heap (.ref p)) ht fun p ms hp=>(isT0 p ms hp).dec
  have dd:∀p∈ps,Tim.dec (Tim.bH (Tim.cF s.heap (ps.map Value.ref)) (s.heap.objs.size+1) (ps.map Value.ref)) (.ref p)=Tim.dec s.heap (.ref p):=fun p hp=>(isT p _ (each p hp)).dec
  obtain ⟨fs,k1,k2,k3⟩:=nq (h:=Tim.bH (Tim.cF s.heap (ps.map Value.ref)) (s.heap.objs.size+1) (ps.map Value.ref)) (fun a xs hx=>let ⟨its,r1,⟨o,ho,hc,n,hd⟩,_⟩:=I.tuple hx;⟨its,r1,⟨o,Tim.ph ho,hc,n,hd⟩⟩) ht hne
  refine Tim.nV (κ:=tuples' true) (O:=lexOrd) (key:=fun x=>Tim.dec (Tim.bH (Tim.cF s.heap (ps.map Value.ref)) (s.heap.objs.size+1) (ps.map Value.ref)) x.1)
   (P:=fun x=>∃ns,Tim.IsT (Tim.bH (Tim.cF s.heap (ps.map Value.ref)) (s.heap.objs.size+1) (ps.map Value.ref)) x.1 ns) pl.isList (by simp;lia) (by simpa using hz) (fun Q' hq=>?_) Tim.qm (fun v hv=>?_) fun out pm pw=>?_
  ·refine PySem.W.kat_kind (T:=.type "int") k1 (by lia) (fun v hv=>?_) rfl ?_
   ·obtain ⟨i,t,rfl⟩:=k3 v hv
    exact PySem.W.Looks.of_pure rfl
   ·rw [show ((Value.type "int") != Value.type "tuple")=true by decide +kernel]
    exact hq
  ·obtain ⟨p,hp,rfl⟩:=List.mem_map.mp hv
   exact ⟨_,isT p _ (each p hp)⟩
  ·have pa:(out.map adr).Perm ps:=by
    have:=pm.map adr
    rw [List.map_map] at this
    simpa [adr,Function.comp_def] using this
   have eo:out=(out.map adr).map Value.ref:=by
    rw [List.map_map]
    conv=>lhs;rw [<- List.map_id out]
    refine List.map_congr_left fun v hv=>?_
    obtain ⟨p,_,rfl⟩:=List.mem_map.mp (pm.mem_iff.mp hv)
    rfl
   have hin:∀p∈out.map adr,p∈ps:=fun p hp=>pa.mem_iff.mp hp
   have es:(out.map adr).map (fun p=>Tim.dec s.heap (.ref p))=srt mss:=by
    refine gA ?_ ?_
    ·rw [<- em];exact pa.map _
    ·rw [List.pairwise_map,List.pairwise_map]
     refine List.Pairwise.imp_of_mem (fun {x y} hx hy z=>?_) pw
     obtain ⟨p,hp,rfl⟩:=List.mem_map.mp (pm.mem_iff.mp hx)
     obtain ⟨p',hp',rfl⟩:=List.mem_map.mp (pm.mem_iff.mp hy)
     have z:HT.lexLt (Tim.dec _ (.ref p')) (Tim.dec _ (.ref p))=false:=z
     rw [dd p hp,dd p' hp'] at z
     show lexLe (Tim.dec s.heap (.ref p)) (Tim.dec s.heap (.ref p'))=true
     unfold lexLe
     rw [z];rfl
   obtain ⟨e,he⟩:=sortedAll_at s.heap (ps.map Value.ref) out.toArray
   rw [eo] at he
   refine ⟨.ref (s.heap.objs.size+1),upd H (s.heap.objs.size+1) (.lst ((out.map adr).map V.ref)),I.laid (t':=s.toks) (o:=.lst ((out.map adr).map V.ref)) (fun b o e=>sortedAll_old e) (Nat.le_succ _) ⟨by rw [List.length_map,pa.length_eq];exact hz,_,e,jR _,?_⟩,rfl,q _ _ (I.hok.fresh (Nat.le_succ _)) ?_⟩
   ·rw [<- eo] at he ⊢;exact he
   ·rw [<- es];exact pz _ fun p hp=>each p (hin p hp)
end L2
end
section
namespace L2
open PySem PySem.Spec PyProof.Rows
section
variable {prog:Program} {w:World} {A:Around} {E:Value->Shared->Prop} {s:Shared}
theorem jh:Builtin.Dict_items.ownsTuple "dict_itemiterator"=true:=by decide
theorem fY {it:Addr} {Q:Nat->Shared->Prop} (ty:s.TypeIs (.ref it) "dict_itemiterator") (h:Q 2 s) :
  wpAny (model prog w) A (typeNameOfWhole (.ref it) >>= fun n=>pure (if Builtin.Dict_items.ownsTuple n=true then 2 else 0)) Q E s:=
 wpAny_bind (wpAny_typeNameOfWhole_itemiter ty (wpAny_pure (by rw [jh];exact h)))
theorem tD {it d:Addr} {i n ep:Nat} {ok ov k v:Value} {Q:Value->Shared->Prop} (hit:IsItemIter s.heap it d i n ep ok ov)
  (hQ:∀h',IsItemIterOut h' it d i n ep k v s.heap.objs.size->h'.get? s.heap.objs.size=some { cls:=.type "tuple",data:=.seq #[k,v] }->h'.objs.size=s.heap.objs.size+1->(∀b u,b≠it->s.heap.get? b=some u->h'.get? b=some u)->Q (.ref s.heap.objs.size) { s with heap:=h' }) :
  wpAny (model prog w) A (Builtin.Dict_items.pairFromOwner (.ref it) 6 k v) Q E s:=by
 have hb:it≠s.heap.objs.size:=Nat.ne_of_lt (Heap.lt_size hit)
 refine wpAny_bind (wpAny_newTuple ?_)
 have e0:IsItemIter (s.heap.push { cls:=.type "tuple",data:=.seq #[k,v] }) it d i n ep ok ov:=Heap.get?_push_of_some _ hit
 have t0:(s.heap.push { cls:=.type "tuple",data:=.seq #[k,v] }).get? s.heap.objs.size=some { cls:=.type "tuple",data:=.seq #[k,v] }:=Heap.get?_push_size _ rfl
 have z0:(s.heap.push { cls:=.type "tuple",data:=.seq #[k,v] }).objs.size=s.heap.objs.size+1:=Heap.size_push ..
 have q0:∀b u,s.heap.get? b=some u->(s.heap.push { cls:=.type "tuple",data:=.seq #[k,v] }).get? b=some u:=fun b u e=>Heap.get?_push_of_some _ e
 refine wpAny_bind (wpAny_bind (wpAny_field e0 rfl (x:=.none) rfl (wpAny_pure ?_)))
 rw [if_pos rfl]
 refine wpAny_bind (wpAny_field e0 rfl (x:=ok) rfl (wpAny_bind (wpAny_field e0 rfl (x:=ov) rfl (wpAny_bind (wpAny_setField_rec e0 (k:=6) (by simp) fun g1 e1 b1=>?_)))))
 refine wpAny_bind (wpAny_setField_rec e1 (k:=7) (by simp) fun g2 e2 b2=>wpAny_bind (wpAny_setField_rec e2 (k:=0) (by simp) fun g3 e3 b3=>wpAny_bind (wpAny_setField_rec e3 (k:=1) (by simp) fun g4 e4 b4=>wpAny_bind (wpAny_letGo (wpAny_pure ?_)))))
 have all:∀b u,b≠it->(s.heap.push { cls:=.type "tuple",data:=.seq #[k,v] }).get? b=some u->g4.get? b=some u:=fun b u hn e=>(b4.2 b hn).trans ((b3.2 b hn).trans ((b2.2 b hn).trans ((b1.2 b hn).trans e)))
 exact hQ g4 e4 (all _ _ hb.symm t0) (b4.1.trans (b3.1.trans (b2.1.trans (b1.1.trans z0)))) fun b u hn e=>all b u hn (q0 b u e)
theorem tE {it d:Addr} {i ep:Nat} {o:Obj} {es:Array DictEntry} {ok ov:Value} {Q:Option Value->Shared->Prop} (hit:IsItemIter s.heap it d i es.size ep ok ov) (ho:s.heap.get? d=some o) (hd:o.data=.dict es ep) (hi:i < es.size)
  (hQ:∀h',IsItemIterOut h' it d (i+1) es.size ep es[i].key es[i].val s.heap.objs.size->h'.get? s.heap.objs.size=some { cls:=.type "tuple",data:=.seq #[es[i].key,es[i].val] }->h'.objs.size=s.heap.objs.size+1->(∀b u,b≠it->s.heap.get? b=some u->h'.get? b=some u) ->
   Q (some (.ref s.heap.objs.size)) { s with heap:=h' }):wpAny (model prog w) A (pyNext (.ref it)) Q E s:=by
 have ty:s.TypeIs (.ref it) "dict_itemiterator":=⟨_,hit,rfl⟩
 unfold pyNext
 refine wpAny_bind (wpAny_attempt (wpAny_callSpecial?_slot (name:=Str.ofString "__next__") ty F.slot_dict_itemiterator_next (wpAny_call_entry F.slot_dict_itemiterator_next ty F.entry_dict_itemiterator_next ?_ (F.args_dict_itemiterator_next_1 _))))
 refine wpAny_bind (wpAny_pure (wpAny_bind (wpAny_bind (fY ty (wpAny_bind (wpAny_fieldsOf hit rfl ?_))))))
 show wpAny _ _ (if (Value.ref d==Value.none)=true then _ else _) _ _ s
 rw [if_neg (fun z:(Value.ref d==Value.none)=true=>Bool.false_ne_true z)]
 refine wpAny_bind (wpAny_pure (wpAny_bind (wpAny_dictEntries ho hd ?_)))
 rw [if_neg (by simp)]
 refine wpAny_bind (wpAny_pure (wpAny_bind (wpAny_dictEpoch ho hd ?_)))
 rw [if_neg (by simp)]
 refine wpAny_pure ?_
 have hx:(if ((i:Nat):Int) < 0 then none else es[((i:Nat):Int).toNat]?)=some es[i]:=by rw [if_neg (by lia),Int.toNat_natCast];exact Array.getElem?_eq_getElem hi
 dsimp only
 rw [hx]
 refine wpAny_bind (fY ty (wpAny_bind (wpAny_isOneOf_itemiter ty (wpAny_bind (wpAny_setField_rec hit (k:=3) (by simp) fun g e b=>?_)))))
 have e':IsItemIter g it d (i+1) es.size ep ok ov:=by
  have z:((i+1:Nat):Int)=(i:Int)+1:=by lia
  unfold IsItemIter;rw [z];exact e
 have ty':Shared.TypeIs { s with heap:=g } (.ref it) "dict_itemiterator":=⟨_,e',rfl⟩
 refine wpAny_bind (wpAny_holding (wpAny_bind (wpAny_isOneOf_itemiter ty' (wpAny_bind (wpAny_isOneOf_itemiter ty' (tD (s:={ s with heap:=g }) e' fun h' a1 a2 a3 a4=>?_))))))
 have gz:g.objs.size=s.heap.objs.size:=b.1
 rw [show ({ s with heap:=g }:Shared).heap.objs.size=s.heap.objs.size from gz] at a1 a2 a3 ⊢
 exact wpAny_pure ⟨_,rfl,wpAny_pure (hQ h' a1 a2 a3 fun c u hn z=>a4 c u hn ((b.2 c hn).trans z))⟩
theorem w6 {it d:Addr} {i ep:Nat} {o:Obj} {es:Array DictEntry} {ok ov:Value} {Q:Option Value->Shared->Prop} (hh:A.handled=none) (hit:IsItemIter s.heap it d i es.size ep ok ov) (ho:s.heap.get? d=some o) (hd:o.data=.dict es ep) (hi:es.size<=i)
  (hQ:∀h',Heap.ExtBut it s.heap h'->Q none { s with heap:=h' }):wpAny (model prog w) A (pyNext (.ref it)) Q E s:=by
 have ty:s.TypeIs (.ref it) "dict_itemiterator":=⟨_,hit,rfl⟩
 unfold pyNext
 refine wpAny_bind (wpAny_attempt (wpAny_callSpecial?_slot (name:=Str.ofString "__next__") ty F.slot_dict_itemiterator_next (wpAny_call_entry F.slot_dict_itemiterator_next ty F.entry_dict_itemiterator_next ?_ (F.args_dict_itemiterator_next_1 _))))
 refine wpAny_bind (wpAny_pure (wpAny_bind (wpAny_bind (fY ty (wpAny_bind (wpAny_fieldsOf hit rfl ?_))))))
 show wpAny _ _ (if (Value.ref d==Value.none)=true then _ else _) _ _ s
 rw [if_neg (fun z:(Value.ref d==Value.none)=true=>Bool.false_ne_true z)]
 refine wpAny_bind (wpAny_pure (wpAny_bind (wpAny_dictEntries ho hd ?_)))
 rw [if_neg (by simp)]
 refine wpAny_bind (wpAny_pure (wpAny_bind (wpAny_dictEpoch ho hd ?_)))
 rw [if_neg (by simp)]
 refine wpAny_pure ?_
 have hx:(if ((i:Nat):Int) < 0 then none else es[((i:Nat):Int).toNat]?)=none:=by rw [if_neg (by lia),Int.toNat_natCast];exact Array.getElem?_eq_none hi
 dsimp only
 rw [hx]
 refine wpAny_bind (fY ty (wpAny_bind (wpAny_setField hit rfl (by simp) ?_)))
 unfold newExc newTuple
 refine wpAny_bind (wpAny_bind (wpAny_newObj_type (wpAny_bind (m:=firstArgMember _ _) (wpAny_of_eq (a:=Value.none) (by first | rfl | (simp only [firstArgMember];rfl)) (wpAny_newObj_type (wpAny_raiseNew_none (show A.in1.handled=none from hh) ?_) (by size_fits)))) (by size_fits)))
 refine wpAny_bind (wpAny_isInstance (b:=true) (T:="StopIteration") ⟨_,Heap.get?_push_size _ rfl,rfl⟩ isSubtype_stop (wpAny_pure (hQ _ ?_)))
 intro b u hn e
 exact Heap.get?_push_of_some _ (Heap.get?_push_of_some _ (((Heap.SameBut.update ..).2 b hn).trans e))
end
end L2
end
section
namespace L2
open PySem PySem.Spec PyProof.Rows
theorem ji:entryFor table "dict_itemiterator.__iter__"=some Builtin.«dict_keyiterator.__iter__»:=
 entryFor_alias (id':="dict_keyiterator.__iter__") (by kernel_rfl) rfl (by decide +kernel) (by kernel_rfl)
section
variable {prog:Program} {w:World} {A:Around} {E:Value->Shared->Prop} {s:Shared}
theorem tF {d:Addr} {Q:Value->Shared->Prop} (ty:s.TypeIs (.ref d) "dict") (hd:(d==sysModules)=false)
  (h:Q (.ref s.heap.objs.size) { s with heap:=s.heap.push { cls:=.type "dict_items",data:=.fields #[.ref d] } }):wpAny (model prog w) A (call (.builtin "dict.items") [.ref d]) Q E s:=by
 refine wpAny_call_entry F.slot_dict_items ty F.entry_dict_items (wpAny_bind (wpAny_bind (wpAny_notOrdered_dict ty (wpAny_pure ?_)))) (F.args_dict_items_1 _)
 refine wpAny_bind (m:=Builtin.Dict.showsAll d) ?_
 unfold Builtin.Dict.showsAll
 rw [if_neg (by rw [hd];exact Bool.false_ne_true)]
 exact wpAny_pure (wpAny_bind (wpAny_newObj_type (wpAny_pure ⟨_,rfl,h⟩)))
theorem tG {v d:Addr} {o:Obj} {es:Array DictEntry} {ep:Nat} {Q:Value->Shared->Prop} (hv:s.heap.IsItemsView v d) (ho:s.heap.get? d=some o) (hd:o.data=.dict es ep)
  (h:Q (.ref s.heap.objs.size) { s with heap:=s.heap.push { cls:=.type "dict_itemiterator",data:=.fields #[.none,.bool false,.ref d,.int 0 0,.int es.size 0,.int ep 0,.none,.none] } }):wpAny (model prog w) A (pyIter (.ref v)) Q E s:=by
 obtain ⟨ov,g1,g2,g3⟩:=id hv
 refine wpAny_pyIter_slot hv.typeIs F.slot_dict_items_iter (wpAny_call_entry F.slot_dict_items_iter hv.typeIs F.entry_dict_items_iter (wpAny_bind (wpAny_pure (wpAny_bind (wpAny_bind (wpAny_field g1 g3 (x:=.ref d) rfl (wpAny_pure (wpAny_bind (wpAny_bind (wpAny_dictEntries ho hd (wpAny_bind (wpAny_dictEpoch ho hd ?_))))))))))) (F.args_dict_items_iter_1 _))
 simp only [jh,if_true]
 refine wpAny_newObj_type (wpAny_pure ⟨_,rfl,"dict_itemiterator",_,⟨_,Heap.get?_push_size _ rfl,rfl⟩,F.slot_dict_itemiterator_next.lookup,?_⟩) (by simp only [sizeOk,Builtin.Dict_items.ownedTupleFields,List.size_toArray,List.length_append,List.length_cons,List.length_nil,sizeLine_eq];lia)
 simpa [rawInt,Builtin.Dict_items.ownedTupleFields] using h
theorem tI {it d:Addr} {i n ep:Nat} {ok ov:Value} {Q:Value->Shared->Prop} (hit:IsItemIter s.heap it d i n ep ok ov) (h:Q (.ref it) s):wpAny (model prog w) A (pyIter (.ref it)) Q E s:=
 have ty:s.TypeIs (.ref it) "dict_itemiterator":=⟨_,hit,rfl⟩
 wpAny_pyIter_slot ty F.slot_dict_itemiterator_iter (wpAny_call_entry F.slot_dict_itemiterator_iter ty ji (show wpAny _ _ (ret (.ref it)) _ _ s from wpAny_pure ⟨_,rfl,"dict_itemiterator",_,ty,F.slot_dict_itemiterator_next.lookup,h⟩) (F.args_dict_itemiterator_iter_1 _))
end
noncomputable def Iti (d:Addr) (ob:Obj) (es:List (List Int×Addr×V)):It:=
 ⟨fun i H=>H d=some (bF d ob es)/\i < es.length,fun i H x H'=>∃p e,es[i]?=some e/\H p=none/\x=.ref p/\H'=upd H p (.tup [.ref e.2.1,e.2.2]),fun i H=>H d=some (bF d ob es)/\es.length<=i⟩
theorem EV.pick {xs:List (List Int×Addr×Value)} (r:EV es xs):∀{i:Nat} {e:List Int×Addr×V},es[i]?=some e->∃x,xs[i]?=some x/\e.2.1=x.2.1/\RelV e.2.2 x.2.2:=by
 induction r with
 | nil=>intro i e h;simp at h
 | @cons p q ps qs h t ih=>
  intro i e he
  cases i with
  | zero=>simp at he;subst he;exact ⟨q,rfl,h.2.1,h.2.2⟩
  | succ i=>simpa using ih (by simpa using he)
theorem nX {P:Program} {w:World} {elts:List Expr} {x1} {tp:Pos} (it d:Addr) (ob:Obj) (es:List (List Int×Addr×V)) (ds:Array DictEntry) (ep:Nat) (hob:ob.data=.dict ds ep) :
  Turn P w K (.Tuple elts x1 tp) (Iti d ob es) [it] it (fun i h=>∃ok ov,IsItemIter h it d i ds.size ep ok ov) where
 mem:=by simp
 obj:=fun i h zq1 b hb=>by
  obtain ⟨ok,ov,st⟩:=zq1
  have e:b=it:=by simpa using hb
  subst e
  exact ⟨_,st,fun v z=>by
   have z':Data.fields _=Data.cell v:=z
   cases z'⟩
 keep:=fun i h h' zt1 k=>by obtain ⟨ok,ov,st⟩:=zt1;exact ⟨ok,ov,k it (by simp) _ st⟩
 item:=by
  rintro X hP hw hK hc i pins s σ H E I hf ⟨ok,ov,st⟩ ⟨hd,hi⟩
  subst hP hw hK
  obtain ⟨f0,f1,f2,f3,f4,f5⟩:=hf it (by simp)
  obtain ⟨⟨z,m,nd,xs,ev,o,ds',ep',g1,g2,g3,g4⟩,g5⟩:=dM I hd
  rw [g5] at g1;cases g1
  rw [hob] at g3;cases g3
  obtain ⟨e,he⟩:∃e,es[i]?=some e:=⟨_,List.getElem?_eq_getElem hi⟩
  obtain ⟨x,hx,ek,rv⟩:=ev.pick he
  have hxl:i < xs.length:=by have:=Paired.length ev;lia
  have hds:ds.size=xs.length:=by have:=congrArg List.length g4;simpa using this
  have hent:ds[i]'(by lia)=qW x:=by
   have h1:ds.toList[i]?=some (qW x):=by rw [g4,List.getElem?_map,hx];rfl
   rw [Array.getElem?_toList,Array.getElem?_eq_getElem (by lia)] at h1
   exact Option.some.inj h1
  refine tE st g5 hob (by lia) fun h' a1 a2 a3 a4=>⟨_,rfl,wpAny_letOwnedTupleGo_items (s:={ s with heap:=h' }) a1 fun h2 b1 b2=>?_⟩
  have hb2:∀b u,b≠it->h'.get? b=some u->h2.get? b=some u:=fun b u hn q=>(b2.2 b hn).trans q
  have I2:Inv X pins σ H { s with heap:=h2 }:=I.turned (t':=s.toks) (fun b o hb q=>hb2 b o hb (a4 b o hb q)) f0 f1 f3 f4 f5
  have np:H s.heap.objs.size=none:=I.hok.fresh (Nat.le_refl _)
  obtain ⟨_,p1,_,p3,p4,p5⟩:=I.fpOk (H':=H) (b:=s.heap.objs.size) (Nat.le_refl _) np
  have nit:s.heap.objs.size≠it:=Nat.ne_of_gt (Heap.lt_size st)
  have tup:=hb2 _ _ nit a2
  rw [hent] at tup
  refine ⟨.ref s.heap.objs.size,upd H s.heap.objs.size (.tup [.ref e.2.1,e.2.2]),I2.track np I.sz p1 p4 p5 ⟨by rw [sizeLine_eq];exact Nat.le_of_ble_eq_true rfl,[.ref x.2.1,x.2.2],.cons (by rw [ek];rfl) (.cons rv .nil),⟨_,tup,rfl,_,rfl⟩⟩,rfl,⟨_,e,he,np,rfl,rfl⟩,⟨_,_,b1⟩,fun b hb=>?_⟩
  have e':b=it:=by simpa using hb
  subst e'
  rw [aD nit.symm];exact f0
 done:=by
  rintro X hP hw hK hc i pins s σ H E I hf ⟨ok,ov,st⟩ ⟨hd,hi⟩
  subst hP hw hK
  obtain ⟨f0,f1,f2,f3,f4,f5⟩:=hf it (by simp)
  obtain ⟨⟨z,m,nd,xs,ev,o,ds',ep',g1,g2,g3,g4⟩,g5⟩:=dM I hd
  rw [g5] at g1;cases g1
  rw [hob] at g3;cases g3
  have hds:ds.size=xs.length:=by have:=congrArg List.length g4;simpa using this
  have:=Paired.length ev
  exact w6 (I.ok.hd hc) st g5 hob (by lia) fun h' eb=>⟨rfl,I.turned (t':=s.toks) (fun b o hb e=>eb b o hb e) f0 f1 f3 f4 f5⟩
 self:=fun _ _ _ _ _ zt1 h=>by obtain ⟨ok,ov,st⟩:=zt1;exact tI st h
section
variable {X:Cx}
noncomputable def tJ (to:TE):TI:=fun σ H R=>to σ H fun x H1=>∃d ob es,x=.ref d/\H1 d=some (bF d ob es)/\R (Iti d ob es) H1
theorem tK {o:Expr} {to:TE} {apos cpos tp:Pos} {elts:List Expr} {x1} (ho:PE X o to) (hbase:attributeBase o "items" X.env (eval o X.env)=eval o X.env:=by rfl)
  (hline:(apos.endLine==cpos.line)=true:=by rfl):PI X (.Tuple elts x1 tp) (.Call (.Attribute o "items" apos) [] [] cpos) (tJ to):=by
 intro pins s σ H R I h
 refine wpAny_Call_method0_late hbase hline (thn (ho pins s σ H _ I h) fun v s1 zr1=>?_)
 obtain ⟨x,H1,I1,r1,d,ob,es,hx,hd,q1⟩:=zr1
 subst hx
 cases r1
 obtain ⟨⟨z,m,nd,xs,ev,o',ds,ep,g1,g2,g3,g4⟩,g5⟩:=dM I1 hd
 rw [g5] at g1;cases g1
 refine ⟨"dict","dict.items",PySem.F.plainAttrs_dict,PySem.F.slot_dict_items,PySem.F.type_dict_items,⟨_,g5,g2.1⟩,fun b e=>by cases e;exact ⟨_,g5,g2.2.1⟩,?_⟩
 refine Calls.callWith_builtin rfl (PySem.evalArgs_none (tF ⟨_,g5,g2.1⟩ m ?_))
 have I2:Inv X pins σ H1 { s1 with heap:=s1.heap.push { cls:=.type "dict_items",data:=.fields #[.ref d] } }:=I1.kept (t':=s1.toks) fun b u q=>Heap.get?_push_of_some _ q
 refine tG (s:={ s1 with heap:=s1.heap.push { cls:=.type "dict_items",data:=.fields #[.ref d] } }) ⟨_,Heap.get?_push_size _ rfl,rfl,rfl⟩ (Heap.get?_push_of_some _ g5) g3 ?_
 refine ⟨(s1.heap.push { cls:=.type "dict_items",data:=.fields #[.ref d] }).objs.size,[(s1.heap.push { cls:=.type "dict_items",data:=.fields #[.ref d] }).objs.size],_,_,H1,rfl,I2.kept (t':=s1.toks) fun b u q=>Heap.get?_push_of_some _ q,nX _ d ob es ds ep g3,⟨_,_,Heap.get?_push_size _ rfl⟩,fun b hb=>?_,q1⟩
 have e:b=(s1.heap.push { cls:=.type "dict_items",data:=.fields #[.ref d] }).objs.size:=by simpa using hb
 subst e
 exact I2.fpOk (Nat.le_refl _) (I2.hok.fresh (Nat.le_refl _))
end
end L2
namespace VL
open PySem L2
section
variable {K:PySem.W.Frag} {X:Cx} {e o:Expr} {te:TE} {va:VT} {pos apos tp:Pos}
noncomputable def itD (kvs:List (List Int×D)):List D:=kvs.map fun x=>.tup [kT x.1,x.2]
noncomputable def tL (va:VT):VTN:=fun S Q=>va S fun r S1=>∃kvs,r=.d (dc kvs)/\Q (itD kvs) S1
theorem tM {elts:List Expr} {x1} (h:VE K X false o te va) (hbase:attributeBase o "items" X.env (eval o X.env)=eval o X.env:=by rfl) (hline:(apos.endLine==pos.line)=true:=by rfl) :
  VI K X (.Tuple elts x1 tp) (.Call (.Attribute o "items" apos) [] [] pos) (tJ te) (tL va):=⟨tK h.pe hbase hline,fun H0 Z σ H S Q C k t hc=>h.snd H0 Z σ H S _ _ k t fun v H1 r S1 k1 st1 rr zq1=>by
 obtain ⟨kvs,er,q⟩:=zq1
 subst er
 have rr:Rep K _ _ H1 v (.dic (kvs.map (·.1)) (kvs.map (·.2))):=rr
 cases rr with
 | @dic a ob es _ _ n f hh ek rk r=>
 refine ⟨a,ob,es,rfl,hh,hc _ (itD kvs) H1 S1 k1 st1 (fun σ2 S2 H2 nm st2 i=>?_) q⟩
 obtain ⟨e1,n1⟩:=st2 a n (by rw [hh];exact fun z=>nomatch z)
 have hh2:H2 a=some (bF a ob es):=e1.trans hh
 have len:(itD kvs).length=es.length:=by have:=congrArg List.length ek;simp [itD] at this ⊢;lia
 rw [len]
 refine ⟨fun hi=>⟨hh2,hi⟩,fun x H3 zr1 hi=>?_,fun hi=>⟨hh2,by lia⟩⟩
 obtain ⟨p,en,he,hp,hx,hH⟩:=zr1
 subst hx;subst hH
 have hg:∀b,H2 b≠none->upd H2 p (.tup [.ref en.2.1,en.2.2]) b=H2 b:=aX hp
 have rk2:=(rk.stp st2).mono (N':=NM Z σ2 S2) (F':=AnyF) (H':=upd H2 p (.tup [.ref en.2.1,en.2.2])) (fun b n z=>⟨n,hg b z⟩) fun _ _=>trivial
 have r2:=(r.stp st2).mono (N':=NM Z σ2 S2) (F':=AnyF) (H':=upd H2 p (.tup [.ref en.2.1,en.2.2])) (fun b n z=>⟨n,hg b z⟩) fun _ _=>trivial
 obtain ⟨dk,hk1,hk2⟩:=rk2.get (i:=i) (v:=.ref en.2.1) (by rw [List.getElem?_map,he];rfl)
 obtain ⟨dv,hv1,hv2⟩:=r2.get (i:=i) (v:=en.2.2) (by rw [List.getElem?_map,he];rfl)
 refine ⟨hg,.tup [dk,dv],?_,.tup ?_ (.inl aH) (.cons hk2 (.cons hv2 .nil))⟩
 ·rw [List.getElem?_map,List.getElem?_map] at hk1
  rw [List.getElem?_map] at hv1
  unfold itD
  rw [List.getElem?_map]
  cases hkv:kvs[i]? with
  | none=>rw [hkv] at hv1;cases hv1
  | some kv=>rw [hkv] at hv1 hk1;cases hv1;cases hk1;rfl
 ·exact nm p hp⟩
end
end VL
end
section
namespace L2
open PySem PySem.Spec PyProof.Rows
section
variable {prog:Program} {w:World} {κ:Type} [DecidableEq κ] {knd:HeapKind prog w κ} {A:Around} {E:Value->Shared->Prop} {s:Shared}
theorem qp {d a:Addr} {xs:List (κ×Addr×Value)} {k:κ} {dv:Value} {Q:Value->Shared->Prop} (hu:knd.room A) (hkey:knd.is s.heap k a) (hm:s.heap.DictOfH knd d xs) (hz:xs.length < sizeLine)
  (old:∀p,atKey xs k=some p->Q p.2 { s with toks:=s.toks+knd.draws k })
  (new:atKey xs k=none->∀h',h'.DictOfH knd d (xs++[(k,a,dv)])->Heap.SameBut d s.heap h'->Q dv { s with heap:=h',toks:=s.toks+knd.draws k }) :
  wpAny (model prog w) A (dictSetDefault d (.ref a) dv) Q E s:=by
 obtain ⟨o,es,ep,g1,g2,g3,g4,g5,g6⟩:=hm
 have hes:=size_of_entries g4
 refine wpAny_holding (wpAny_bind (knd.pyHash hu hkey (wpAny_bind (wpAny_dictFind_heap (s:={ s with toks:=s.toks+knd.draws k }) hu hkey g1 g3 g4 g5 g6 (fun no=>?_) fun j p hj=>?_))))
 ·have nk:=not_mem_keys_of_get no
  have stay:∀{x:κ} {b:Addr},knd.is s.heap x b->knd.is (s.heap.update d (Obj.mapDictKeys fun z=>z.push ⟨knd.hash k,.ref a,dv⟩)) x b:=fun hx=>knd.keeps hx g1 g3 (Heap.SameBut.update ..)
  refine wpAny_bind (wpAny_rule (wpAny_bind (wpAny_updateDictKeys (hz:=by lia) (s:={ s with toks:=s.toks+knd.draws k }) g1 g3 (wpAny_pure (new (atKey_none_of_get no) _ ⟨_,_,ep+1,Heap.get?_update_self _ g1 (Obj.isFreed_of_dict (Obj.data_mapDictKeys g3 _)),g2.mapDictKeys _,Obj.data_mapDictKeys g3 _,?_,fun x hx=>?_,?_⟩ (Heap.SameBut.update ..))))))
  ·rw [Array.toList_push,g4,List.map_append];rfl
  ·rcases List.mem_append.mp hx with hx | hx
   ·exact stay (g5 x hx)
   ·cases List.mem_singleton.mp hx;exact stay hkey
  ·rw [List.map_append]
   exact List.nodup_append.mpr ⟨g6,by simp,fun x hx y hy z=>nk (by cases List.mem_singleton.mp hy;exact (show x=k from z)▸hx)⟩
 ·refine wpAny_bind (wpAny_dictEntries (s:={ s with toks:=s.toks+knd.draws k }) g1 g3 ?_)
  rw [entry_at g4 j,hj]
  exact wpAny_bind (wpAny_rule (wpAny_pure (old p (atKey_of_get g6 hj))))
end
section
variable {X:Cx}
noncomputable def tN (K:PySem.W.Frag) (n:Int):R2:=fun x y H Q=>∃b a ms es,y=.ref b/\x=.ref a/\SqN K H b ms/\(∃ob,H a=some (bF a ob es))/\b6 K H es/\es.length < sizeLine /\
 (∀v,atE es ms=some v->Q v H)/\(atE es ms=none->∀ob,Q (.int n) (upd H a (bF a ob (es++[(ms,b,.int n)]))))
noncomputable def yS (K:PySem.W.Frag) (n:Int) (to ti:TE):TE:=fun σ H Q=>to σ H fun x H1=>(∃a es ob,x=.ref a/\H1 a=some (bF a ob es))/\ti σ H1 fun y H2=>tN K n x y H2 Q
theorem tO {k:List Int} (h:atE es k=none):k∉es.map (·.1):=fun z=>by
 have e:=fT (es:=es) (k:=k)
 rw [h,decide_eq_true z] at e;cases e
theorem qq {s:Shared} {x y:V} {v u:Value} {n:Int} {t:Tok} {Q:VK} (hu:X.A.units+64 < cLine) (I:Inv X pins σ H s) (rx:RelV x v) (ry:RelV y u) (h:tN X.K n x y H Q) :
  wpAny (model X.prog X.w) X.A (call (.builtin "dict.setdefault") [v,u,.int n t]) (EP X pins σ Q) X.xe s:=by
 obtain ⟨b,a,ms,es,rfl,rfl,h1,⟨ob,h2⟩,h3,hl,q1,q2⟩:=h
 cases rx;cases ry
 obtain ⟨z,m,nd,xs,ev,dd⟩:=fS I h2 h3
 have rel:=ev.at_ ms
 refine wpAny_call_entry F.slot_dict_setdefault dd.typeIs F.entry_dict_setdefault ?_ (F.args_dict_setdefault_3 _ _ _)
 unfold Builtin.«dict.setdefault» Builtin.Dict.keyAndDefault
 refine wpAny_bind (wpAny_bind (wpAny_notOrdered_dict dd.typeIs (show wpAny _ _ (pure (a,Value.ref b,some (Value.int n t))) _ _ s from wpAny_pure ?_)))
 show wpAny _ _ (if (a==sysModules)=true then _ else (dictSetDefault a (.ref b) (.int n t) >>= _)) _ _ s
 rw [if_neg (by rw [m];exact Bool.false_ne_true)]
 refine wpAny_bind (qp (tupleKind_room_in1 (by lia)) (di I h1) dd (by rw [<- Paired.length ev];exact hl) (fun p hp=>?_) fun hn h' dd' hs=>?_)
 ·rw [hp] at rel
  cases hv:atE es ms with
  | none=>rw [hv] at rel;exact rel.elim
  | some vv=>
   rw [hv] at rel
   exact wpAny_pure ⟨_,rfl,vv,H,I.tok _,rel,q1 vv hv⟩
 ·rw [hn] at rel
  cases hv:atE es ms with
  | some vv=>rw [hv] at rel;exact rel.elim
  | none=>
   obtain ⟨qo,qd,qe,f1,f2,f3,f4,_,f6⟩:=dd'
   have ev':EV (es++[(ms,b,V.int n)]) (xs++[(ms,b,Value.int n t)]):=Paired.snoc ev ⟨rfl,rfl,t,rfl⟩
   refine wpAny_pure ⟨_,rfl,.int n,_,I.write (x:=a) (e:=a) (by rw [h2];exact True.intro) (.inl rfl) (fun c o hc q=>(hs.2 c hc).trans q) ⟨qo,f1⟩ (DctP.ok ⟨?_,m,?_,_,ev',qo,qd,qe,f1,f2,f3,f4⟩ f1),⟨t,rfl⟩,q2 hv qo⟩
   ·rw [List.length_append];show es.length+1<=sizeLine;lia
   ·rw [ev'.keys];exact f6
noncomputable def two' (K:PySem.W.Frag) (x:V) (Q:VK):List V->Hp->Prop
 | [y,.int k],H=>tN K k x y H Q
 | _,_=>False
theorem w9 {o ie:Expr} {to ti:TE} {n:Int} {j:Nat} {pc apos cpos:Pos} (hu:X.A.units+64 < cLine) (ho:PE X o to) (hi:PE X ie ti) (hbase:attributeBase o "setdefault" X.env (eval o X.env)=eval o X.env:=by rfl)
  (hfew:((backTo cpos (starEach [ie,.Constant (.int n) j pc] X.env)).all (fun x=>!x.1)&&(backToKw cpos (keywordEach [] X.env)).all (fun x=>x.1.isSome)
   && decide (([ie,.Constant (.int n) j pc]:List Expr).length+([]:List Keyword).length+(if ([]:List Keyword).isEmpty then 0 else 1) < 30))=true:=by rfl)
  (hline:(apos.endLine==cpos.line)=true:=by rfl) (hs:starEach [ie,.Constant (.int n) j pc] X.env=(false,eval ie X.env)::starEach [.Constant (.int n) j pc] X.env:=by rfl) (hplain:(backTo cpos (starEach [.Constant (.int n) j pc] X.env)).any (·.1)=false:=by rfl) :
  PE X (.Call (.Attribute o "setdefault" apos) [ie,.Constant (.int n) j pc] [] cpos) (yS X.K n to ti):=by
 intro pins s σ H Q I h
 refine wpAny_Call_method_late hbase hfew hline rfl (thn (ho pins s σ H _ I h) fun v s1 zr1=>?_)
 obtain ⟨x,H1,I1,r1,⟨a,es,ob,hx,ha⟩,q1⟩:=zr1
 subst hx
 cases r1
 obtain ⟨_,_,_,_,_,ob,_,_,z1,z2,_⟩:=fG I1 ha
 refine ⟨"dict","dict.setdefault",PySem.F.plainAttrs_dict,PySem.F.slot_dict_setdefault,PySem.F.type_dict_setdefault,⟨_,z1,z2.1⟩,fun b e=>by cases e;exact ⟨_,z1,z2.2.1⟩,?_⟩
 have hA:=bW hi (bW (gm (i:=n)) fc rfl) hs cpos pins s1 σ H1 (two' X.K (.ref a) Q) I1 q1
 rw [hs] at hA ⊢
 refine Calls.callWith_builtin (by show (false||(backTo cpos (starEach [.Constant (.int n) j pc] X.env)).any (·.1))=false;rw [hplain] <;> rfl) (Calls.evalArgs_plain ?_)
 refine thn hA fun us s2 zr1=>?_
 obtain ⟨vs,H2,I2,r2,q2⟩:=zr1
 match vs,r2,q2 with
 | [y,.int k],r2,q2=>
  obtain ⟨u,w,rfl,ru,t,rfl⟩:=r2.two
  exact qq hu I2 (show RelV (.ref a) (.ref a) from rfl) ru q2
end
end L2
end
section
namespace L2
open PySem PySem.Spec PyProof.Rows
section
variable {X:Cx} {k1 k2 k3 e1 e2 e3 ie:Expr} {t1 t2 t3 ti:TE} {n1 n2 n3:Int} {j1 j2 j3:Nat} {p1 p2 p3 dpos pos:Pos}
noncomputable def DT (n1 n2 n3:Int) (t1 t2 t3 ti:TE):TE:=fun σ H Q=>t1 σ H fun v1 H1=>t2 σ H1 fun v2 H2=>t3 σ H2 fun v3 H3=>ti σ H3 fun y H4=>(y=.int n1/\Q v1 H4)\/(y=.int n2/\Q v2 H4)\/(y=.int n3/\Q v3 H4)
theorem fv {M:Model} {A:Around} {E:Value->Shared->Prop} {s:Shared} {m:Sem Value} {q:Pos} {Q:Value->Shared->Prop} (h:wpAny M A m Q E s):wpAny M A (do let x <- m;standAt q;pure x) Q E s:=
 wpAny_bind (wpAny_mono h (fun _ _ z=>wpAny_bind (wpAny_standAt (wpAny_pure z))) fun _ _ z=>z)
theorem Bp (hd:n1≠n2/\n1≠n3/\n2≠n3) (h1:PE X e1 t1) (h2:PE X e2 t2) (h3:PE X e3 t3) (hi:PE X ie ti) (hs:dJ ie) :
  PE X (.Subscript (.Dict [some (.Constant (.int n1) j1 p1),some (.Constant (.int n2) j2 p2),some (.Constant (.int n3) j3 p3)] [e1,e2,e3] dpos) ie pos) (DT n1 n2 n3 t1 t2 t3 ti):=by
 intro pins s σ H Q I h
 have hb:sysModules < s.heap.objs.size:=kR I
 have np:H s.heap.objs.size=none:=I.hok.fresh (Nat.le_refl _)
 have I0:Inv X pins σ H { s with heap:=s.heap.push { cls:=.type "dict",data:=.dict #[] } }:=I.kept (t':=s.toks) fun b u q=>Heap.get?_push_of_some _ q
 obtain ⟨_,f1,f2,f3,f4,f5⟩:=I.fpOk (H':=H) (b:=s.heap.objs.size) (Nat.le_refl _) np
 have pin0:∀(ob:Obj),(∀v,ob.data≠.cell v)->∀{s':Shared} {H':Hp},Inv X pins σ H' s'->s'.heap.get? s.heap.objs.size=some ob->H' s.heap.objs.size=none->Inv X (pins++[(s.heap.objs.size,ob)]) σ H' s':=fun ob oc s' H' I' g gn=>I'.pins_of fun p hp=>by
  rcases List.mem_append.mp hp with hp | hp
  ·exact I'.pin p (List.mem_append_right _ hp)
  ·cases List.mem_singleton.mp hp
   exact ⟨g,gn,f1,f2,oc⟩
 have I1:=pin0 { cls:=.type "dict",data:=.dict #[] } (fun v z=>by cases z) I0 (Heap.get?_push_size _ rfl) np
 refine Subscript_ (wpAny_Dict_pairs (knd:=intKind X.prog X.w) (pairs:=[(eval (.Constant (.int n1) j1 p1) X.env,do let x <- eval e1 X.env;standAt dpos;pure x),(eval (.Constant (.int n2) j2 p2) X.env,do let x <- eval e2 X.env;standAt dpos;pure x),(eval (.Constant (.int n3) j3 p3) X.env,do let x <- eval e3 X.env;standAt dpos;pure x)]) rfl (by simp) (by simp) ?_)
 refine evalPairs_cons (thn (gm _ _ σ H (fun v H'=>v=.int n1/\H'=H) I1 ⟨rfl,rfl⟩) fun a1 s1 ⟨w1,K1,I2,r1,hw1,hK1⟩=>fv (thn (h1 _ s1 σ H _ (hK1▸I2) h) fun b1 s2 zr1=>?_))
 obtain ⟨v1,H1,I3,rv1,q1⟩:=zr1
 refine evalPairs_cons (thn (gm _ _ σ H1 (fun v H'=>v=.int n2/\H'=H1) I3 ⟨rfl,rfl⟩) fun a2 s3 ⟨w2,K2,I4,r2,hw2,hK2⟩=>fv (thn (h2 _ s3 σ H1 _ (hK2▸I4) q1) fun b2 s4 zr1=>?_))
 obtain ⟨v2,H2,I5,rv2,q2⟩:=zr1
 refine evalPairs_cons (thn (gm _ _ σ H2 (fun v H'=>v=.int n3/\H'=H2) I5 ⟨rfl,rfl⟩) fun a3 s5 ⟨w3,K3,I6,r3,hw3,hK3⟩=>fv (thn (h3 _ s5 σ H2 _ (hK3▸I6) q2) fun b3 s6 ⟨v3,H3,I7,rv3,q3⟩=>evalPairs_nil ?_))
 subst hw1;subst hw2;subst hw3
 obtain ⟨u1,rfl⟩:=r1
 obtain ⟨u2,rfl⟩:=r2
 obtain ⟨u3,rfl⟩:=r3
 obtain ⟨g7,gn7,_⟩:=I7.pin (s.heap.objs.size,_) (List.mem_append_right _ (List.mem_append_right _ List.mem_cons_self))
 refine ⟨[(n1,b1),(n2,b2),(n3,b3)],⟨intKind_is _ _ _ _,rfl,intKind_is _ _ _ _,rfl,intKind_is _ _ _ _,rfl,trivial⟩,⟨_,#[],0,g7,⟨rfl,rfl,rfl⟩,rfl,fun e he=>by simp at he,.nil,List.nodup_nil⟩,fun h' D sb=>?_⟩
 have em:merged [] [(n1,b1),(n2,b2),(n3,b3)]=[(n1,b1),(n2,b2),(n3,b3)]:=by
  obtain ⟨d1,d2,d3⟩:=hd
  simp [merged,stored,d1,d2,d3]
 rw [em] at D
 have I8:Inv X pins σ H3 s6:=I7.unpinned
 have I9:Inv X pins σ H3 { s6 with heap:=h',toks:=s6.toks+[(Value.int n1 u1,b1),(Value.int n2 u2,b2),(Value.int n3 u3,b3)].length }:=I8.turned (fun b o hn e=>(sb.2 b hn).trans e) gn7 f1 f3 f4 f5
 obtain ⟨ob,es,ep,go,gx,gd,gk,gp,gnn⟩:=id D
 have I10:=pin0 ob (fun v z=>by rw [gd] at z;cases z) I9 go gn7
 refine thn (hi _ _ σ H3 _ I10 q3) fun iv s7 zr1=>?_
 obtain ⟨y,H4,I11,ry,q4⟩:=zr1
 obtain ⟨g11,_⟩:=I11.pin (s.heap.objs.size,ob) (List.mem_append_right _ (List.mem_append_right _ List.mem_cons_self))
 have I12:Inv X pins σ H4 s7:=I11.unpinned
 have D7:s7.heap.DictOf (intKind X.prog X.w) s.heap.objs.size [(n1,b1),(n2,b2),(n3,b3)]:=⟨ob,es,ep,g11,gx,gd,gk,gp,gnn⟩
 have fin:∀(ve:Expr) (n:Int) (b:Value) (v:V),RelV v b->y=.int n->valueAt [(n1,b1),(n2,b2),(n3,b3)] n=some b->Q v H4->wpAny (model X.prog X.w) X.A (subscriptTail ve ie (.ref s.heap.objs.size) iv) (EP X pins σ Q) X.xe s7:=fun ve n b v rv hy hm q=>by
  subst hy
  obtain ⟨t,rfl⟩:=ry
  exact tail_any D7.typeIs slot_dict_getitem.lookup (wpAny_getItem_of (k:=n) (intKind_is _ _ _ _) D7.mapOf hm ⟨v,H4,I12.tok _,rv,q⟩) (hs _ _)
 obtain ⟨d1,d2,d3⟩:=hd
 rcases q4 with ⟨hy,q⟩ | ⟨hy,q⟩ | ⟨hy,q⟩
 ·exact fin _ n1 b1 v1 rv1 hy (by simp [valueAt]) q
 ·exact fin _ n2 b2 v2 rv2 hy (by simp [valueAt,d1]) q
 ·exact fin _ n3 b3 v3 rv3 hy (by simp [valueAt,d2,d3]) q
end
end L2
namespace VL
open PySem L2
section
variable {K:PySem.W.Frag} {X:Cx} {m:Bool} {e o ie e1 e2 e3:Expr} {te ti t1 t2 t3:TE} {va vi v1 v2 v3:VT} {pos dpos p1 p2 p3:Pos} {n1 n2 n3:Int} {j1 j2 j3:Nat} {S:List Sl} {Q:VR->List Sl->Prop}
noncomputable def DU (n1 n2 n3:Int) (v1 v2 v3 vi:VT):VT:=fun S Q=>v1 S fun r1 S1=>v2 S1 fun r2 S2=>v3 S2 fun r3 S3=>vi S3 fun ri S4=>(ri=.d (.int n1)/\Q r1 S4)\/(ri=.d (.int n2)/\Q r2 S4)\/(ri=.d (.int n3)/\Q r3 S4)
theorem tP (hd:n1≠n2/\n1≠n3/\n2≠n3) (h1:VE K X m e1 t1 v1) (h2:VE K X m e2 t2 v2) (h3:VE K X m e3 t3 v3) (hi:VE K X false ie ti vi) (hs:dJ ie) :
  VE K X m (.Subscript (.Dict [some (.Constant (.int n1) j1 p1),some (.Constant (.int n2) j2 p2),some (.Constant (.int n3) j3 p3)] [e1,e2,e3] dpos) ie pos) (DT n1 n2 n3 t1 t2 t3 ti) (DU n1 n2 n3 v1 v2 v3 vi):=
 ⟨Bp hd h1.pe h2.pe h3.pe hi.pe hs,fun H0 Z σ H S Q C k t hc=>h1.snd H0 Z σ H S _ _ k t fun x1 H1 r1 S1 k1 st1 rr1 t1=>h2.snd H0 Z σ H1 S1 _ _ k1 t1 fun x2 H2 r2 S2 k2 st2 rr2 t2=>h3.snd H0 Z σ H2 S2 _ _ k2 t2 fun x3 H3 r3 S3 k3 st3 rr3 t3=>
  hi.snd H0 Z σ H3 S3 _ _ k3 t3 fun y H4 ri S4 k4 st4 rri q=>by
   have stA:=((st1.trans st2).trans st3).trans st4
   rcases q with ⟨er,q⟩ | ⟨er,q⟩ | ⟨er,q⟩
   ·subst er;cases (show Rep K _ _ H4 y (.int n1) from rri)
    exact .inl ⟨rfl,hc _ H4 r1 S4 k4 stA (rr1.step ((st2.trans st3).trans st4)) q⟩
   ·subst er;cases (show Rep K _ _ H4 y (.int n2) from rri)
    exact .inr (.inl ⟨rfl,hc _ H4 r2 S4 k4 stA (rr2.step (st3.trans st4)) q⟩)
   ·subst er;cases (show Rep K _ _ H4 y (.int n3) from rri)
    exact .inr (.inr ⟨rfl,hc _ H4 r3 S4 k4 stA (rr3.step st4) q⟩)⟩
noncomputable def k3i (n1 n2 n3:Int) (r1 r2 r3:VR) (Q:VR->List Sl->Prop):VR->List Sl->Prop:=fun ri S4=>(ri=.d (.int n1)/\Q r1 S4)\/(ri=.d (.int n2)/\Q r2 S4)\/(ri=.d (.int n3)/\Q r3 S4)
noncomputable def k3c (n1 n2 n3:Int) (r1 r2:VR) (vi:VT) (Q:VR->List Sl->Prop):VR->List Sl->Prop:=fun r3 S3=>vi S3 (k3i n1 n2 n3 r1 r2 r3 Q)
noncomputable def k3b (n1 n2 n3:Int) (r1:VR) (v3 vi:VT) (Q:VR->List Sl->Prop):VR->List Sl->Prop:=fun r2 S2=>v3 S2 (k3c n1 n2 n3 r1 r2 vi Q)
noncomputable def k3a (n1 n2 n3:Int) (v2 v3 vi:VT) (Q:VR->List Sl->Prop):VR->List Sl->Prop:=fun r1 S1=>v2 S1 (k3b n1 n2 n3 r1 v3 vi Q)
theorem DV (h:v1 S (k3a n1 n2 n3 v2 v3 vi Q)):DU n1 n2 n3 v1 v2 v3 vi S Q:=h
theorem DW (h:v2 S (k3b n1 n2 n3 r v3 vi Q)):k3a n1 n2 n3 v2 v3 vi Q r S:=h
theorem DX {r r':VR} (h:v3 S (k3c n1 n2 n3 r' r vi Q)):k3b n1 n2 n3 r' v3 vi Q r S:=h
theorem DY {r r' r'':VR} (h:vi S (k3i n1 n2 n3 r'' r' r Q)):k3c n1 n2 n3 r'' r' vi Q r S:=h
theorem tQ {r1 r2 r3:VR} (h:Q r1 S):k3i n1 n2 n3 r1 r2 r3 Q (.d (.int n1)) S:=.inl ⟨rfl,h⟩
theorem tR {r1 r2 r3:VR} (h:Q r2 S):k3i n1 n2 n3 r1 r2 r3 Q (.d (.int n2)) S:=.inr (.inl ⟨rfl,h⟩)
theorem tS {r1 r2 r3:VR} (h:Q r3 S):k3i n1 n2 n3 r1 r2 r3 Q (.d (.int n3)) S:=.inr (.inr ⟨rfl,h⟩)
noncomputable def sdA (kvs:List (List Int×D)) (k:List Int) (n:Int):List (List Int×D):=if k∈kvs.map (·.1) then kvs else kvs++[(k,.int n)]
noncomputable def yT (i:Nat) (n:Int) (vk:VT):VT:=fun S Q=>(∃kvs,S[i]?=some (od kvs))/\vk S fun rk S1=>∃kvs ms j,S1[i]?=some (od kvs)/\get S1 rk=some (kT ms)/\kvs.length<=1000000/\(dC kvs ms).getD (.int n)=.int j/\Q (.d (.int j)) (S1.set i (od (sdA kvs ms n)))
theorem qr {l:List Sl} {i:Nat} {s:Sl} (h:l[i]?=some s):l.set i s=l:=by
 apply List.ext_getElem?
 intro j
 rw [List.getElem?_set]
 by_cases e:i=j
 ·subst e
  rw [if_pos rfl]
  split
  ·exact h.symm
  ·rename_i z
   have:=(List.getElem?_eq_some_iff.mp h).1
   exact absurd this z
 ·rw [if_neg e]
theorem xf {apos pc:Pos} {n:Int} {j:Nat} (i:Nat) (hK:X.K=K) (hu:X.A.units+64 < cLine) (ho:PE X o (cG i)) (hk:VE K X false ie ti vi) (hbase:attributeBase o "setdefault" X.env (eval o X.env)=eval o X.env:=by rfl)
  (hfew:((backTo pos (starEach [ie,.Constant (.int n) j pc] X.env)).all (fun x=>!x.1)&&(backToKw pos (keywordEach [] X.env)).all (fun x=>x.1.isSome)
   && decide (([ie,.Constant (.int n) j pc]:List Expr).length+([]:List Keyword).length+(if ([]:List Keyword).isEmpty then 0 else 1) < 30))=true:=by rfl)
  (hline:(apos.endLine==pos.line)=true:=by rfl) (hs:starEach [ie,.Constant (.int n) j pc] X.env=(false,eval ie X.env)::starEach [.Constant (.int n) j pc] X.env:=by rfl) (hplain:(backTo pos (starEach [.Constant (.int n) j pc] X.env)).any (·.1)=false:=by rfl) :
  VE K X m (.Call (.Attribute o "setdefault" apos) [ie,.Constant (.int n) j pc] [] pos) (yS K n (cG i) ti) (yT i n vi):=
 ⟨by subst hK;exact w9 hu ho hk.pe hbase hfew hline hs hplain,fun H0 Z σ H S Q C k zq1 hc=>by
  obtain ⟨⟨kvs0,e0⟩,t⟩:=zq1
  obtain ⟨o1,g1,p,es0,rfl,⟨ob0,ha0⟩,_⟩:=k.ownAt e0
  refine ⟨.ref p,g1,⟨p,es0,ob0,rfl,ha0⟩,hk.snd H0 Z σ H S _ _ k t fun y H2 rk S2 k2 st2 rr2 zr1=>?_⟩
  obtain ⟨kvs,ms,jj,e1,ek,hl,ej,q⟩:=zr1
  obtain ⟨o2,g2,p',es,e2,⟨ob,h2⟩,h3,⟨h4,h5⟩,h6⟩:=k2.ownAt e1
  rw [g1] at g2;cases g2;cases e2
  obtain ⟨b,rfl,hq,rb⟩:=sT rr2 ek
  have hka:b6 K H2 es:=dD (by rw [h4];exact h5)
  have hle:es.length=kvs.length:=by have:=congrArg List.length h4;simpa using this
  refine ⟨b,p,ms,es,rfl,rfl,SqN.of hq,⟨ob,h2⟩,hka,by rw [sizeLine_eq];lia,fun v hv=>?_,fun hv obn=>?_⟩
  ·rcases fW (k:=ms) h4 h6 with ⟨z1,_⟩ | ⟨v',d,z1,z2,r⟩
   ·rw [hv] at z1;cases z1
   ·rw [hv] at z1;cases z1
    rw [z2] at ej
    cases (show d=.int jj from ej)
    cases r
    have hin:ms∈kvs.map (·.1):=by
     have s1:=fT (es:=es) (k:=ms)
     rw [hv,h4] at s1
     exact of_decide_eq_true s1.symm
    have es':S2.set i (od (sdA kvs ms n))=S2:=by unfold sdA;rw [if_pos hin];exact qr e1
    rw [es'] at q
    exact hc _ H2 (.d (.int jj)) S2 k2 st2 (Rep.int jj) q
  ·have hnin:ms∉kvs.map (·.1):=by rw [<- h4];exact tO hv
   have na:NM Z σ S2 p->False:=fun n=>n (.inl ⟨i,_,e1,rfl,g1⟩)
   have hm:∀c,NM Z σ S2 c->H2 c≠none->NM Z σ S2 c/\upd H2 p (bF p obn (es++[(ms,b,.int n)])) c=H2 c:=fun c n _=>⟨n,aD fun z=>na (by rw [<- z];exact n)⟩
   have hj:jj=n:=by
    rcases fW (k:=ms) h4 h6 with ⟨_,z2⟩ | ⟨v',d,z1,_⟩
    ·rw [z2] at ej;cases ej;rfl
    ·rw [hv] at z1;cases z1
   subst hj
   unfold sdA at q
   rw [if_neg hnin] at q
   obtain ⟨k3,st3⟩:=k2.chgD (s:=od (kvs++[(ms,.int jj)])) (o:=bF p obn (es++[(ms,b,.int jj)])) e1 rfl g1 rfl ⟨p,es++[(ms,b,.int jj)],rfl,⟨obn,aH⟩,h3,⟨by rw [List.map_append,List.map_append,h4];rfl,by
    rw [List.map_append,List.map_append,List.map_append]
    exact Reps.append (h5.mono hm fun _ x=>x) (.cons (rb.mono hm fun _ x=>x) .nil)⟩,by
    rw [List.map_append,List.map_append]
    exact Reps.append (h6.mono hm fun _ x=>x) (.cons (.int jj) .nil)⟩
   exact hc _ _ (.d (.int jj)) _ k3 (st2.trans st3) (Rep.int jj) q⟩
noncomputable def yU (i:Nat) (n:Int) (Q:VR->List Sl->Prop):VR->List Sl->Prop:=fun rk S1=>∃kvs ms j,S1[i]?=some (od kvs)/\get S1 rk=some (kT ms)/\kvs.length<=1000000/\(dC kvs ms).getD (.int n)=.int j/\Q (.d (.int j)) (S1.set i (od (sdA kvs ms n)))
theorem Bq {i:Nat} {n:Int} (e:S[i]?=some (od kvs)) (h:vi S (yU i n Q)):yT i n vi S Q:=⟨⟨kvs,e⟩,h⟩
theorem xg {i:Nat} {n j:Int} {rk:VR} (e:S[i]?=some (od kvs)) (ek:get S rk=some (kT ms)) (hl:kvs.length<=1000000) (ej:(dC kvs ms).getD (.int n)=.int j) (h:Q (.d (.int j)) (S.set i (od (sdA kvs ms n)))):yU i n Q rk S:=⟨kvs,ms,j,e,ek,hl,ej,h⟩
end
end VL
end
section
namespace VL
open PySem L2
section
variable {K:PySem.W.Frag} {X:Cx} {m:Bool} {e:Expr} {es:List Expr} {tr:TA} {vr:VTA} {x:Str} {p0 p pos:Pos} {j k:Nat} {ps:List Str} {S:List Sl} {QN:List D->List Sl->Prop}
noncomputable def DZ (p:List D->(D->Prop)->Prop) (vr:VTA):VTD:=fun S Q=>vr S fun rs S1=>∃ds,gets S1 rs=some ds/\p ds fun d=>∃kvs,d=dc kvs/\flats (kvs.map (·.2))=true/\Q kvs S1
theorem D0 {p:List D->(D->Prop)->Prop} (E:Has X.prog X.w X.K X.mg X.base k x ps (spP K p)) (hr:bV j X.A) (ha:VA K X false (e::es) tr vr)
  (hk:k<=j:=by decide) (hg:Gl X x:=by rfl) (hdb:(x==("__debug__":Str))=false:=by decide) (he:starEach (e::es) X.env=(false,eval e X.env)::starEach es X.env:=by rfl)
  (hpl:(backTo pos (starEach es X.env)).any (·.1)=false:=by rfl):VDe K X (.Call (.Name x p0) (e::es) [] pos) (iQ (spP K p) [] E0 tr) (DZ p vr):=⟨oG E hr ha.pe hk hg hdb he hpl,fun H0 Z σ H S Q C k t hc=>
 ha.snd H0 Z σ H S _ _ k t fun vs H1 rs S1 k1 st1 rrs zq1=>by
  obtain ⟨ds,e,q⟩:=zq1
  refine ⟨ds,_,by rw [List.append_nil];exact rrs.gets k1 e,q,fun d v H' ⟨kvs,ed,hf,q⟩ g r=>?_⟩
  subst ed
  have r2:=Rep.avoid (N':=NM Z σ S1) (fun a z=>by
   have e:=k1.mo (Classical.not_not.mp z)
   rw [g a e.ne];exact e) (fun a zq1=>by obtain ⟨b,e,f⟩:=zq1;cases e;exact k1.nm f) r
  cases r2 with
  | @dic a ob ws _ _ n f h ek rk rs=>
   obtain ⟨b,e,f⟩:=f
   cases e
   have hM:∀b,¬(NM Z σ S1 b/\b≠a)->IsM (H' b):=fun b z=>by
    by_cases hb:b=a
    ·rw [hb,h];trivial
    ·have hmo:Mo Z σ S1 b:=Classical.byContradiction fun y=>z ⟨y,hb⟩
     have e:=k1.mo hmo
     rw [g b e.ne];exact e
   have sh:∀{us:List V} {ds:List D} {F:FP},Reps K (NM Z σ S1) F H' us ds->flats ds=true->∀F':FP,Reps K (fun b=>NM Z σ S1 b/\b≠a) F' H' us ds:=fun rr ff F'=>
    (Reps.avoid (N':=fun b=>NM Z σ S1 b/\b≠a) hM (fun b fb=>fb.elim) (Reps.flat (F':=fun _=>False) rr ff)).mono (fun _ n _=>⟨n,rfl⟩) (fun o f=>f.elim)
   exact hc a ws kvs H1 H' S1 k1 st1 f g ⟨ob,h⟩ ek (sh rk (iU _) _) (sh rs hf _) q⟩
noncomputable def D1 (p:List D->(D->Prop)->Prop) (Q:List (List Int×D)->List Sl->Prop):List VR->List Sl->Prop:=fun rs S1=>∃ds,gets S1 rs=some ds/\p ds fun d=>∃kvs,d=dc kvs/\flats (kvs.map (·.2))=true/\Q kvs S1
theorem D2 {p:List D->(D->Prop)->Prop} {Q:List (List Int×D)->List Sl->Prop} (h:vr S (D1 p Q)):DZ p vr S Q:=h
theorem Br {p:List D->(D->Prop)->Prop} {Q:List (List Int×D)->List Sl->Prop} (e:gets S rs=some ds) (h:p ds fun d=>∃kvs,d=dc kvs/\flats (kvs.map (·.2))=true/\Q kvs S):D1 p Q rs S:=⟨ds,e,h⟩
noncomputable def tT (vr:VTA):VTN:=fun S Q=>vr S fun rs S1=>∃r mss,rs=[r]/\get S1 r=some (eL mss)/\(∀ms∈mss,ms≠[])/\Q ((srt mss).map eT) S1
theorem de (hK:X.K=K) (hex:X.ex=[]) (hg:Gl X "sorted") (hm:X.mg "sorted"=none) (hb:bootBuiltins "sorted"=some (.builtin "sorted")) (ha:VA K X false [e] tr vr) (he:starEach [e] X.env=[(false,eval e X.env)]:=by rfl) :
  VN K X (.Call (.Name "sorted" p) [e] [] pos) (tCB (tx K) tr) (tT vr):=
 ⟨by subst hK;exact fD nW hg hm hb ha.pe (by decide) (by decide) he rfl,fun H0 Z σ H S Q C k t hc=>ha.snd H0 Z σ H S _ _ k t fun vs H1 rs S1 k1 st1 rrs zq1=>by
  obtain ⟨r,mss,e1,e2,h1,q⟩:=zq1
  subst e1
  obtain ⟨v,rfl,rv⟩:=rrs.one
  obtain ⟨a,ys,rfl,hq,rr⟩:=rv.elems k1 e2
  obtain ⟨ps,rfl,ht,_⟩:=jV rr
  exact ⟨a,ps,mss,rfl,hq,ht,h1,fun l ps' hl ht'=>hc l _ _ H1 _ S1 k1 st1 hl (aX hl) aH (bY hl (fO k1.tupN ht')) q⟩⟩
noncomputable def tU (QN:List D->List Sl->Prop):List VR->List Sl->Prop:=fun rs S1=>∃r mss,rs=[r]/\get S1 r=some (eL mss)/\(∀ms∈mss,ms≠[])/\QN ((srt mss).map eT) S1
theorem xh (h:vr S (tU QN)):tT vr S QN:=h
theorem b9 (e:get S r=some (eL mss)) (h1:∀ms∈mss,ms≠[]) (h:QN ((srt mss).map eT) S):tU QN [r] S:=⟨r,mss,rfl,e,h1,h⟩
variable {va:VT}
noncomputable def tV (QN:List D->List Sl->Prop):VR->List Sl->Prop:=fun r S1=>∃kvs,r=.d (dc kvs)/\QN (itD kvs) S1
theorem xi (h:va S (tV QN)):tL va S QN:=h
theorem tW (h:QN (itD kvs) S):tV QN (.d (dc kvs)) S:=⟨kvs,rfl,h⟩
end
end VL
end
section
namespace L2
open PySem PySem.Spec PyProof.Rows
section
variable {prog:Program} {w:World} {A:Around} {E:Value->Shared->Prop} {s:Shared}
noncomputable def KyIt (h:Heap) (it d:Addr) (i n ep:Nat):Prop:=h.get? it=some { cls:=.type "dict_keyiterator",data:=.fields #[.ref d,.int i 0,.int n 0,.int ep 0] }
theorem qt:Builtin.Dict_items.ownsTuple "dict_keyiterator"=false:=by decide
theorem iu {it:Addr} {Q:Nat->Shared->Prop} (ty:s.TypeIs (.ref it) "dict_keyiterator") (h:Q 0 s) :
  wpAny (model prog w) A (typeNameOfWhole (.ref it) >>= fun n=>pure (if Builtin.Dict_items.ownsTuple n=true then 2 else 0)) Q E s:=
 wpAny_bind (wpAny_typeNameOfWhole_keyiter ty (wpAny_pure (by rw [qt];exact h)))
theorem xj {it d:Addr} {i ep:Nat} {o:Obj} {es:Array DictEntry} {Q:Option Value->Shared->Prop} (hit:KyIt s.heap it d i es.size ep) (ho:s.heap.get? d=some o) (hd:o.data=.dict es ep) (hi:i < es.size)
  (hQ:∀h',KyIt h' it d (i+1) es.size ep->(∀b u,b≠it->s.heap.get? b=some u->h'.get? b=some u)->Q (some es[i].key) { s with heap:=h' }):wpAny (model prog w) A (pyNext (.ref it)) Q E s:=by
 have ty:s.TypeIs (.ref it) "dict_keyiterator":=⟨_,hit,rfl⟩
 unfold pyNext
 refine wpAny_bind (wpAny_attempt (wpAny_callSpecial?_slot (name:=Str.ofString "__next__") ty F.slot_dict_keyiterator_next (wpAny_call_entry F.slot_dict_keyiterator_next ty F.entry_dict_keyiterator_next ?_ (F.args_dict_keyiterator_next_1 _))))
 refine wpAny_bind (wpAny_pure (wpAny_bind (wpAny_bind (iu ty (wpAny_bind (wpAny_fieldsOf hit rfl ?_))))))
 show wpAny _ _ (if (Value.ref d==Value.none)=true then _ else _) _ _ s
 rw [if_neg (fun z:(Value.ref d==Value.none)=true=>Bool.false_ne_true z)]
 refine wpAny_bind (wpAny_pure (wpAny_bind (wpAny_dictEntries ho hd ?_)))
 rw [if_neg (by simp)]
 refine wpAny_bind (wpAny_pure (wpAny_bind (wpAny_dictEpoch ho hd ?_)))
 rw [if_neg (by simp)]
 refine wpAny_pure ?_
 have hx:(if ((i:Nat):Int) < 0 then none else es[((i:Nat):Int).toNat]?)=some es[i]:=by rw [if_neg (by lia),Int.toNat_natCast];exact Array.getElem?_eq_getElem hi
 dsimp only
 rw [hx]
 refine wpAny_bind (iu ty (wpAny_bind (wpAny_isOneOf_keyiter ty (wpAny_bind (wpAny_setField_rec hit (k:=1) (by simp) fun g e b=>?_)))))
 have e':KyIt g it d (i+1) es.size ep:=by
  have z:((i+1:Nat):Int)=(i:Int)+1:=by lia
  unfold KyIt;rw [z];exact e
 refine wpAny_bind (wpAny_holding (wpAny_bind (wpAny_isOneOf_keyiter (s:={ s with heap:=g }) ⟨_,e',rfl⟩ ?_)))
 exact wpAny_pure (wpAny_pure ⟨_,rfl,wpAny_pure (hQ g e' fun c u hn z=>(b.2 c hn).trans z)⟩)
theorem Bs {it d:Addr} {i ep:Nat} {o:Obj} {es:Array DictEntry} {Q:Option Value->Shared->Prop} (hh:A.handled=none) (hit:KyIt s.heap it d i es.size ep) (ho:s.heap.get? d=some o) (hd:o.data=.dict es ep) (hi:es.size<=i)
  (hQ:∀h',Heap.ExtBut it s.heap h'->Q none { s with heap:=h' }):wpAny (model prog w) A (pyNext (.ref it)) Q E s:=by
 have ty:s.TypeIs (.ref it) "dict_keyiterator":=⟨_,hit,rfl⟩
 unfold pyNext
 refine wpAny_bind (wpAny_attempt (wpAny_callSpecial?_slot (name:=Str.ofString "__next__") ty F.slot_dict_keyiterator_next (wpAny_call_entry F.slot_dict_keyiterator_next ty F.entry_dict_keyiterator_next ?_ (F.args_dict_keyiterator_next_1 _))))
 refine wpAny_bind (wpAny_pure (wpAny_bind (wpAny_bind (iu ty (wpAny_bind (wpAny_fieldsOf hit rfl ?_))))))
 show wpAny _ _ (if (Value.ref d==Value.none)=true then _ else _) _ _ s
 rw [if_neg (fun z:(Value.ref d==Value.none)=true=>Bool.false_ne_true z)]
 refine wpAny_bind (wpAny_pure (wpAny_bind (wpAny_dictEntries ho hd ?_)))
 rw [if_neg (by simp)]
 refine wpAny_bind (wpAny_pure (wpAny_bind (wpAny_dictEpoch ho hd ?_)))
 rw [if_neg (by simp)]
 refine wpAny_pure ?_
 have hx:(if ((i:Nat):Int) < 0 then none else es[((i:Nat):Int).toNat]?)=none:=by rw [if_neg (by lia),Int.toNat_natCast];exact Array.getElem?_eq_none hi
 dsimp only
 rw [hx]
 refine wpAny_bind (iu ty (wpAny_bind (wpAny_setField hit rfl (by simp) ?_)))
 unfold newExc newTuple
 refine wpAny_bind (wpAny_bind (wpAny_newObj_type (wpAny_bind (m:=firstArgMember _ _) (wpAny_of_eq (a:=Value.none) (by first | rfl | (simp only [firstArgMember];rfl)) (wpAny_newObj_type (wpAny_raiseNew_none (show A.in1.handled=none from hh) ?_) (by size_fits)))) (by size_fits)))
 refine wpAny_bind (wpAny_isInstance (b:=true) (T:="StopIteration") ⟨_,Heap.get?_push_size _ rfl,rfl⟩ isSubtype_stop (wpAny_pure (hQ _ ?_)))
 intro b u hn e
 exact Heap.get?_push_of_some _ (Heap.get?_push_of_some _ (((Heap.SameBut.update ..).2 b hn).trans e))
theorem xk {d:Addr} {o:Obj} {es:Array DictEntry} {ep:Nat} {Q:Value->Shared->Prop} (ty:s.TypeIs (.ref d) "dict") (hs:(d==sysModules)=false) (ho:s.heap.get? d=some o) (hd:o.data=.dict es ep)
  (h:Q (.ref s.heap.objs.size) { s with heap:=s.heap.push { cls:=.type "dict_keyiterator",data:=.fields #[.ref d,.int 0 0,.int es.size 0,.int ep 0] } }):wpAny (model prog w) A (pyIter (.ref d)) Q E s:=by
 refine wpAny_pyIter_slot ty F.slot_dict_iter (wpAny_call_entry F.slot_dict_iter ty F.entry_dict_iter (wpAny_bind (wpAny_bind (wpAny_notOrdered_dict ty (wpAny_pure ?_)))) (F.args_dict_iter_1 _))
 refine wpAny_bind (m:=Builtin.Dict.showsAll d) ?_
 unfold Builtin.Dict.showsAll
 rw [if_neg (by rw [hs];exact Bool.false_ne_true)]
 refine wpAny_pure (wpAny_bind (wpAny_dictEntries ho hd (wpAny_bind (wpAny_dictEpoch ho hd (wpAny_bind (wpAny_newObj_type (wpAny_pure ⟨_,rfl,"dict_keyiterator",_,⟨_,Heap.get?_push_size _ rfl,rfl⟩,F.slot_dict_keyiterator_next.lookup,?_⟩)))))))
 simpa [rawInt] using h
end
noncomputable def Itk (d:Addr) (ob:Obj) (es:List (List Int×Addr×V)):It:=
 ⟨fun i H=>H d=some (bF d ob es)/\i < es.length,fun i H x H'=>∃e,es[i]?=some e/\x=.ref e.2.1/\H'=H,fun i H=>H d=some (bF d ob es)/\es.length<=i⟩
theorem qu {P:Program} {w:World} {tg:Expr} (it d:Addr) (ob:Obj) (es:List (List Int×Addr×V)) (ds:Array DictEntry) (ep:Nat) (hob:ob.data=.dict ds ep) :
  Turn P w K tg (Itk d ob es) [it] it (fun i h=>KyIt h it d i ds.size ep) where
 mem:=by simp
 obj:=fun i h st b hb=>by
  have e:b=it:=by simpa using hb
  subst e
  exact ⟨_,st,fun v z=>by
   have z':Data.fields _=Data.cell v:=z
   cases z'⟩
 keep:=fun i h h' st k=>k it (by simp) _ st
 item:=by
  rintro X hP hw hK hc i pins s σ H E I hf st ⟨hd,hi⟩
  subst hP hw hK
  obtain ⟨f0,f1,f2,f3,f4,f5⟩:=hf it (by simp)
  obtain ⟨⟨z,m,nd,xs,ev,o,ds',ep',g1,g2,g3,g4⟩,g5⟩:=dM I hd
  rw [g5] at g1;cases g1
  rw [hob] at g3;cases g3
  obtain ⟨e,he⟩:∃e,es[i]?=some e:=⟨_,List.getElem?_eq_getElem hi⟩
  obtain ⟨x,hx,ek,rv⟩:=ev.pick he
  have hxl:i < xs.length:=by have:=Paired.length ev;lia
  have hds:ds.size=xs.length:=by have:=congrArg List.length g4;simpa using this
  have hent:ds[i]'(by lia)=qW x:=by
   have h1:ds.toList[i]?=some (qW x):=by rw [g4,List.getElem?_map,hx];rfl
   rw [Array.getElem?_toList,Array.getElem?_eq_getElem (by lia)] at h1
   exact Option.some.inj h1
  refine xj st g5 hob (by lia) fun h' a1 a2=>⟨_,rfl,qO (s:={ s with heap:=h' }) a1 rfl rfl (by decide) ?_⟩
  refine ⟨.ref e.2.1,H,I.turned (t':=s.toks) (fun b o hb q=>a2 b o hb q) f0 f1 f3 f4 f5,?_,⟨e,he,rfl,rfl⟩,a1,fun b hb=>?_⟩
  ·rw [hent,ek];rfl
  ·have e':b=it:=by simpa using hb
   subst e';exact f0
 done:=by
  rintro X hP hw hK hc i pins s σ H E I hf st ⟨hd,hi⟩
  subst hP hw hK
  obtain ⟨f0,f1,f2,f3,f4,f5⟩:=hf it (by simp)
  obtain ⟨⟨z,m,nd,xs,ev,o,ds',ep',g1,g2,g3,g4⟩,g5⟩:=dM I hd
  rw [g5] at g1;cases g1
  rw [hob] at g3;cases g3
  have hds:ds.size=xs.length:=by have:=congrArg List.length g4;simpa using this
  have:=Paired.length ev
  exact Bs (I.ok.hd hc) st g5 hob (by lia) fun h' eb=>⟨rfl,I.turned (t':=s.toks) (fun b o hb e=>eb b o hb e) f0 f1 f3 f4 f5⟩
 self:=fun _ _ _ _ _ st h=>wpAny_pyIter_keyiter ⟨_,st,rfl,rfl⟩ h
section
variable {X:Cx}
noncomputable def yV (to:TE):TI:=fun σ H R=>to σ H fun x H1=>∃d ob es,x=.ref d/\H1 d=some (bF d ob es)/\R (Itk d ob es) H1
theorem xl {tg o:Expr} {to:TE} (ho:PE X o to):PI X tg o (yV to):=by
 intro pins s σ H R I h
 refine thn (ho pins s σ H _ I h) fun v s1 zr1=>?_
 obtain ⟨x,H1,I1,r1,d,ob,es,hx,hd,q1⟩:=zr1
 subst hx
 cases r1
 obtain ⟨⟨z,m,nd,xs,ev,o',ds,ep,g1,g2,g3,g4⟩,g5⟩:=dM I1 hd
 rw [g5] at g1;cases g1
 refine xk ⟨_,g5,g2.1⟩ m g5 g3 ⟨s1.heap.objs.size,[s1.heap.objs.size],_,_,H1,rfl,I1.kept (t':=s1.toks) fun b u q=>Heap.get?_push_of_some _ q,qu _ d ob es ds ep g3,Heap.get?_push_size _ rfl,fun b hb=>?_,q1⟩
 have e:b=s1.heap.objs.size:=by simpa using hb
 subst e
 exact I1.fpOk (Nat.le_refl _) (I1.hok.fresh (Nat.le_refl _))
end
end L2
namespace VL
open PySem L2
section
variable {K:PySem.W.Frag} {X:Cx} {e o tg:Expr} {te:TE} {va:VT} {S:List Sl} {QN:List D->List Sl->Prop}
noncomputable def yW (va:VT):VTN:=fun S Q=>va S fun r S1=>∃kvs,r=.d (dc kvs)/\Q ((kvs.map (·.1)).map kT) S1
theorem xm (h:VE K X false o te va):VI K X tg o (yV te) (yW va):=⟨xl h.pe,fun H0 Z σ H S Q C k t hc=>h.snd H0 Z σ H S _ _ k t fun v H1 r S1 k1 st1 rr zq1=>by
 obtain ⟨kvs,er,q⟩:=zq1
 subst er
 have rr:Rep K _ _ H1 v (.dic (kvs.map (·.1)) (kvs.map (·.2))):=rr
 cases rr with
 | @dic a ob es _ _ n f hh ek rk r=>
 refine ⟨a,ob,es,rfl,hh,hc _ ((kvs.map (·.1)).map kT) H1 S1 k1 st1 (fun σ2 S2 H2 nm st2 i=>?_) q⟩
 obtain ⟨e1,n1⟩:=st2 a n (by rw [hh];exact fun z=>nomatch z)
 have hh2:H2 a=some (bF a ob es):=e1.trans hh
 have len:((kvs.map (·.1)).map kT).length=es.length:=by have:=congrArg List.length ek;simp at this ⊢;lia
 rw [len]
 refine ⟨fun hi=>⟨hh2,hi⟩,fun x H3 zr1 hi=>?_,fun hi=>⟨hh2,by lia⟩⟩
 obtain ⟨en,he,hx,hH⟩:=zr1
 subst hx;subst hH
 have rk2:=(rk.stp st2).mono (N':=NM Z σ2 S2) (F':=AnyF) (H':=H3) (fun b n z=>⟨n,rfl⟩) fun _ _=>trivial
 obtain ⟨dk,hk1,hk2⟩:=rk2.get (i:=i) (v:=.ref en.2.1) (by rw [List.getElem?_map,he];rfl)
 exact ⟨fun _ _=>rfl,dk,hk1,hk2⟩⟩
noncomputable def yX (QN:List D->List Sl->Prop):VR->List Sl->Prop:=fun r S1=>∃kvs,r=.d (dc kvs)/\QN ((kvs.map (·.1)).map kT) S1
theorem Bt (h:va S (yX QN)):yW va S QN:=h
theorem xn (h:QN ((kvs.map (·.1)).map kT) S):yX QN (.d (dc kvs)) S:=⟨kvs,rfl,h⟩
end
end VL
end
section
namespace VL
open PySem L2
section
variable {K:PySem.W.Frag} {X:Cx} {stm:Stmt} {ts:TS} {t:VTS}
theorem pA:∀{S:List Sl} {i:Nat} {ks:List (List Int)} {ds:List D},S[i]?=some (.odi ks ds)->Wk S (S.set i (.val (.dic ks ds)))
 | [],i,_,_,h=>by simp at h
 | s::r,0,ks,ds,h=>by
  have e:s=.odi ks ds:=by simpa using h
  subst e
  exact .fd (Wk.refl r)
 | s::r,i+1,ks,ds,h=>Wk.keep (pA (by simpa using h))
noncomputable def yY (i:Nat) (t:VTS):VTS:=fun V S=>∃kvs,S[i]?=some (od kvs)/\t V (S.set i (.val (dc kvs)))
theorem xo (i:Nat) (h:VS K X stm ts t):VS K X stm ts (yY i t):=⟨h.ps,fun H0 Z σ H S V E k zq1 l=>by
 obtain ⟨kvs,e,t⟩:=zq1
 obtain ⟨k',st⟩:=k.wk (pA e)
 exact h.snd H0 Z σ H _ V E k' t (l.step st)⟩
theorem Bu {i:Nat} {V:bt} (e:S[i]?=some (od kvs)) (h:t V (S.set i (.val (dc kvs)))):yY i t V S:=⟨kvs,e,h⟩
end
end VL
end
section
namespace L2
open PySem PySem.Spec PyProof.Rows
section
variable {X:Cx}
noncomputable def tX (K:PySem.W.Frag):V->V->Hp->VK->Prop:=fun x y H Q=>∃b a ms es v,y=.ref b/\x=.ref a/\SqN K H b ms/\(∃ob,H a=some (bF a ob es))/\b6 K H es/\atE es ms=some v/\Q v H
theorem xp (hu:X.A.units+64 < cLine):B8 X (tX X.K):=by
 rintro pins s σ H o i ov iv Q I r1 r2 ⟨b,a,ms,es,v,ey,ex,h1,⟨ob,h2⟩,h3,hv,q⟩
 subst ex;subst ey
 cases r1;cases r2
 obtain ⟨z,m,nd,xs,ev,dd⟩:=fS I h2 h3
 have r:=ev.at_ ms
 rw [hv] at r
 cases h5:atKey xs ms with
 | none=>rw [h5] at r;exact r.elim
 | some p=>
  rw [h5] at r
  exact wpAny_getItem_heap (tupleKind_room_in1 (by lia)) (di I h1) dd h5 ⟨v,H,I.tok _,r,q⟩
end
end L2
end
section
namespace VL
open PySem L2
section
variable {K:PySem.W.Frag} {N N':AP} {F:FP} {H H' H0:Hp} {Z P:AP} {σ σ':St} {S S':List Sl}
mutual
theorem Rep.mark {v:L2.V} {d:D}:Rep K N F H v d->Rep K N (fun o=>F o/\∀a,o=some a->N a/\IsM (H a)) H v d
 | .int i=>.int i
 | .bl i=>.bl i
 | .non=>.non
 | .str i=>.str i
 | .ty i=>.ty i
 | .tup n h r=>.tup n h (Reps.mark r)
 | .tupK h r=>.tupK h (Reps.mark r)
 | .lst n f h r=>.lst n ⟨f,fun a e=>by cases e;exact ⟨n,by rw [h];trivial⟩⟩ h (Reps.mark r)
 | .lstF n f h r=>.lstF n ⟨f,fun a e=>nomatch e⟩ h (Reps.mark r)
 | .lstK f h r=>.lstK ⟨f,fun a e=>nomatch e⟩ h (Reps.mark r)
 | .dic n f h e rk r=>.dic n ⟨f,fun a e=>by cases e;exact ⟨n,by rw [h];trivial⟩⟩ h e (Reps.mark rk) (Reps.mark r)
 | .exc n h e=>.exc n h e
 | .oth (k:=k) h=>.oth (k.both (fun a n m f=>⟨f,fun b e=>by cases e;exact ⟨n,m⟩⟩) (fun f=>⟨f,fun a e=>nomatch e⟩) h)
 | .dib n f h e g rk r=>.dib n ⟨f,fun a e=>by cases e;exact ⟨n,by rw [h];trivial⟩⟩ h e g (Reps.mark rk) (Reps.mark r)
theorem Reps.mark {vs:List L2.V} {ds:List D}:Reps K N F H vs ds->Reps K N (fun o=>F o/\∀a,o=some a->N a/\IsM (H a)) H vs ds
 | .nil=>.nil
 | .cons h t=>.cons (Rep.mark h) (Reps.mark t)
end
end
end VL
end
section
namespace L2
open PySem PySem.Spec PyProof.Rows
theorem tY {X:Cx} (hu:X.A.units+64 < cLine):IxR X (tX X.K):=by
 intro value slice pins s σ H x y v u Q I rx ry h hs
 have g:=xp hu pins s σ H x y v u Q I rx ry h
 obtain ⟨b,a,ms,es,z,ey,ex,h1,⟨ob,h2⟩,_⟩:=h
 subst ex
 cases rx
 obtain ⟨_,_,_,_,_,o,_,_,z1,z2,_⟩:=fG I h2
 exact tail_any ⟨_,z1,z2.1⟩ slot_dict_getitem.lookup g hs
end L2
namespace VL
open PySem L2
section
variable {K:PySem.W.Frag} {X:Cx} {m:Bool} {o ie:Expr} {to ti:TE} {vo vi:VT} {pos:Pos} {S:List Sl} {Q:VR->List Sl->Prop}
noncomputable def D3 (vo vi:VT):VT:=fun S Q=>vo S fun r S1=>vi S1 fun rk S2=>∃kvs ms i,get S2 r=some (dc kvs)/\get S2 rk=some (kT ms)/\dC kvs ms=some (.int i)/\Q (.d (.int i)) S2
theorem Bv (hK:X.K=K) (hu:X.A.units+64 < cLine) (ho:VE K X false o to vo) (hi:VE K X false ie ti vi) (hs:dJ ie):VE K X m (.Subscript o ie pos) (tOp (tX K) to ti) (D3 vo vi):=
 ⟨by subst hK;exact oF (tY hu) ho.pe hi.pe hs,fun H0 Z σ H S Q C k t hc=>by
  refine ho.snd H0 Z σ H S _ _ k t fun x H1 ra S1 k1 st1 r1 t1=>?_
  refine hi.snd H0 Z σ H1 S1 _ _ k1 t1 fun y H2 rb S2 k2 st2 r2 zr1=>?_
  obtain ⟨kvs,ms,i,e1,e2,ei,q⟩:=zr1
  obtain ⟨b,vs,rfl,hq,rr⟩:=Rep.sqT (show Rep K _ _ H2 y (.tup (ms.map D.int)) from r2.get k2 e2)
  cases Reps.toInts rr
  obtain ⟨a,es,rfl,_,_,ha,ek,hk,_,rv⟩:=Rep.dct (show Rep K _ _ H2 x (.dic _ _) from (r1.step st2).get k2 e1)
  rcases fW (k:=ms) ek rv with ⟨z1,z2⟩ | ⟨v,d,z1,z2,r⟩
  ·rw [z2] at ei;cases ei
  ·rw [z2] at ei
   cases ei
   cases r
   exact ⟨b,a,ms,es,.int i,rfl,rfl,SqN.of hq,ha,hk,z1,hc _ H2 (.d (.int i)) S2 k2 (st1.trans st2) (Rep.int i) q⟩⟩
noncomputable def yZ (vi:VT) (Q:VR->List Sl->Prop):VR->List Sl->Prop:=fun r S1=>vi S1 fun rk S2=>∃kvs ms i,get S2 r=some (dc kvs)/\get S2 rk=some (kT ms)/\dC kvs ms=some (.int i)/\Q (.d (.int i)) S2
noncomputable def y8 (r:VR) (Q:VR->List Sl->Prop):VR->List Sl->Prop:=fun rk S2=>∃kvs ms i,get S2 r=some (dc kvs)/\get S2 rk=some (kT ms)/\dC kvs ms=some (.int i)/\Q (.d (.int i)) S2
theorem D4 (h:vo S (yZ vi Q)):D3 vo vi S Q:=h
theorem xq (h:vi S (y8 r Q)):yZ vi Q r S:=h
theorem xr {r rk:VR} {i:Int} (e1:get S r=some (dc kvs)) (e2:get S rk=some (kT ms)) (e3:dC kvs ms=some (.int i)) (h:Q (.d (.int i)) S):y8 r Q rk S:=⟨kvs,ms,i,e1,e2,e3,h⟩
end
end VL
namespace VL
open PySem L2
section
variable {K:PySem.W.Frag} {X:Cx} {m:Bool} {a b:Expr} {ta tb:TE} {va vb:VT} {pos:Pos} {S:List Sl} {Q:VR->List Sl->Prop}
noncomputable def y9 (va vb:VT):VT:=fun S Q=>va S fun ra S1=>vb S1 fun rb S2=>∃ds es,ra=.d (.tup ds)/\rb=.d (.tup es)/\ds≠[]/\ds.length+es.length<=1000/\Q (.d (.tup (ds++es))) S2
theorem xt (hK:X.K=K) (ha:VE K X m a ta va) (hb:VE K X m b tb vb):VE K X m (.BinOp a .Add b pos) (tOp (yh K) ta tb) (y9 va vb):=⟨by subst hK;exact ow vE ha.pe hb.pe,fun H0 Z σ H S Q C k t hc=>
 ha.snd H0 Z σ H S _ _ k t fun x H1 ra S1 k1 st1 r1 t1=>hb.snd H0 Z σ H1 S1 _ _ k1 t1 fun y H2 rb S2 k2 st2 r2 zq1=>by
  obtain ⟨ds,es,e1,e2,n1,hl,q⟩:=zq1
  subst e1;subst e2
  have rx:Rep K (NM Z σ S2) (FM H0 m) H2 x (.tup ds):=(show d0 K _ Z σ S1 H1 x (.d (.tup ds)) from r1).step st2
  obtain ⟨p,vs,rfl,hq,rr⟩:=rx.sqT
  obtain ⟨p',vs',rfl,hq',rr'⟩:=Rep.sqT (show Rep K _ _ H2 y (.tup es) from r2)
  have l1:=rr.length
  have l2:=rr'.length
  refine ⟨p,p',vs,vs',rfl,rfl,hq,hq',fun z=>n1 (List.eq_nil_of_length_eq_zero (by rw [<- l1,z];rfl)),by rw [l1,l2,sizeLine_eq];lia,fun z=>?_,fun _ l hl2=>?_⟩
  ·obtain rfl:es=[]:=List.eq_nil_of_length_eq_zero (by rw [<- l2,z];rfl)
   rw [List.append_nil] at q
   exact hc _ _ (.d (.tup ds)) S2 k2 (st1.trans st2) rx q
  ·have g:=aX (o:=.tup (vs++vs')) hl2
   exact hc _ _ (.d (.tup (ds++es))) S2 (k2.grow g) ((st1.trans st2).trans (.grow g)) (show Rep K _ _ _ _ _ from Rep.tup (k2.nm hl2) (.inl aH) ((Reps.append rr rr').mono (fun a n e=>⟨n,g a e⟩) fun _ x=>x)) q⟩
noncomputable def tZ (vb:VT) (Q:VR->List Sl->Prop):VR->List Sl->Prop:=fun ra S1=>vb S1 fun rb S2=>∃ds es,ra=.d (.tup ds)/\rb=.d (.tup es)/\ds≠[]/\ds.length+es.length<=1000/\Q (.d (.tup (ds++es))) S2
noncomputable def t4 (ra:VR) (Q:VR->List Sl->Prop):VR->List Sl->Prop:=fun rb S2=>∃ds es,ra=.d (.tup ds)/\rb=.d (.tup es)/\ds≠[]/\ds.length+es.length<=1000/\Q (.d (.tup (ds++es))) S2
theorem Bw (h:va S (tZ vb Q)):y9 va vb S Q:=h
theorem t5 {ra:VR} (h:vb S (t4 ra Q)):tZ vb Q ra S:=h
theorem t6 {ds es:List D} (h1:ds≠[]) (hl:ds.length+es.length<=1000) (h:Q (.d (.tup (ds++es))) S):t4 (.d (.tup ds)) Q (.d (.tup es)) S:=⟨ds,es,rfl,rfl,h1,hl,h⟩
end
end VL
end
section
namespace KT
open PySem PySem.Spec L2 SeqAt PySem.W
section
variable {prog:Program} {w:World}
noncomputable abbrev inn (prog:Program) (w:World):HeapKind prog w (List Int):=tupleKind (intKind prog w)
noncomputable def Inn (prog:Program) (w:World) (h:Heap) (ks:List Int) (v:Value):Prop:=∃b,v=.ref b/\(inn prog w).is h ks b
noncomputable def jk (prog:Program) (w:World) (h:Heap) (kss:List (List Int)) (a:Addr):Prop:=∃items,h.IsTuple a items/\Paired (Inn prog w h) kss items.toList
theorem Paired.uniq {α β:Type} {F:α->β->Prop} (hF:∀a a' b,F a b->F a' b->a=a'):∀{x y:List α} {v:List β},Paired F x v->Paired F y v->x=y
 | _,_,_,.nil,.nil=>rfl
 | _,_,_,.cons a t,.cons b u=>by rw [hF _ _ _ a b,Paired.uniq hF t u]
theorem Paired.sizes {α β:Type} {F:α->β->Prop}:∀{x:List α} {v:List β},Paired F x v->x.length=v.length
 | _,_,.nil=>rfl
 | _,_,.cons _ t=>by rw [List.length_cons,List.length_cons,Paired.sizes t]
theorem Paired.nth {α β:Type} {F:α->β->Prop}:∀{x:List α} {v:List β},Paired F x v->∀(j:Nat) (b:β),v[j]?=some b->∃a,x[j]?=some a/\F a b
 | _,_,.nil,j,b,h=>by simp at h
 | _,_,.cons (a:=a) r t,0,b,h=>⟨_,rfl,by cases h;exact r⟩
 | _,_,.cons r t,j+1,b,h=>Paired.nth t j b h
theorem jk.one {h:Heap} {a:Addr} {x y:List (List Int)} (hx:jk prog w h x a) (hy:jk prog w h y a):x=y:=by
 obtain ⟨i1,⟨o1,g1,_,n1,d1⟩,p1⟩:=hx
 obtain ⟨i2,⟨o2,g2,_,n2,d2⟩,p2⟩:=hy
 rw [g1] at g2
 cases g2
 rw [d1] at d2
 cases d2
 refine Paired.uniq (fun k k' v z z'=>?_) p1 p2
 obtain ⟨b,rfl,q⟩:=z
 obtain ⟨b',e,q'⟩:=z'
 cases e
 exact (inn prog w).inj q q'
theorem jk.stays {h h':Heap} {a d:Addr} {x:List (List Int)} {o:Obj} {es:Array DictEntry} {ep:Nat} (hx:jk prog w h x a) (ho:h.get? d=some o) (hd:o.data=.dict es ep) (hs:Heap.SameBut d h h'):jk prog w h' x a:=by
 obtain ⟨its,⟨oa,ga,ca,n,da⟩,p⟩:=hx
 have hne:a≠d:=fun z=>by
  subst z
  rw [ga] at ho
  cases ho
  rw [da] at hd
  cases hd
 exact ⟨its,⟨oa,(hs.2 a hne).trans ga,ca,n,da⟩,Paired.mapP p fun k v z=>let ⟨b,e,q⟩:=z;⟨b,e,(inn prog w).keeps q ho hd hs⟩⟩
noncomputable def t7 (prog:Program) (w:World) (kss:List (List Int)):Int:=reduceHash (Builtin.Tuple.tupleHashOf (kss.map (inn prog w).hash))
noncomputable def cost (kss:List (List Int)):Nat:=(kss.map fun ks=>ks.length+1).sum
theorem xu {A:Around} {E:Value->Shared->Prop} (hu:A.units < cLine):∀(kss:List (List Int)) (vs:List Value) (b:Array Int) (s:Shared) (Q:Array Int->Shared->Prop),Paired (Inn prog w s.heap) kss vs ->
  (∀b',b'.toList=b.toList++kss.map (inn prog w).hash->Q b' { s with toks:=s.toks+cost kss })->wpAny (model prog w) A (forIn vs b fun x r=>do let h <- pyHash x;pure PUnit.unit;pure (ForInStep.yield (r.push h))) Q E s:=by
 intro kss
 induction kss with
 | nil=>
  intro vs b s Q p q
  cases p
  exact wpAny_pure (q b (by simp))
 | cons ks kss ih=>
  intro vs b s Q p q
  cases p with
  | cons r t=>
   obtain ⟨a,rfl,hk⟩:=r
   rw [List.forIn_cons]
   refine wpAny_bind (wpAny_bind ((inn prog w).pyHash hu hk (wpAny_bind (wpAny_pure (wpAny_pure ?_)))))
   refine ih _ _ { s with toks:=s.toks+(ks.length+1) } Q t fun b' e=>?_
   have:=q b' (by rw [e];simp)
   simpa [cost,Nat.add_assoc] using this
theorem xw {A:Around} {E:Value->Shared->Prop} {s:Shared} {kss:List (List Int)} {a:Addr} {Q:Int->Shared->Prop} (hu:A.units+1 < cLine) (hx:jk prog w s.heap kss a) (h:Q (t7 prog w kss) { s with toks:=s.toks+(cost kss+1) }) :
  wpAny (model prog w) A (pyHash (.ref a)) Q E s:=by
 obtain ⟨its,⟨o,g,c,n,d⟩,p⟩:=hx
 refine pyHash_slot (T:="tuple") ⟨o,g,c⟩ F.slot_tuple_hash F.entry_tuple_hash (F.args_tuple_hash_1 _) (beq_builtin_none _) (.inr (by lia)) ?_
 show wpAny _ _ (Builtin.Tuple.tupleItemsOf (.ref a) >>= _) _ _ s
 refine wpAny_bind (wpAny_tupleItemsOf g d ?_)
 refine wpAny_bind ?_
 rw [<- Array.forIn_toList]
 refine xu (by simpa using hu) kss its.toList #[] s _ p fun b' e=>?_
 show wpAny _ _ (retInt (Builtin.Tuple.tupleHashOf b'.toList)) _ _ _
 rw [e]
 exact wpAny_bind (wpAny_mkInt (wpAny_pure ⟨_,_,rfl,by simpa [t7,Nat.add_assoc] using h⟩))
theorem qv {prog':Program} {w':World} {ks:List Int} {vs:List Value} (h:ItemsAre (intKind prog w) ks vs):ItemsAre (intKind prog' w') ks vs:=by
 induction h with
 | nil=>exact .nil
 | cons q _ ih=>exact .cons q ih
theorem pB {prog':Program} {w':World} {h:Heap} {ks:List Int} {b:Addr} (q:(inn prog w).is h ks b):(inn prog' w').is h ks b:=
 let ⟨o,its,n,g,c,d,i⟩:=q;⟨o,its,n,g,c,d,qv i⟩
theorem xy {A:Around} {E:Value->Shared->Prop} {s:Shared} {x y:List (List Int)} {a b:Addr} {Q:Bool->Shared->Prop} (hu:A.units+1 < cLine) (hx:jk prog w s.heap x a) (hy:jk prog w s.heap y b) (h:Q (decide (x=y)) s) :
  wpAny (model prog w) A (eqBool (.ref a) (.ref b)) Q E s:=by
 by_cases hab:a=b
 ·subst hab
  rw [decide_eq_true (hx.one hy)] at h
  exact EqAt.same _ prog w E Q h
 ·obtain ⟨i1,p1,q1⟩:=hx
  obtain ⟨i2,p2,q2⟩:=hy
  have s1:x.length=i1.size:=(Paired.sizes q1).trans Array.length_toList
  have s2:y.length=i2.size:=(Paired.sizes q2).trans Array.length_toList
  have z:=RcAt.tuples (A:=A) (s:=s) (e:=fun j=>decide (x[j]?=y[j]?)) p1 p2 (by lia) fun j h1 h2 prog' w' E' Q' hq=>by
   obtain ⟨k1,e1,b1,v1,r1⟩:=Paired.nth q1 j i1[j] (by rw [Array.getElem?_toList];exact Array.getElem?_eq_getElem h1)
   obtain ⟨k2,e2,b2,v2,r2⟩:=Paired.nth q2 j i2[j] (by rw [Array.getElem?_toList];exact Array.getElem?_eq_getElem h2)
   rw [v1,v2]
   refine (inn prog' w').eqBool (A:=A.in1) (show A.in1.units < cLine by simpa using hu) (pB r1) (pB r2) ?_
   have:decide (x[j]?=y[j]?)=decide (k1=k2):=by rw [e1,e2];exact decide_eq_decide.mpr (by simp)
   rw [<- this]
   exact hq
  refine EqAt.of_refs hab z prog w E Q ?_
  have e:((List.range (min i1.size i2.size)).all (fun j=>decide (x[j]?=y[j]?))&&i1.size==i2.size)=decide (x=y):=by
   rw [Bool.eq_iff_iff,Bool.and_eq_true,List.all_eq_true,decide_eq_true_eq,beq_iff_eq]
   constructor
   ·rintro ⟨f,g⟩
    refine List.ext_getElem? fun j=>?_
    by_cases hj:j < x.length
    ·exact of_decide_eq_true (f j (List.mem_range.mpr (by lia)))
    ·rw [List.getElem?_eq_none (by lia),List.getElem?_eq_none (by lia)]
   ·rintro rfl
    exact ⟨fun j _=>decide_eq_true rfl,by lia⟩
  rw [e]
  exact h
theorem t8 {A:Around} {E:Value->Shared->Prop} {s:Shared} {its:Array Value} {a:Addr} {Q:Bool->Shared->Prop} (n:Nat) (ht:s.heap.IsTuple a its) (hq:∀v∈its.toList,∀Q':Bool->Shared->Prop,Q' true s->wpAny (model prog w) A (eqIsQuiet n v) Q' E s) (h:Q true s) :
  wpAny (model prog w) A (eqIsQuiet (n+1) (.ref a)) Q E s:=by
 obtain ⟨o,g,c,m,d⟩:=ht
 have ty:Shared.TypeIs s (.ref a) "tuple":=⟨o,g,c⟩
 unfold eqIsQuiet
 refine wpAny_bind (wpAny_specialOf ty F.slot_tuple_eq.lookup ?_)
 show wpAny _ _ (isInstance (.ref a) (.type "tuple") >>= _) _ _ s
 refine wpAny_bind (wpAny_isInstance ty isSubtype_tuple_tuple ?_)
 simp only [Bool.not_true,Bool.false_eq_true,if_false]
 refine wpAny_bind (wpAny_seqItems g d (wpAny_bind ?_))
 show wpAny _ _ (forIn its _ _) _ _ s
 rw [<- Array.forIn_toList]
 generalize its.toList=l at hq
 induction l with
 | nil=>exact wpAny_pure (wpAny_pure h)
 | cons v l ih=>
  rw [List.forIn_cons]
  refine wpAny_bind (wpAny_bind (hq v List.mem_cons_self _ ?_))
  simp only [Bool.not_true,Bool.false_eq_true,if_false]
  exact wpAny_pure (ih fun u hu=>hq u (List.mem_cons_of_mem _ hu))
theorem Bx {A:Around} {E:Value->Shared->Prop} {s:Shared} {ks:List Int} {a:Addr} {Q:Bool->Shared->Prop} (n:Nat) (hk:(inn prog w).is s.heap ks a) (h:Q true s):wpAny (model prog w) A (eqIsQuiet (n+1) (.ref a)) Q E s:=by
 obtain ⟨o,its,m,g,c,d,i⟩:=hk
 refine t8 n ⟨o,g,c,m,d⟩ (fun v hv Q' q=>?_) h
 rw [eqIsQuiet_byValue n (i.byValue v hv)]
 exact wpAny_pure q
theorem By {A:Around} {E:Value->Shared->Prop} {s:Shared} {x:List (List Int)} {a:Addr} {Q:Bool->Shared->Prop} (hx:jk prog w s.heap x a) (h:Q true s):wpAny (model prog w) A (eqIsQuiet 8 (.ref a)) Q E s:=by
 obtain ⟨its,p,q⟩:=hx
 refine t8 7 p (fun v hv Q' q'=>?_) h
 obtain ⟨j,hj⟩:=List.getElem?_of_mem hv
 obtain ⟨k,_,b,rfl,r⟩:=Paired.nth q j v hj
 exact Bx 6 r q'
noncomputable def tt (prog:Program) (w:World):HeapKind prog w (List (List Int)) where
 is:=jk prog w
 hash:=t7 prog w
 draws:=fun kss=>cost kss+1
 room:=fun A=>A.units+1 < cLine
 inj:=fun hx hy=>hx.one hy
 keeps:=fun x ho hd hs=>x.stays ho hd hs
 pyHash:=fun hu hk h=>xw hu hk h
 eqBool:=fun hu hx hy h=>xy hu hx hy h
 quiet:=fun hk h=>By hk h
end
end KT
end
section
namespace L2
open PySem PySem.Spec PyProof.Rows KT
noncomputable abbrev T2:=List (List Int)
noncomputable abbrev E2:=List (T2×Addr×V)
noncomputable def t2H (k:T2):Int:=reduceHash (Builtin.Tuple.tupleHashOf (k.map tH))
noncomputable def D5 (x:T2×Addr×Value):DictEntry:=⟨t2H x.1,.ref x.2.1,x.2.2⟩
noncomputable abbrev EV2:E2->List (T2×Addr×Value)->Prop:=Paired fun p q=>p.1=q.1/\p.2.1=q.2.1/\RelV p.2.2 q.2.2
noncomputable def jl (a:Addr) (es:E2) (h:Heap):Prop:=
 es.length<=sizeLine/\(a==sysModules)=false/\(es.map (·.1)).Nodup/\∃xs,EV2 es xs/\∃o ds ep,h.get? a=some o/\o.ExactDict/\o.data=.dict ds ep/\ds.toList=xs.map D5
noncomputable def dj (a:Addr) (ob:Obj) (es:E2):HO:=.ext fun h=>jl a es h/\h.get? a=some ob
theorem jl.ok {P:Program} {w:World} {h:Heap} {a:Addr} {ob:Obj} {es:E2} (d:jl a es h) (q:h.get? a=some ob):bq P w H h a (dj a ob es):=
 ⟨⟨d,q⟩,⟨ob,q⟩,fun _ _ zt1 k=>by obtain ⟨⟨z,m,nd,xs,ev,o,ds,ep,e,r⟩,q⟩:=zt1;exact ⟨⟨z,m,nd,xs,ev,o,ds,ep,k o e,r⟩,k ob q⟩⟩
section
variable {X:Cx} {pins:List (Addr×Obj)} {σ:St} {H:Hp} {s:Shared}
theorem pC {a:Addr} {ob:Obj} {es:E2} (I:Inv X pins σ H s) (e:H a=some (dj a ob es)):jl a es s.heap:=
 ((show bq X.prog X.w H s.heap a (.ext fun h=>jl a es h/\h.get? a=some ob) from I.hok a _ e).1).1
noncomputable def mK (K:PySem.W.Frag) (H:Hp) (b:Addr) (k:T2):Prop:=∃bs:List Addr,SqT K H b (bs.map V.ref)/\Paired (fun ms c=>SqT K H c (ms.map V.int)) k bs
theorem ke (I:Inv X pins σ H s):∀{k:T2} {bs:List Addr} {us:List Value},Paired (fun ms c=>SqT X.K H c (ms.map V.int)) k bs->Vals (bs.map V.ref) us->Paired (Inn X.prog X.w s.heap) k us
 | _,_,_,.nil,r=>by rw [List.map_nil] at r;cases r;exact .nil
 | _,_,_,.cons h t,r=>by
  rw [List.map_cons] at r
  cases r with
  | cons h1 t1=>cases h1;exact .cons ⟨_,rfl,A0 I h⟩ (ke I t t1)
theorem iw {b:Addr} {k:T2} (I:Inv X pins σ H s) (h:mK X.K H b k):(tt X.prog X.w).is s.heap k b:=by
 obtain ⟨bs,hb,hp⟩:=h
 obtain ⟨its,r,ht,_⟩:=I.tuple hb
 exact ⟨its.toArray,ht,by simpa using ke I hp r⟩
noncomputable def eS (K:PySem.W.Frag) (H:Hp) (es:E2):Prop:=∀x∈es,mK K H x.2.1 x.1
theorem EV2.keys {es:E2} {xs:List (T2×Addr×Value)} (r:EV2 es xs):es.map (·.1)=xs.map (·.1):=by
 induction r with
 | nil=>rfl
 | cons h t ih=>rw [List.map_cons,List.map_cons,ih,h.1]
theorem EV2.mem {es:E2} {xs:List (T2×Addr×Value)} (r:EV2 es xs):∀x∈xs,∃e∈es,e.1=x.1/\e.2.1=x.2.1:=by
 induction r with
 | nil=>intro x h;exact nomatch h
 | @cons p q ps qs h t ih=>
  intro x hx
  rcases List.mem_cons.mp hx with rfl | hx
  ·exact ⟨p,List.mem_cons_self,h.1,h.2.1⟩
  ·obtain ⟨e,h1,h2⟩:=ih x hx
   exact ⟨e,List.mem_cons_of_mem _ h1,h2⟩
theorem jm {a:Addr} {ob:Obj} {es:E2} (I:Inv X pins σ H s) (e:H a=some (dj a ob es)) (k:eS X.K H es):es.length<=sizeLine/\(a==sysModules)=false/\(es.map (·.1)).Nodup /\
  ∃xs,EV2 es xs/\s.heap.DictOfH (tt X.prog X.w) a xs:=by
 obtain ⟨z,m,nd,xs,ev,o,ds,ep,h1,h2,h3,h4⟩:=pC I e
 refine ⟨z,m,nd,xs,ev,o,ds,ep,h1,h2,h3,h4,fun x hx=>?_,by rw [<- ev.keys];exact nd⟩
 obtain ⟨e,he,e1,e2⟩:=ev.mem x hx
 rw [<- e1,<- e2]
 exact iw I (k e he)
noncomputable def at2 (es:E2) (k:T2):Option V:=(es.find? fun x=>decide (x.1=k)).map (·.2.2)
theorem EV2.at_ {es:E2} {xs:List (T2×Addr×Value)} (r:EV2 es xs) (k:T2):RelO (at2 es k) ((atKey xs k).map (·.2)):=by
 induction r with
 | nil=>exact True.intro
 | @cons p q ps qs h t ih=>
  obtain ⟨h1,_,h2⟩:=h
  by_cases e:p.1=k
  ·have e':q.1=k:=h1.symm.trans e
   have a:at2 (p::ps) k=some p.2.2:=by simp [at2,List.find?_cons,e]
   have b:atKey (q::qs) k=some q.2:=by simp [atKey,List.find?_cons,e']
   rw [a,b];exact h2
  ·have e':¬ q.1=k:=fun z=>e (h1.trans z)
   have a:at2 (p::ps) k=at2 ps k:=by simp [at2,List.find?_cons,e]
   have b:atKey (q::qs) k=atKey qs k:=by simp [atKey,List.find?_cons,e']
   rw [a,b];exact ih
theorem mL {es:E2} {k:T2}:(at2 es k).isSome=decide (k∈es.map (·.1)):=by
 induction es with
 | nil=>rfl
 | cons p ps ih=>
  by_cases e:p.1=k
  ·simp [at2,List.find?_cons,e]
  ·have a:at2 (p::ps) k=at2 ps k:=by simp [at2,List.find?_cons,e]
   rw [a,ih]
   have:¬ k=p.1:=fun z=>e z.symm
   simp [this]
theorem kZ {A:Around} (hu:A.units+64 < cLine):(tt X.prog X.w).room A.in1:=by
 show A.in1.units+1 < cLine
 simp;lia
noncomputable def D6 (K:PySem.W.Frag) (neg:Bool):R2:=fun y x H Q=>∃b a ms es,y=.ref b/\x=.ref a/\mK K H b ms/\(∃ob,H a=some (dj a ob es))/\eS K H es/\Q (.bl (if neg then !decide (ms∈es.map (·.1)) else decide (ms∈es.map (·.1)))) H
end
section
variable {X:Cx}
theorem BA (hu:X.A.units+64 < cLine):OpR X (compareOp .In) (D6 X.K false):=by
 rintro pins s σ H x y v u Q I rx ry ⟨b,a,ms,es,e1,e2,h1,⟨ob,h2⟩,h3,q⟩
 subst e1;subst e2
 cases rx;cases ry
 obtain ⟨z,m,nd,xs,ev,dd⟩:=jm I h2 h3
 refine wpAny_in_heap (kZ hu) (iw I h1) m dd ?_
 have e:=eQ (ev.at_ ms)
 rw [Option.isSome_map,mL] at e
 rw [<- e]
 exact ⟨.bl _,H,I.tok _,rfl,q⟩
noncomputable def put2 (es:E2) (k:T2) (b:Addr) (v:V):E2:=if k∈es.map (·.1) then es.map (fun x=>if x.1=k then (x.1,x.2.1,v) else x) else es++[(k,b,v)]
theorem t9 (es:E2) (k:T2) (b:Addr) (v:V):(put2 es k b v).length<=es.length+1:=by
 unfold put2;split <;> simp
theorem EV2.repl {es:E2} {xs:List (T2×Addr×Value)} (r:EV2 es xs) (k:T2) {u:Value} (rv:RelV v u):EV2 (es.map fun x=>if x.1=k then (x.1,x.2.1,v) else x) (xs.map (putAt k u)):=by
 induction r with
 | nil=>exact .nil
 | @cons p q ps qs h t ih=>
  rw [List.map_cons,List.map_cons]
  refine .cons ?_ ih
  obtain ⟨h1,h2,h3⟩:=h
  unfold putAt
  by_cases e:p.1=k
  ·rw [if_pos e,if_pos (h1.symm.trans e)];exact ⟨h1,h2,rv⟩
  ·rw [if_neg e,if_neg (fun z=>e (h1.trans z))];exact ⟨h1,h2,h3⟩
theorem EV2.put {es:E2} {xs:List (T2×Addr×Value)} (r:EV2 es xs) (k:T2) {b:Addr} {u:Value} (rv:RelV v u):EV2 (put2 es k b v) (storedH xs k b u):=by
 have e:decide (k∈es.map (·.1))=(atKey xs k).isSome:=by
  have:=eQ (r.at_ k)
  rw [Option.isSome_map,mL] at this
  exact this
 unfold put2 storedH
 by_cases q:(atKey xs k).isSome=true
 ·rw [if_pos q,if_pos (of_decide_eq_true (e.trans q))];exact r.repl k rv
 ·rw [if_neg q,if_neg (fun z=>q (e.symm.trans (decide_eq_true z)))];exact Paired.snoc r ⟨rfl,rfl,rv⟩
theorem BB {s:Shared} {a b:Addr} {ob:Obj} {ms:T2} {es:E2} {r:Value} {A:Around} {E:Value->Shared->Prop} {Q:Unit->Shared->Prop} (hu:A.units+64 < cLine) (I:Inv X pins σ H s) (h1:mK X.K H b ms) (h2:H a=some (dj a ob es)) (h3:eS X.K H es) (hl:es.length < sizeLine) (rv:RelV v r)
  (h:∀ob s',Inv X pins σ (upd H a (dj a ob (put2 es ms b v))) s'->Q () s'):wpAny (model X.prog X.w) A (setItem (.ref a) (.ref b) r) Q E s:=by
 obtain ⟨z,m,nd,xs,ev,dd⟩:=jm I h2 h3
 refine wpAny_setItem_heap (hsz:=by rw [<- Paired.length ev];exact z) (kZ hu) (iw I h1) dd fun h' dd' hs=>?_
 obtain ⟨q,ds,ep,hq,g2,g3,g4,_,g5⟩:=dd'
 refine h q _ (I.write (x:=a) (e:=a) (by rw [h2];exact True.intro) (.inl rfl) (fun b q hb z=>(hs.2 b hb).trans z) ⟨q,hq⟩ (jl.ok ⟨?_,m,?_,_,ev.put ms rv,q,ds,ep,hq,g2,g3,g4⟩ hq))
 ·have:=t9 es ms b v;lia
 ·rw [(ev.put ms rv).keys];exact g5
variable {o i value:Expr} {pos pos':Pos} {td ty tv:TE}
noncomputable def za (K:PySem.W.Frag) (td ty tv:TE):TS:=fun D σ H=>tv σ H fun v H1=>td σ H1 fun x H2=>ty σ H2 fun y H3=>∃a b ms es,x=.ref a/\y=.ref b/\mK K H3 b ms/\(∃ob,H3 a=some (dj a ob es))/\eS K H3 es/\es.length < sizeLine /\
 ∀ob,D.nx σ (upd H3 a (dj a ob (put2 es ms b v)))
theorem xA (hu:X.A.units+64 < cLine) (ho:PE X o td) (hi:PE X i ty) (hv:PE X value tv) (hs:swapsWith value (some (.Subscript o i pos')) pos.line X.env=pure false) :
  PS X (.Assign [.Subscript o i pos'] value pos) (za X.K td ty tv):=by
 intro pins s σ H D I h
 refine wpAny_Assign_Subscript (thn (hv pins s σ H _ I h) fun r s1 ⟨v,H1,I1,rv,q1⟩=>thn (ho pins s1 σ H1 _ I1 q1) fun u s2 ⟨x,H2,I2,rx,q2⟩=>thn (hi pins s2 σ H2 _ I2 q2) fun iv s3 zr1=>?_) hs
 obtain ⟨y,H3,I3,ry,a,b,ms,es,ex,ey,h1,⟨ob,h2⟩,h3,hl,q3⟩:=zr1
 subst ex;subst ey
 obtain rfl:u=Value.ref a:=rx
 obtain rfl:iv=Value.ref b:=ry
 exact BB (by lia) I3 h1 h2 h3 hl rv fun ob s4 I4=>⟨σ,_,I4,q3 ob⟩
noncomputable def zb:TE:=fun _ H Q=>∀p ob,H p=none->Q (.ref p) (upd H p (dj p ob []))
theorem xB:PE X (.Dict [] [] pos) zb:=fun pins s σ H Q I h=>
 wpAny_Dict_empty ⟨.ref s.heap.objs.size,_,I.laid (a:=s.heap.objs.size) (o:=dj s.heap.objs.size _ []) (t':=s.toks) (fun _ _ q=>Heap.get?_push_of_some _ q) (Nat.le_refl _)
  (jl.ok ⟨Nat.zero_le _,beq_eq_false_iff_ne.mpr (Ne.symm (Nat.ne_of_lt (kR I))),List.nodup_nil,[],.nil,_,#[],0,Heap.get?_push_size _ rfl,⟨rfl,rfl,rfl⟩,rfl,rfl⟩ (Heap.get?_push_size _ rfl)),rfl,h _ _ (I.hok.fresh (Nat.le_refl _))⟩
noncomputable def ua (K:PySem.W.Frag):V->V->Hp->VK->Prop:=fun x y H Q=>∃b a ms es v,y=.ref b/\x=.ref a/\mK K H b ms/\(∃ob,H a=some (dj a ob es))/\eS K H es/\at2 es ms=some v/\Q v H
theorem ub (hu:X.A.units+64 < cLine):B8 X (ua X.K):=by
 rintro pins s σ H o i ov iv Q I r1 r2 ⟨b,a,ms,es,v,ey,ex,h1,⟨ob,h2⟩,h3,hv,q⟩
 subst ex;subst ey
 cases r1;cases r2
 obtain ⟨z,m,nd,xs,ev,dd⟩:=jm I h2 h3
 have r:=ev.at_ ms
 rw [hv] at r
 cases h5:atKey xs ms with
 | none=>rw [h5] at r;exact r.elim
 | some p=>
  rw [h5] at r
  exact wpAny_getItem_heap (kZ hu) (iw I h1) dd h5 ⟨v,H,I.tok _,r,q⟩
theorem uc {X:Cx} (hu:X.A.units+64 < cLine):IxR X (ua X.K):=by
 intro value slice pins s σ H x y v u Q I rx ry h hs
 have g:=ub hu pins s σ H x y v u Q I rx ry h
 obtain ⟨b,a,ms,es,z,ey,ex,h1,⟨ob,h2⟩,_⟩:=h
 subst ex
 cases rx
 obtain ⟨_,_,_,_,_,o,_,_,z1,z2,_⟩:=pC I h2
 exact tail_any ⟨_,z1,z2.1⟩ slot_dict_getitem.lookup g hs
end
end L2
namespace VL
open PySem L2 KT
noncomputable def kT2 (k:T2):D:=.tup (k.map kT)
noncomputable abbrev KV2:=List (T2×D)
noncomputable def EW (ks:List T2) (vs:List D):Cp where
 ok:=fun K H0 N H a=>∃es:E2,(∃ob,H a=some (dj a ob es))/\es.map (·.1)=ks/\Reps K N AnyF H (es.map fun x=>V.ref x.2.1) (ks.map kT2)/\Reps K N AnyF H (es.map (·.2.2)) vs
 ism:=by rintro K H0 N H a ⟨es,⟨ob,h⟩,_⟩;rw [h];trivial
 mono:=by
  rintro K H0 N N' H H' a hm he ⟨es,⟨ob,h⟩,e,r1,r2⟩
  exact ⟨es,⟨ob,he.trans h⟩,e,r1.mono hm fun _ x=>x,r2.mono hm fun _ x=>x⟩
noncomputable def od2 (kvs:KV2):Sl:=.obj (EW (kvs.map (·.1)) (kvs.map (·.2)))
noncomputable def el (kvs:KV2) (k:T2) (d:D):KV2:=if k∈kvs.map (·.1) then kvs.map (fun x=>if x.1=k then (x.1,d) else x) else kvs++[(k,d)]
noncomputable def e8 (kvs:KV2) (k:T2):Option D:=(kvs.find? fun x=>decide (x.1=k)).map (·.2)
section
variable {K:PySem.W.Frag} {N:AP} {F:FP} {H:Hp}
theorem kf:∀{k:T2} {vs:List L2.V},Reps K N F H vs (k.map kT)->∃bs:List Addr,vs=bs.map L2.V.ref/\Paired (fun ms c=>SqT K H c (ms.map L2.V.int)) k bs
 | [],_,.nil=>⟨[],rfl,.nil⟩
 | ms::k,_,.cons h t=>by
  obtain ⟨a,vs,rfl,hq,rr⟩:=Rep.sqT (show Rep K N F H _ (.tup (ms.map D.int)) from h)
  cases Reps.toInts rr
  obtain ⟨bs,rfl,p⟩:=kf t
  exact ⟨a::bs,rfl,.cons hq p⟩
theorem Rep.key2 {v:L2.V} {k:T2} (h:Rep K N F H v (kT2 k)):∃b,v=.ref b/\mK K H b k:=by
 obtain ⟨a,vs,rfl,hq,rr⟩:=Rep.sqT (show Rep K N F H v (.tup (k.map kT)) from h)
 obtain ⟨bs,rfl,p⟩:=kf rr
 exact ⟨a,rfl,bs,hq,p⟩
theorem dO:∀{es:E2},Reps K N F H (es.map fun x=>.ref x.2.1) ((es.map (·.1)).map kT2)->eS K H es
 | [],_=>fun _ h=>nomatch h
 | e::es,r=>by
  cases r with
  | cons h t=>
   intro x hx
   rcases List.mem_cons.mp hx with rfl | hx
   ·obtain ⟨b,e1,hq⟩:=Rep.key2 h
    cases e1
    exact hq
   ·exact dO t x hx
theorem mM {k:T2}:∀{es:E2} {kvs:KV2},es.map (·.1)=kvs.map (·.1)->Reps K N F H (es.map (·.2.2)) (kvs.map (·.2)) ->
  (at2 es k=none/\e8 kvs k=none)\/∃v d,at2 es k=some v/\e8 kvs k=some d/\Rep K N F H v d
 | [],[],_,_=>.inl ⟨rfl,rfl⟩
 | [],_::_,h,_=>by cases h
 | _::_,[],h,_=>by cases h
 | e::es,p::ps,h,.cons r t=>by
  have h1:e.1=p.1:=(List.cons.inj h).1
  by_cases z:p.1=k
  ·exact .inr ⟨e.2.2,p.2,by simp [at2,h1,z],by simp [e8,z],r⟩
  ·rcases mM (k:=k) (List.cons.inj h).2 t with ⟨a,b⟩ | ⟨v,d,a,b,r⟩
   ·exact .inl ⟨by simpa [at2,List.find?_cons,h1,z] using a,by simpa [e8,List.find?_cons,z] using b⟩
   ·exact .inr ⟨v,d,by simpa [at2,List.find?_cons,h1,z] using a,by simpa [e8,List.find?_cons,z] using b,r⟩
theorem jn {v:L2.V} {k:T2} (hv:Rep K N F H v d):∀{es:E2} {kvs:KV2},es.map (·.1)=kvs.map (·.1)->Reps K N F H (es.map (·.2.2)) (kvs.map (·.2)) ->
  Reps K N F H ((es.map fun x=>if x.1=k then (x.1,x.2.1,v) else x).map (·.2.2)) ((kvs.map fun x=>if x.1=k then (x.1,d) else x).map (·.2))
 | [],[],_,_=>.nil
 | e::es,p::kvs,ek,r=>by
  simp only [List.map_cons,List.cons.injEq] at ek
  cases r with
  | cons h t=>
   simp only [List.map_cons]
   refine .cons ?_ (jn hv ek.2 t)
   by_cases hk:e.1=k
   ·rw [if_pos hk,if_pos (ek.1.symm.trans hk)];exact hv
   ·rw [if_neg hk,if_neg (fun z=>hk (ek.1.trans z))];exact h
 | [],_::_,ek,_=>by simp at ek
 | _::_,[],ek,_=>by simp at ek
theorem mO (es:E2) (k:T2) (v:L2.V):(es.map fun x=>if x.1=k then (x.1,x.2.1,v) else x).map (·.1)=es.map (·.1):=by
 rw [List.map_map]
 refine List.map_congr_left fun x _=>?_
 simp only [Function.comp];split <;> rfl
theorem mP (es:E2) (k:T2) (v:L2.V):(es.map fun x=>if x.1=k then (x.1,x.2.1,v) else x).map (fun x=>L2.V.ref x.2.1)=es.map fun x=>L2.V.ref x.2.1:=by
 rw [List.map_map]
 refine List.map_congr_left fun x _=>?_
 simp only [Function.comp];split <;> rfl
theorem mQ (kvs:KV2) (k:T2) (d:D):(kvs.map fun x=>if x.1=k then (x.1,d) else x).map (·.1)=kvs.map (·.1):=by
 rw [List.map_map]
 refine List.map_congr_left fun x _=>?_
 simp only [Function.comp];split <;> rfl
theorem ud {v:L2.V} {k:T2} {b:Addr} (hv:Rep K N F H v d) (hb:Rep K N F H (.ref b) (kT2 k)) {es:E2} {kvs:KV2} (ek:es.map (·.1)=kvs.map (·.1))
  (rk:Reps K N F H (es.map fun x=>L2.V.ref x.2.1) ((kvs.map (·.1)).map kT2)) (r:Reps K N F H (es.map (·.2.2)) (kvs.map (·.2))) :
  (put2 es k b v).map (·.1)=(el kvs k d).map (·.1)/\Reps K N F H ((put2 es k b v).map fun x=>L2.V.ref x.2.1) (((el kvs k d).map (·.1)).map kT2)/\Reps K N F H ((put2 es k b v).map (·.2.2)) ((el kvs k d).map (·.2)):=by
 unfold put2 el
 by_cases hk:k∈es.map (·.1)
 ·rw [if_pos hk,if_pos (by rw [<- ek];exact hk),mO,mQ,mP]
  exact ⟨ek,rk,jn hv ek r⟩
 ·rw [if_neg hk,if_neg (by rw [<- ek];exact hk)]
  simp only [List.map_append,List.map_cons,List.map_nil]
  exact ⟨by rw [ek],Reps.append rk (.cons hb .nil),Reps.append r (.cons hv .nil)⟩
end
section
variable {K:PySem.W.Frag} {X:Cx} {m:Bool} {e o ie:Expr} {te ti:TE} {va vi:VT} {pos posS:Pos}
noncomputable def zc (i:Nat):VTS:=fun V S=>i < S.length/\V.nx (S.set i (od2 []))
theorem xC {x:Str} {pos' pd:Pos} (i:Nat) (ps:∀te,PE X (.Dict [] [] pd) te->PS X (.Assign [.Name x pos'] (.Dict [] [] pd) pos) (dI te (bQ i))):VS K X (.Assign [.Name x pos'] (.Dict [] [] pd) pos) (dI zb (bQ i)) (zc i):=
 ⟨ps _ xB,fun H0 Z σ H S V E k t l=>fun p ob hp=>by
  obtain ⟨hi,q⟩:=t
  obtain ⟨k2,st2⟩:=k.setNew (s:=od2 []) hi hp (aX hp) ⟨p,rfl,k.dom p hp,[],⟨ob,aH⟩,rfl,.nil,.nil⟩ rfl
  exact l.nx _ _ _ k2 st2 q⟩
theorem lg {H0 H:Hp} {y:L2.V} {k:T2} (h:d0 K (FM H0 false) Z σ S H y r) (e:get S r=some (kT2 k)):∃b,y=.ref b/\mK K H b k/\Rep K (NM Z σ S) AnyF H (.ref b) (kT2 k):=by
 cases r with
 | d z=>
  cases e
  obtain ⟨b,rfl,hq⟩:=Rep.key2 (show Rep K _ _ H y (kT2 k) from h)
  exact ⟨b,rfl,hq,Rep.mono (fun _ n _=>⟨n,rfl⟩) (fun _ _=>trivial) h⟩
 | own j=>
  have e:getO S[j]?=some (kT2 k):=e
  cases es:S[j]? with
  | none=>rw [es] at e;cases e
  | some s=>rw [es] at e;cases s <;> cases e
noncomputable def D8 (i:Nat) (vi:VT):VTT:=fun S Q=>vi S fun rk S1=>∃kvs ms,S1[i]?=some (od2 kvs)/\get S1 rk=some (kT2 ms)/\Q (decide (ms∈kvs.map (·.1))) S1
theorem BC (i:Nat) (hK:X.K=K) (hu:X.A.units+64 < cLine) (ho:PE X o (cG i)) (hi:VE K X false ie ti vi) (hm:behindInMarks .In o=false:=by rfl):VTe K X (.Compare ie [.In] [o] pos) (oB (tOp (D6 K false) ti (cG i))) (D8 i vi):=
 ⟨by subst hK;exact oC (BA hu) hi.pe ho hm,fun H0 Z σ H S Q C k t hc=>by
  refine hi.snd H0 Z σ H S _ _ k t fun y H2 rk S2 k2 st2 rr2 zr1=>?_
  obtain ⟨kvs,ms,e1,ek,q⟩:=zr1
  obtain ⟨o2,g2,p,e2,h3,es,h4,h5,h6,h7⟩:=k2.ownAt e1
  subst e2
  obtain ⟨b,rfl,hq,rb⟩:=lg rr2 ek
  refine ⟨.ref p,g2,b,p,ms,es,rfl,rfl,hq,h4,dO (by rw [h5];exact h6),?_⟩
  rw [h5]
  exact ⟨_,rfl,hc _ H2 S2 k2 st2 q⟩⟩
noncomputable def D9 (i:Nat) (vi:VT):VT:=fun S Q=>(∃kvs,S[i]?=some (od2 kvs))/\vi S fun rk S1=>∃kvs ms d,S1[i]?=some (od2 kvs)/\get S1 rk=some (kT2 ms)/\e8 kvs ms=some d/\Q (.d d) S1
theorem BD (i:Nat) (hK:X.K=K) (hu:X.A.units+64 < cLine) (ho:PE X o (cG i)) (hi:VE K X false ie ti vi) (hs:dJ ie):VE K X false (.Subscript o ie pos) (tOp (ua K) (cG i) ti) (D9 i vi):=
 ⟨by subst hK;exact oF (uc hu) ho hi.pe hs,fun H0 Z σ H S Q C k zq hc=>by
  obtain ⟨⟨kvs0,e0⟩,t⟩:=zq
  obtain ⟨o1,g1,p0,e0',_⟩:=k.ownAt e0
  subst e0'
  refine ⟨.ref p0,g1,hi.snd H0 Z σ H S _ _ k t fun y H2 rk S2 k2 st2 rr2 zr1=>?_⟩
  obtain ⟨kvs,ms,d,e1,ek,ed,q⟩:=zr1
  obtain ⟨o2,g2,p,e2,h3,es,h4,h5,h6,h7⟩:=k2.ownAt e1
  subst e2
  rw [g1] at g2;cases g2
  obtain ⟨b,rfl,hq,rb⟩:=lg rr2 ek
  rcases mM (k:=ms) h5 h7 with ⟨_,z2⟩ | ⟨v,d',z1,z2,r⟩
  ·rw [ed] at z2;cases z2
  ·rw [ed] at z2;cases z2
   exact ⟨b,p0,ms,es,v,rfl,rfl,hq,h4,dO (by rw [h5];exact h6),z1,hc _ H2 (.d d) S2 k2 st2 (show Rep K _ _ _ v d from r.mono (fun _ n _=>⟨n,rfl⟩) fun _ _=>FM.any) q⟩⟩
noncomputable def zd (i:Nat) (ve vi:VT):VTS:=fun V S=>ve S fun r S1=>(∃kvs,S1[i]?=some (od2 kvs))/\vi S1 fun ri S2=>∃d ms kvs,r=.d d/\get S2 ri=some (kT2 ms)/\S2[i]?=some (od2 kvs)/\kvs.length<=1000000/\V.nx (S2.set i (od2 (el kvs ms d)))
theorem xD (i:Nat) (hK:X.K=K) (hu:X.A.units+64 < cLine) (ho:PE X o (cG i)) (h:VE K X false e te va) (hi:VE K X false ie ti vi) (hs:swapsWith e (some (.Subscript o ie posS)) pos.line X.env=pure false:=by rfl) :
  VS K X (.Assign [.Subscript o ie posS] e pos) (za K (cG i) ti te) (zd i va vi):=⟨by subst hK;exact xA hu ho hi.pe h.pe hs,fun H0 Z σ H S V E k t l=>by
 refine h.snd H0 Z σ H S _ _ k t fun x H1 r S1 k1 st1 rr zr1=>?_
 obtain ⟨⟨kvs0,e0⟩,q⟩:=zr1
 obtain ⟨o1,g1,p,e0',_⟩:=k1.ownAt e0
 subst e0'
 refine ⟨.ref p,g1,hi.snd H0 Z σ H1 S1 _ _ k1 q fun y H2 ri S2 k2 st2 rr2 zr1=>?_⟩
 obtain ⟨d,ms,kvs,er,ek,e1,hl,q2⟩:=zr1
 subst er
 obtain ⟨o2,g2,p',e2,h3,es,⟨ob,h2⟩,h4,h5,h6⟩:=k2.ownAt e1
 subst e2
 rw [g1] at g2;cases g2
 have rx:Rep K (NM Z σ S2) AnyF H2 x d:=(Rep.step (show Rep K (NM Z σ S1) (FM H0 false) H1 x d from rr) st2).mono (fun _ n _=>⟨n,rfl⟩) fun _ _=>trivial
 obtain ⟨b,rfl,hq,rb⟩:=lg rr2 ek
 refine ⟨p,b,ms,es,rfl,rfl,hq,⟨ob,h2⟩,dO (by rw [h4];exact h5),?_,?_⟩
 ·have:es.length=kvs.length:=by have:=congrArg List.length h4;simpa using this
  rw [sizeLine_eq];lia
 ·intro obn
  have na:NM Z σ S2 p->False:=fun n=>n (.inl ⟨i,_,e1,rfl,g1⟩)
  have hm':∀c,NM Z σ S2 c->H2 c≠none->NM Z σ S2 c/\upd H2 p (dj p obn (put2 es ms b x)) c=H2 c:=fun c n _=>⟨n,aD fun z=>na (by rw [<- z];exact n)⟩
  obtain ⟨z1,z2,z3⟩:=ud (k:=ms) (b:=b) (Rep.mono hm' (fun _ x=>x) rx) (Rep.mono hm' (fun _ x=>x) rb) h4 (h5.mono hm' fun _ x=>x) (h6.mono hm' fun _ x=>x)
  obtain ⟨k3,st3⟩:=k2.chgD (s:=od2 (el kvs ms d)) (o:=dj p obn (put2 es ms b x)) e1 rfl g1 rfl ⟨p,rfl,h3,_,⟨obn,aH⟩,z1,z2,z3⟩
  exact l.nx _ _ _ k3 ((st1.trans st2).trans st3) q2⟩
variable {S:List Sl} {V:bt} {QT:Bool->List Sl->Prop} {Q:VR->List Sl->Prop}
noncomputable def Ea (i:Nat) (Q:Bool->List Sl->Prop):VR->List Sl->Prop:=fun rk S1=>∃kvs ms,S1[i]?=some (od2 kvs)/\get S1 rk=some (kT2 ms)/\Q (decide (ms∈kvs.map (·.1))) S1
theorem Eb {i:Nat} (h:vi S (Ea i QT)):D8 i vi S QT:=h
theorem BE {i:Nat} {kvs:KV2} {ms:T2} {rk:VR} (e1:S[i]?=some (od2 kvs)) (e2:get S rk=some (kT2 ms)) (h:QT (decide (ms∈kvs.map (·.1))) S):Ea i QT rk S:=⟨kvs,ms,e1,e2,h⟩
noncomputable def Ec (i:Nat) (Q:VR->List Sl->Prop):VR->List Sl->Prop:=fun rk S1=>∃kvs ms d,S1[i]?=some (od2 kvs)/\get S1 rk=some (kT2 ms)/\e8 kvs ms=some d/\Q (.d d) S1
theorem Ed {i:Nat} {kvs:KV2} (e:S[i]?=some (od2 kvs)) (h:vi S (Ec i Q)):D9 i vi S Q:=⟨⟨kvs,e⟩,h⟩
theorem BF {i:Nat} {kvs:KV2} {ms:T2} {rk:VR} (e1:S[i]?=some (od2 kvs)) (e2:get S rk=some (kT2 ms)) (e3:e8 kvs ms=some d) (h:Q (.d d) S):Ec i Q rk S:=⟨kvs,ms,d,e1,e2,e3,h⟩
noncomputable def ze (i:Nat) (vi:VT) (V:bt):VR->List Sl->Prop:=fun r S1=>(∃kvs,S1[i]?=some (od2 kvs))/\vi S1 fun ri S2=>∃d ms kvs,r=.d d/\get S2 ri=some (kT2 ms)/\S2[i]?=some (od2 kvs)/\kvs.length<=1000000/\V.nx (S2.set i (od2 (el kvs ms d)))
noncomputable def ue (i:Nat) (d:D) (V:bt):VR->List Sl->Prop:=fun ri S2=>∃d' ms kvs,VR.d d=.d d'/\get S2 ri=some (kT2 ms)/\S2[i]?=some (od2 kvs)/\kvs.length<=1000000/\V.nx (S2.set i (od2 (el kvs ms d')))
theorem BG {i:Nat} (h:va S (ze i vi V)):zd i va vi V S:=h
theorem xE {i:Nat} {kvs:KV2} (e:S[i]?=some (od2 kvs)) (h:vi S (ue i d V)):ze i vi V (.d d) S:=⟨⟨kvs,e⟩,h⟩
theorem uf {i:Nat} {kvs:KV2} {ms:T2} {rk:VR} (e1:get S rk=some (kT2 ms)) (e2:S[i]?=some (od2 kvs)) (hl:kvs.length<=1000000) (h:V.nx (S.set i (od2 (el kvs ms d)))):ue i d V rk S:=⟨d,ms,kvs,rfl,e1,e2,hl,h⟩
theorem BH {i:Nat} (hi:Nat.ble (i+1) S.length=true) (h:V.nx (S.set i (od2 []))):zc i V S:=⟨Nat.le_of_ble_eq_true hi,h⟩
end
end VL
end
section
namespace VL
open PySem L2
section
variable {K:PySem.W.Frag} {X:Cx} {elt iter target:Expr} {pos spos py:Pos} {yy:Str} {ii:Nat} {ifs:List Expr} {scope:Scope} {tg cs:List Str} {ix:List Nat} {wi:TI} {vi:VTN} {g:TG} {vg:VG} {tc:TT} {vt:VTT} {te:TE} {ve:VT}
theorem ug (Sc:bB X scope tg cs ix) (hcalm:X.calm=true) (kg:cT tg.length ix g) (hnd:ix.Nodup)
  (hi:VI K X target iter wi vi) (hg:∀C fp s H,VGe K (aE X scope (tg++cs) C fp s H) target g vg) (hc:∀C fp s H,VTs K (aE X scope (tg++cs) C fp s H) ifs tc vt) (he:∀C fp s H,VE K (aE X scope (tg++cs) C fp s H) false elt te ve)
  (hs:∀x,foldedSetIterable iter X.env x=pure x:=by intro _;rfl):VE K X false (.ListComp elt [⟨target,iter,ifs,0⟩] scope pos) (iT wi tg.length ix g tc te) (p7 (mm vi tg.length ix vg vt ve)):=by
 have sg:SndG K g vg:=(hg 0 [] X.s₀ (fun _=>none)).snd
 have sc:SndT K tc vt:=(hc 0 [] X.s₀ (fun _=>none)).snd
 have se:SndE K false te ve:=(he 0 [] X.s₀ (fun _=>none)).snd
 refine ⟨oM Sc hcalm kg hi.pi (fun C fp s H=>(hg C fp s H).pg) (fun C fp s H=>(hc C fp s H).pe) (fun C fp s H=>(he C fp s H).pe) hs,fun H0 Z σ H S Q C k t hq=>?_⟩
 refine hi.snd H0 Z σ H S _ _ k t fun J ds H1 S1 k1 st1 gd zr1=>?_
 obtain ⟨hl,Iv,i0,hs,hd⟩:=zr1
 refine ⟨fun i m ys H=>m=ds.length-i/\i<=ds.length/\ys.length<=i/\∃S2 zs,OK K H0 Z σ H S2/\Step Z σ S1 H1 σ S2 H/\Reps K (NM Z σ S2) AnyF H ys zs/\Iv i zs S2,⟨ds.length,by simp,Nat.zero_le _,Nat.le_refl _,S1,[],k1,.refl,.nil,i0⟩,?_⟩
 rintro i m ys H2 ⟨rfl,hi,hy,S2,zs,k2,st2,rz,p⟩
 obtain ⟨g1,g2,g3⟩:=gd σ S2 H2 (fun _=>k2.nm) st2.1 i
 have hsz:(1000000:Nat) < sizeLine:=by rw [sizeLine_eq];lia
 by_cases hlt:i < ds.length
 ·refine .inr ⟨g1 hlt,by lia,fun ys' H'=>ys'.length<=i+1/\∃S' zs',OK K H0 Z σ H' S'/\Step Z σ S1 H1 σ S' H'/\Reps K (NM Z σ S') AnyF H' ys' zs'/\Iv (i+1) zs' S',fun ys' H' zt1=>by obtain ⟨p1,p2⟩:=zt1;exact ⟨ds.length-(i+1),by lia,rfl,hlt,p1,p2⟩,fun x H3 y=>?_⟩
  obtain ⟨hgr,d,hd',rd⟩:=g2 x H3 y hlt
  replace k2:=k2.grow hgr
  replace st2:=st2.trans (.grow hgr)
  replace rz:=rz.step (.grow hgr)
  have kc:=k2.capt (n:=tg.length) hnd
  have rd':Rep K (NM (Zin Z ix σ S2) (L2.capt tg.length ix σ) (bA tg.length ix S2)) AnyF H3 x d:=rd.mono (fun a n _=>⟨fun z=>n (i3.mp z),rfl⟩) fun _ x=>x
  have h1:=sg H0 _ _ H3 _ x d _ (fun σ4 H4=>∃S4,OK K H0 (Zin Z ix σ S2) σ4 H4 S4/\Step (Zin Z ix σ S2) (L2.capt tg.length ix σ) (bA tg.length ix S2) H3 σ4 S4 H4/\vt S4 fun b S5=>if b=true then ve S5 fun r S6=>∃x,r=.d x/\Iv (i+1) (zs++[x]) (backS tg.length ix S2 S6) else Iv (i+1) zs (backS tg.length ix S2 S5)) kc rd' (hs i d zs S2 hd' p) fun σ' H' S' k' s' q'=>⟨S',k',s',q'⟩
  have h2:=kg x σ H3 _ h1
  refine (hg 0 [] X.s₀ (fun _=>none)).mono _ _ _ _ _ ?_ h2
  rintro σ4 H4 ⟨⟨hl4,hσ4⟩,S4,k4,st4,q4⟩
  refine sc H0 _ σ4 H4 S4 _ _ k4 q4 fun bb H5 S5 k5 st5 q5=>?_
  cases bb with
  | false=>
   rw [if_neg Bool.false_ne_true] at q5 ⊢
   obtain ⟨kb,sb,nb⟩:=k2.back k5 (st4.trans st5) hσ4
   exact ⟨by lia,_,zs,kb,st2.trans sb,rz.step sb,q5⟩
  | true=>
   rw [if_pos rfl] at q5 ⊢
   refine se H0 _ σ4 H5 S5 _ _ k5 q5 fun vv H6 r S6 k6 st6 rr zr1=>?_
   obtain ⟨xx,er,q6⟩:=zr1
   subst er
   obtain ⟨kb,sb,nb⟩:=k2.back k6 ((st4.trans st5).trans st6) hσ4
   refine ⟨by simp;lia,_,zs++[xx],kb,st2.trans sb,Reps.append (rz.step sb) (.cons (Rep.mono (fun a n _=>⟨nb a n,rfl⟩) (fun _ _=>trivial) rr) .nil),q6⟩
 ·have e:i=ds.length:=by lia
  refine .inl ⟨g3 e,by lia,fun l hp=>?_⟩
  have gr:=aX (o:=.lst ys) hp
  exact hq (.ref l) _ (.d (.lst zs)) S2 (k2.grow gr) ((st1.trans st2).trans (.grow gr)) (show Rep K _ _ _ _ _ from .lst (k2.nm hp) FM.any aH (rz.mono (fun b n e=>⟨n,gr b e⟩) fun _ _=>FM.any)) (hd zs S2 (by rw [<- e];exact p))
theorem uh (hN0:X.N.Nodup) (hi0:X.N[ii]?=some yy) (hx0:Loc X.env.scope yy) (hf0:X.fn yy=true\/X.env.scope.names.lookup yy=some .local)
  (Sc:bB X scope tg cs ix) (hcalm:X.calm=true) (kg:cT tg.length ix g) (hnd:ix.Nodup)
  (hi:VI K X target iter wi vi) (hg:∀C fp s H,VGe K (aE X scope (tg++cs) C fp s H) target g vg) (hc:∀C fp s H,VTs K (aE X scope (tg++cs) C fp s H) ifs tc vt) (he:∀C fp s H,VE K (aE X scope (tg++cs) C fp s H) false elt te ve)
  (hsw:swapsWith (.ListComp elt [⟨target,iter,ifs,0⟩] scope pos) (some (.Name yy py)) spos.line X.env=pure true:=by rfl) (hs:∀x,foldedSetIterable iter X.env x=pure x:=by intro _;rfl):VS K X (.Assign [.Name yy py] (.ListComp elt [⟨target,iter,ifs,0⟩] scope pos) spos) (dI (iT wi tg.length ix g tc te) (bQ ii)) (nB (p7 (mm vi tg.length ix vg vt ve)) (vgN ii)):=
 ⟨lW hN0 hi0 hx0 Sc hcalm kg hi.pi (fun C fp s H=>(hg C fp s H).pg) (fun C fp s H=>(hc C fp s H).pe) (fun C fp s H=>(he C fp s H).pe) hf0 hsw hs,kH (ug (pos:=pos) Sc hcalm kg hnd hi hg hc he hs).snd fun H0 Z σ H S v d Q C k r zt1 hc=>by obtain ⟨hi,q⟩:=zt1;exact hc _ _ _ (k.setVal hi r).1 (k.setVal hi r).2 q⟩
end
end VL
end
local macro_rules | `(tactic| walk_at "s") => `(tactic| exact ⟨rfl, rfl, rfl, by decide +kernel, rfl, by decide +kernel, by decide +kernel⟩)
theorem My.len1 {α:Type} {l:List α} (h:l.length=1):∃a0,l=[a0]:=match l,h with|[a0],_=>⟨a0,rfl⟩
local macro_rules | `(tactic| walk_at "1") => `(tactic| exact (fun _ _ _ _ _ _ us hl => by obtain ⟨_,e⟩ := My.len1 hl; subst e; exact rfl))
theorem My.len2 {α:Type} {l:List α} (h:l.length=2):∃a0 a1,l=[a0,a1]:=match l,h with|[a0,a1],_=>⟨a0,a1,rfl⟩
local macro_rules | `(tactic| walk_at "2") => `(tactic| exact (fun _ _ _ _ _ _ us hl => by obtain ⟨_,_,e⟩ := My.len2 hl; subst e; exact rfl))
theorem My.len3 {α:Type} {l:List α} (h:l.length=3):∃a0 a1 a2,l=[a0,a1,a2]:=match l,h with|[a0,a1,a2],_=>⟨a0,a1,a2,rfl⟩
local macro_rules | `(tactic| walk_at "3") => `(tactic| exact (fun _ _ _ _ _ _ us hl => by obtain ⟨_,_,_,e⟩ := My.len3 hl; subst e; exact rfl))
local macro_rules | `(tactic| walk_at "l0") => `(tactic| first
 | with_reducible refine VL.wj ?_
 | with_reducible refine VL.AE ?_
 | with_reducible refine VL.j_c ?_
 | ((with_reducible refine' VL.CT ?h ?_);(case h=>exact rfl))
 | with_reducible refine VL.C7 ?_
 | ((with_reducible refine' VL.EK ?h1 ?h2 ?_);(case h1=>exact rfl);(case h2=>exact rfl))
 | with_reducible refine VL.j_2 ?_
 | with_reducible refine VL.EJ ?_
 | with_reducible refine VL.C8 ?_
 | ((with_reducible refine' VL.AF ?h1 ?h2 ?_);(case h1=>exact rfl);(case h2=>exact rfl))
 | with_reducible refine VL.Ao ?_
 | with_reducible refine VL.CM ?_
 | ((with_reducible refine' VL.EH ?h ?_);(case h=>exact rfl);(try dsimp only [List.set_cons_zero,List.set_cons_succ]))
 | with_reducible refine VL.wd ?_
 | ((with_reducible refine' VL.Au ?h ?_);(case h=>exact rfl))
 | with_reducible refine VL.Ap ?_
 | with_reducible refine VL.CQ ?_
 | with_reducible refine VL.EL ?_
 | with_reducible refine VL.CZ ?_
 | ((with_reducible refine' VL.bS ?h1 ?h2 ?h3 ?_);(case h1=>exact rfl);(case h2=>exact rfl);(case h3=>exact rfl))
 | ((with_reducible refine' VL.yz ?h1 ?h2 ?h3 ?_);(case h1=>exact rfl);(case h2=>exact rfl);(case h3=>first | exact rfl | exact VL.at_0))
 | with_reducible refine VL.Az ?_
 | with_reducible refine VL.CU ?_
 | with_reducible refine VL.CO ?_
 | with_reducible refine VL.AI ?_
 | with_reducible refine VL.Dc ?_)
local macro_rules | `(tactic| walk_at "l1") => `(tactic| first
 | ((with_reducible refine' VL.Dd ?h ?_);(case h=>exact rfl))
 | with_reducible refine VL.CS ?_
 | with_reducible refine VL.Aw ?_
 | ((with_reducible refine' VL.CV ?h ?_);(case h=>first | exact (by decide) | exact .inl ⟨by decide,by decide⟩ | exact .inr ⟨by decide,by decide⟩ | (show (0:Int) < _;lia) | (show (0:Int)<=_;lia) | exact ⟨by decide,by decide,by decide⟩ | exact ⟨by lia,by lia,by lia⟩ | exact ⟨by lia,by lia⟩ | exact .inl ⟨by lia,by lia⟩ | exact .inr ⟨by lia,by lia⟩))
 | with_reducible refine VL.vZ ?_
 | with_reducible refine VL.Da ?_
 | ((with_reducible refine' VL.AG ?h1 ?h2 ?_);(case h1=>exact rfl);(case h2=>exact rfl))
 | with_reducible refine VL.ER ?_
 | with_reducible refine VL.Ax ?_
 | ((with_reducible refine' VL.cD ?h ?_);(case h=>first | exact rfl | simp only [VL.flat,VL.flats,VL.bj,VL.eT,VL.cV,Bool.and_self]))
 | with_reducible refine VL.rP ?_
 | with_reducible refine VL.Dh ?_
 | ((with_reducible refine' VL.AL ?h1 ?h2 ?h3 ?_);(case h1=>exact rfl);(case h2=>exact rfl);(case h3=>exact rfl))
 | with_reducible refine VL.Ds ?_
 | with_reducible refine VL.DM ?_
 | with_reducible refine VL.Dm ?_
 | with_reducible refine VL.AN ?_
 | with_reducible refine VL.EO ?_
 | with_reducible refine VL.Aq ?_
 | ((with_reducible refine' VL.EI ?h ?_);(case h=>exact rfl);(try simp only [List.map_cons,List.map_nil]))
 | with_reducible refine VL.rL ?_
 | with_reducible refine VL.rM ?_
 | with_reducible refine VL.AA ?_
 | with_reducible refine VL.Dk ?_
 | with_reducible refine VL.AR ?_
 | with_reducible refine VL.qc ?_
 | with_reducible refine VL.qg ?_
 | with_reducible refine VL.EM ?_
 | ((with_reducible refine' VL.C1 ?h ?_);(case h=>exact rfl))
 | with_reducible refine VL.my ?_
 | with_reducible refine VL.C4 ?_
 | with_reducible refine VL.AS ?_
 | with_reducible refine VL.CW ?_
 | with_reducible refine VL.xh ?_
 | with_reducible refine VL.AJ ?_
 | with_reducible refine VL.Ar ?_
 | ((with_reducible refine' VL.wa ?h ?_);(case h=>exact rfl);(try dsimp only [List.set_cons_zero,List.set_cons_succ]))
 | with_reducible refine VL.Dq ?_
 | ((with_reducible refine' VL.AO ?h ?_);(case h=>exact ⟨by lia,by lia⟩))
 | with_reducible refine VL.EN ?_
 | with_reducible refine VL.Av ?_
 | with_reducible refine VL.wb ?_
 | ((with_reducible refine' VL.Du ?h1 ?h2 ?_);(case h1=>(intro n z;cases z));(case h2=>first | exact L2.kB | exact L2.jE | exact L2.isiB_list_list | exact L2.isiB_tuple_tuple | exact L2.isiB_bool_bool | exact L2.isiB_f1 | exact L2.isiB_f2 | exact L2.isiB_f3 | exact L2.isiB_f4 | exact L2.isiB_f5 | exact L2.isiB_f6 | exact L2.isiB_g1 | exact L2.isiB_g2 | exact L2.isiB_g3 | exact L2.isiB_g4 | exact L2.isiB_g5 | exact L2.isiB_g6 | exact L2.isiB_h1 | exact L2.isiB_h2 | exact L2.isiB_h3 | exact L2.isiB_h4 | exact L2.isiB_h5 | exact L2.isiB_h6 | exact L2.isiB_h7))
 | with_reducible refine VL.rX ?_
 | with_reducible refine VL.A5 ?_
 | ((with_reducible refine' VL.wG ?h ?_);(case h=>exact rfl);(try dsimp only [List.set_cons_zero,List.set_cons_succ]))
 | with_reducible refine VL.DV ?_
 | with_reducible refine VL.DW ?_
 | with_reducible refine VL.DX ?_)
local macro_rules | `(tactic| walk_at "l2") => `(tactic| first
 | with_reducible refine VL.DY ?_
 | with_reducible refine VL.A6 ?_
 | ((with_reducible refine' VL.wH ?h ?_);(case h=>exact rfl))
 | with_reducible refine VL.Bd ?_
 | ((with_reducible refine' VL.Be ?h ?_);(case h=>exact rfl))
 | with_reducible refine VL.Dr ?_
 | ((with_reducible refine' VL.AQ ?h ?_);(case h=>exact ⟨by lia,by lia,by lia,by lia⟩))
 | with_reducible refine VL.C3 ?_
 | with_reducible refine VL.wm ?_
 | ((with_reducible refine' VL.DG ?h ?_);(case h=>exact rfl))
 | with_reducible refine VL.DH ?_
 | with_reducible refine VL.A4 ?_
 | with_reducible refine VL.Dt ?_
 | with_reducible refine VL.wo ?_
 | ((with_reducible refine' VL.sd ?h1 ?h2 ?_);(case h1=>exact rfl);(case h2=>exact rfl))
 | ((with_reducible refine' VL.qb ?h1 ?h2 ?h3 ?_);(case h1=>exact rfl);(case h2=>exact rfl);(case h3=>exact rfl);(try dsimp only [List.set_cons_zero,List.set_cons_succ]))
 | ((with_reducible refine' VL.Dj ?h ?_);(case h=>exact rfl))
 | ((with_reducible refine' VL.AM ?h1 ?h2 ?_);(case h1=>exact rfl);(case h2=>first | lia | (simp only [List.length_append,List.length_cons,List.length_nil,List.length_map];lia) | exact Nat.le_of_ble_eq_true rfl);(try dsimp only [List.set_cons_zero,List.set_cons_succ]))
 | with_reducible refine VL.AC ?_
 | with_reducible refine VL.C6 ?_
 | with_reducible refine VL.Bb ?_
 | with_reducible refine VL.DR ?_
 | ((with_reducible refine' VL.Bq ?h ?_);(case h=>exact rfl))
 | with_reducible refine VL.D2 ?_
 | ((with_reducible refine' VL.Br ?h ?_);(case h=>exact rfl))
 | with_reducible refine VL.xi ?_
 | with_reducible refine VL.tW ?_
 | with_reducible refine VL.Eb ?_
 | ((with_reducible refine' VL.BH ?h ?_);(case h=>exact rfl);(try dsimp only [List.set_cons_zero,List.set_cons_succ]))
 | ((with_reducible refine' VL.Ed ?h ?_);(case h=>exact rfl))
 | with_reducible refine VL.BG ?_
 | ((with_reducible refine' VL.xE ?h ?_);(case h=>exact rfl))
 | with_reducible refine VL.wV ?_
 | with_reducible refine VL.Bh ?_
 | with_reducible refine VL.Bi ?_
 | ((with_reducible refine' VL.Bj ?h ?_);(case h=>exact rfl))
 | with_reducible refine VL.D4 ?_
 | with_reducible refine VL.xq ?_
 | with_reducible refine VL.Bw ?_
 | with_reducible refine VL.t5 ?_
 | with_reducible refine VL.Df ?_
 | ((with_reducible refine' VL.AK ?h ?_);(case h=>exact rfl))
 | with_reducible refine VL.As ?_
 | ((with_reducible refine' VL.oQ ?h ?_);(case h=>exact rfl);(try dsimp only [List.set_cons_zero,List.set_cons_succ]))
 | with_reducible refine VL.C5 ?_
 | ((with_reducible refine' VL.Bu ?h ?_);(case h=>exact rfl);(try dsimp only [List.set_cons_zero,List.set_cons_succ]))
 | with_reducible refine VL.Bt ?_
 | with_reducible refine VL.xn ?_
 | with_reducible refine VL.DI ?_
 | ((with_reducible refine' VL.AX ?h1 ?h2 ?_);(case h1=>exact Nat.le_of_ble_eq_true rfl);(case h2=>exact Nat.le_of_ble_eq_true rfl);(try dsimp only [List.set_cons_zero,List.set_cons_succ]))
 | with_reducible refine VL.DK ?_
 | with_reducible refine VL.rS ?_
 | with_reducible refine VL.rT ?_
 | with_reducible refine VL.oR ?_
 | with_reducible refine VL.oS ?_)
local macro_rules | `(tactic| walk_at "rd1") => `(tactic| first
 | walk_at "l0"
 | walk_at "l1"
 | walk_at "l2")
local macro_rules | `(tactic| walk_at "rc1") => `(tactic| first
 | walk_at "rd1"
 | ((with_reducible refine' VL.Dv ?h1 ?h2 ?h3 ?h4 ?h5 ?h6 ?_);(case h1=>exact rfl);(case h2=>exact rfl);(case h3=>exact rfl);(case h4=>exact rfl);(case h5=>exact rfl);(case h6=>exact rfl))
 | ((with_reducible refine' VL.Dz ?h ?_);(case h=>exact rfl))
 | ((with_reducible refine' VL.DA ?h ?_);(case h=>exact rfl))
 | ((with_reducible refine' VL.AT ?h ?_);(case h=>exact rfl))
 | ((with_reducible refine' VL.AU ?h ?_);(case h=>exact rfl))
 | ((with_reducible refine' VL.Dw ?h ?_);(case h=>exact rfl))
 | ((with_reducible refine' VL.Dy ?h ?_);(case h=>exact rfl))
 | ((with_reducible refine' VL.ES ?h ?_);(case h=>exact rfl))
 | ((with_reducible refine' VL.ET ?h ?_);(case h=>exact rfl))
 | ((with_reducible refine' VL.DB ?h ?_);(case h=>exact rfl))
 | ((with_reducible refine' VL.DC ?h ?_);(case h=>exact rfl)))
local macro_rules | `(tactic| walk_at "rc") => `(tactic| repeat walk_at "rc1")
local macro_rules | `(tactic| walk_at "rd") => `(tactic| repeat walk_at "rd1")
local macro_rules | `(tactic| walk_at "sl") => `(tactic| simp only [VL.slots, VL.dN, VL.eT, List.map_cons, List.map_nil, List.length_cons, List.length_nil, List.cons_append, List.nil_append, Nat.reduceAdd, Nat.reduceSub, Nat.zero_add, List.replicate_succ, List.replicate_zero])
namespace My
open PySem L2 VL
noncomputable def top (i:Nat):Stmt:=PySem.Challenge.pw_cellships_k24_glides.main.body.getD i (.Pass ⟨0,0,0,0⟩)
noncomputable abbrev lh:Stmt:=top 1
theorem lq:aF ["picture","move","dx","dy"] ["picture","move"] (ak lh):=by walk_at "s"
noncomputable abbrev jo:Stmt:=top 2
theorem iy:aF ["picture","columns","rows","left","top"] ["picture"] (ak jo):=by walk_at "s"
noncomputable abbrev gM:Stmt:=top 3
theorem jq:aF ["picture","box"] ["picture"] (ak gM):=by walk_at "s"
noncomputable abbrev jr:Stmt:=top 8
theorem qw:aF ["kind"] ["kind"] (ak jr):=by walk_at "s"
noncomputable abbrev gN:Stmt:=top 9
theorem nY:aF ["kind"] ["kind"] (ak gN):=by walk_at "s"
noncomputable abbrev iz:Stmt:=top 10
theorem ez:aF ["picture","turning","a","b","c","d"] ["picture","turning"] (ak iz):=by walk_at "s"
noncomputable abbrev js:Stmt:=top 26
theorem qx:aF ["rule"] ["rule"] (ak js):=by walk_at "s"
noncomputable abbrev cI:Stmt:=top 27
theorem fZ:aF ["rule"] ["rule"] (ak cI):=by walk_at "s"
noncomputable abbrev nZ:Stmt:=top 28
theorem iA:aF ["rule","alive","count","kind","born","stay"] ["rule","alive","count"] (ak nZ):=by walk_at "s"
noncomputable abbrev lr:Stmt:=top 30
theorem cJ:aF ["kind","picture","around","tally","x","y","dx","dy","cell"] ["kind","picture"] (ak lr):=by walk_at "s"
noncomputable abbrev jt:Stmt:=top 31
theorem gO:aF ["kind","picture","tally","cell"] ["kind","picture"] (ak jt):=by walk_at "s"
noncomputable abbrev cK:Stmt:=top 32
theorem f7:aF ["rule","picture","tally","living"] ["rule","picture","tally"] (ak cK):=by walk_at "s"
noncomputable abbrev gP:Stmt:=top 33
theorem n5:aF ["rule","picture"] ["rule","picture"] (ak gP):=by walk_at "s"
noncomputable abbrev dP:Stmt:=top 35
theorem jF:aF ["one","other"] ["one","other"] (ak dP):=by walk_at "s"
noncomputable abbrev n6:Stmt:=top 36
theorem xF:aF ["picture"] ["picture"] (ak n6):=by walk_at "s"
noncomputable abbrev ui:Stmt:=top 37
theorem eE:aF ["rule","picture","most","seen","now","turn","key","first","earlier"] ["rule","picture","most"] (ak ui):=by walk_at "s"
noncomputable abbrev fw:Stmt:=top 38
theorem cf:aF ["rule","picture","most","faces","laid","now","many","sought","turning","face","at_start"] ["rule","picture","most"] (ak fw):=by walk_at "s"
noncomputable abbrev uj:Stmt:=top 40
theorem lu:aF ["_law_script","_law_k","_law_cell"] ["_law_script","_law_k"] (ak uj):=by walk_at "s"
noncomputable abbrev n8:Stmt:=top 41
theorem f9:aF ["_law_pen_here","_law_many","_law_drawn","_law_number_here"] ["_law_pen_here","_law_many"] (ak n8):=by walk_at "s"
noncomputable abbrev ju:Stmt:=top 42
theorem kh:aF ["_law_pen_here","_law_way"] ["_law_pen_here"] (ak ju):=by walk_at "s"
noncomputable abbrev jv:Stmt:=top 43
theorem gb:aF ["_law_pen_here","_law_kind","_law_born","_law_stay"] ["_law_pen_here"] (ak jv):=by walk_at "s"
noncomputable abbrev iB:Stmt:=top 44
theorem mR:aF ["_law_pen_here","_law_way"] ["_law_pen_here"] (ak iB):=by walk_at "s"
noncomputable abbrev iC:Stmt:=top 45
theorem dF:aF ["_law_pen_here","_law_way","_law_side","_law_cells_here","_law_k","_law_cell"] ["_law_pen_here"] (ak iC):=by walk_at "s"
noncomputable abbrev lw:Stmt:=top 46
theorem gc:aF ["_law_kind","_law_found"] ["_law_kind"] (ak lw):=by walk_at "s"
noncomputable abbrev gh:Stmt:=top 47
theorem dG:aF ["_law_live","_law_turning","_law_a","_law_b","_law_c","_law_d"] ["_law_live","_law_turning"] (ak gh):=by walk_at "s"
noncomputable abbrev fx:Stmt:=top 48
theorem bU:aF ["_law_kind","_law_steps_here","_law_found","_law_first","_law_second","_law_turning"] ["_law_kind"] (ak fx):=by walk_at "s"
noncomputable abbrev ly:Stmt:=top 49
theorem dQ:aF ["_law_told","_law_live","_law_near","_law_cell","_law_step","_law_there","_law_alive"] ["_law_told","_law_live"] (ak ly):=by walk_at "s"
noncomputable abbrev lz:Stmt:=top 50
theorem pD:aF ["_law_one","_law_other","_law_move_here"] ["_law_one","_law_other"] (ak lz):=by walk_at "s"
noncomputable abbrev uk:Stmt:=top 51
theorem fy:aF ["_law_told","_law_live","_law_most","_law_some","_law_here","_law_many","_law_turning","_law_move_here"] ["_law_told","_law_live","_law_most"] (ak uk):=by walk_at "s"
noncomputable abbrev eU:Stmt:=top 52
theorem jw:aF ["_law_found","_law_due_here","_law_numbers"] ["_law_found","_law_due_here"] (ak eU):=by walk_at "s"
noncomputable abbrev eF:Stmt:=top 53
theorem cg:aF ["_law_told","_law_live","_law_most","_law_found","e","_law_other"] ["_law_told","_law_live","_law_most"] (ak eF):=by walk_at "s"
noncomputable abbrev lA:Stmt:=top 54
theorem eH:aF ["_law_told","_law_live","_law_most","_law_due_here","_law_handed","_law_again","_law_whole"] ["_law_told","_law_live","_law_most"] (ak lA):=by walk_at "s"
noncomputable abbrev xG:Stmt:=top 55
theorem dm:aF ["_law_script","_law_k","_law_pen_here","_law_told","_law_cells_here","_law_most","_law_some","_law_dx","_law_dy","_law_loud"] ["_law_script"] (ak xG):=by walk_at "s"
structure Txt (mg:Str->Option Value):Prop where
 len_:mg "len"=none
 range:mg "range"=none
 abs_:mg "abs"=none
 isinstance_:mg "isinstance"=none
 int_:mg "int"=none
 bool_:mg "bool"=none
 list_:mg "list"=none
 tuple_:mg "tuple"=none
 sorted_:mg "sorted"=none
 max_:mg "max"=none
 min_:mg "min"=none
 all_:mg "all"=none
 any_:mg "any"=none
 set_:mg "set"=none
 sum_:mg "sum"=none
 str_:mg "str"=none
noncomputable def Pn (b:Nat) (pn:List Int):Prop:=∃x y c:Int,pn=[x,y,c]/\0<=c/\c<=b
theorem Pn.le {b b':Nat} {pn:List Int} (h:Pn b pn) (e:b<=b'):Pn b' pn:=let ⟨x,y,c,h1,h2,h3⟩:=h;⟨x,y,c,h1,h2,by lia⟩
noncomputable def Ee:List D->(D->Prop)->Prop:=fun ds R=>∃(ns:List Int) (k:Nat),ds=[.lst (ns.map .int),.int k]/\k<=1000/\∀x y:Int,R (.lst ([x,y,0].map .int))
noncomputable def xH:List D->(D->Prop)->Prop:=fun ds R=>∃ns:List Int,ds=[.lst (ns.map .int)]/\ns.length<=63/\R (.bl true)
noncomputable def g9:List Int->List D->(D->List Int->Prop)->Prop:=fun pn ds R=>∃(b:Nat) (m:Int),ds=[.int m]/\Pn b pn/\b<=1000000/\0 < m/\m < 1073741824/\∀(pn':List Int) (r:Int),Pn (b+1) pn'->0<=r->r < m->R (.int r) pn'
theorem mS {j:Nat} (h:j < ns.length):atI (ns.map D.int) (j:Int)=some (.int (ns[j])):=by
 exact cB (by simp [h])
section
variable {P:Program} {w:World} {K:PySem.W.Frag} {mg:Str->Option Value} {base:Heap}
theorem BI (S:Src K mg "_law_pen" uj) (T:Txt mg):Has P w K mg base 1 "_law_pen" ["_law_script","_law_k"] (spP K Ee):=by
 refine bz S lu (by walk_at "2") (fun ds R zq1=>by obtain ⟨_,_,e,_⟩:=zq1;rw [e];rfl) fun f cdv A outer s H E hr=>⟨_,_,(ai (aB (i:=2) lu.nd rfl (Or.inl rfl) (az aU aM (az bJ bI af (ae 1 (pv 1))) af))
  (ai (aW (aO qQ aM (ae 1 (pv 1)) (bh (gY (K:=K) rfl) gW (by rfl) T.len_ dZ (aa (ae 0 (pv 0)) ah)) (aK _)) (ao (aB (i:=2) lu.nd rfl (Or.inl rfl) (aI rfl (ae 0 (pv 0)) (ae 1 (pv 1)) (fun _ _=>rfl)))) (ao (aW (aO lN aM (bh (gY (K:=K) rfl) gW (by rfl) T.len_ dZ (aa (ae 0 (pv 0)) ah)) af (aK _)) (ao (aB (i:=2) lu.nd rfl (Or.inl rfl) (az aU aM (az cR bI (aI rfl (ae 0 (pv 0)) (az cR bI (ae 1 (pv 1)) (bh (gY (K:=K) rfl) gW (by rfl) T.len_ dZ (aa (ae 0 (pv 0)) ah))) (fun _ _=>rfl)) af) (az bJ bI af (ae 1 (pv 1)))))) aG)))
  (ai (aW (aO Cd aM (ae 2 (pv 2)) (az iN bI af af) (aK _)) (ao (aA (aJ (ba (aa (az cr aM (ae 2 (pv 2)) (az iN bI af af)) (aa (az cR bI (ae 2 (pv 2)) af) (aa af ah))))))) aG)
  (ao (aA (aJ (ba (aa af (aa (az cR bI (ae 2 (pv 2)) af) (aa af ah)))))))))),?_⟩
 rintro ds R ⟨ns,k,rfl,hk,q⟩
 have fin:∀(x y:Int),R (.lst [.int x,.int y,.int 0]):=fun x y=>q x y
 walk_at "sl"
 walk_at "rd"
 rw [List.length_map]
 refine bE (fun h1=>?_) (fun h1=>?_)
 ·have h1':k < ns.length:=by lia
  walk_at "rd"
  refine bS rfl rfl (mS h1') ?_
  walk_at "rd"
  refine bE (fun h1=>?_) (fun h1=>?_)
  all_goals (walk_at "rd";exact fin _ _)
 ·walk_at "rd"
  rw [List.length_map]
  refine bE (fun h2=>?_) (fun h2=>?_)
  ·walk_at "rd"
   rw [List.length_map]
   have h2':0 < ns.length:=by lia
   have e:((k:Int)%(ns.length:Int))=((k%ns.length:Nat):Int):=by lia
   refine CV (by show (0:Int) < _;lia) ?_
   dsimp only [ofV]
   rw [e]
   refine bS rfl rfl (mS (Nat.mod_lt _ h2')) ?_
   walk_at "rd"
   refine bE (fun h1=>?_) (fun h1=>?_)
   all_goals (walk_at "rd";exact fin _ _)
  ·walk_at "rd"
   refine bE (fun h1=>?_) (fun h1=>?_)
   all_goals (walk_at "rd";exact fin _ _)
theorem xJ (S:Src K mg "_law_draw" n8) (T:Txt mg):Has P w K mg base 1 "_law_draw" ["_law_pen_here","_law_many"] (spI K 0 g9):=by
 refine mr 0 S f9 (by walk_at "2") (fun ns ds R zq1=>by obtain ⟨_,_,e,_⟩:=zq1;rw [e];rfl) fun f cdv A outer s H E hr=>⟨_,_,(ai (mi 0 (pv 0) (az aU aM (aI rfl (ae 0 (pv 0)) af (fun _ _=>rfl)) af) af)
  (ai (aW (aO lN aM (aI rfl (ae 0 (pv 0)) af (fun _ _=>rfl)) af (aK _)) (ai (aB (i:=2) f9.nd rfl (Or.inl rfl) (az cR bI (aI rfl (ae 0 (pv 0)) af (fun _ _=>rfl)) (ae 1 (pv 1))))
  (ai (mi 0 (pv 0) (az kr bI (aI rfl (ae 0 (pv 0)) af (fun _ _=>rfl)) (ae 1 (pv 1))) af)
  (ao (aA (aP (ae 2 (pv 2))))))) aG)
  (ai (aB (i:=3) f9.nd rfl (Or.inl rfl) (az cR bI (az aU aM (az aU aM (aI rfl (ae 0 (pv 0)) af (fun _ _=>rfl)) (az bJ bI af (aI rfl (ae 0 (pv 0)) af (fun _ _=>rfl)))) af) af))
  (ai (aB (i:=3) f9.nd rfl (Or.inl rfl) (az aU aM (az cR bI (az bJ bI (ae 3 (pv 3)) (ae 3 (pv 3))) af) (az bJ bI af (aI rfl (ae 0 (pv 0)) af (fun _ _=>rfl)))))
  (ai (aB (i:=3) f9.nd rfl (Or.inl rfl) (az cR bI (az bJ bI (ae 3 (pv 3)) (ae 3 (pv 3))) af))
  (ao (aA (az cR bI (az kr bI (ae 3 (pv 3)) af) (ae 1 (pv 1)))))))))),?_⟩
 rintro a pn ds es R hl ⟨b,m,e,⟨x,y,c,rfl,hc0,hc1⟩,hb,hm0,hm1,q⟩
 obtain rfl:ds=[]:=List.eq_nil_of_length_eq_zero hl
 obtain rfl:es=[.int m]:=e
 walk_at "sl"
 walk_at "rd"
 refine bE (fun h1=>?_) (fun h1=>?_)
 ·walk_at "rd"
  exact ⟨_,rfl,q _ _ ⟨_,_,_,rfl,by lia,by lia⟩ (Int.emod_nonneg _ (by lia)) (Int.emod_lt_of_pos _ hm0)⟩
 ·walk_at "rd"
  exact ⟨_,rfl,q _ _ ⟨_,_,_,rfl,by lia,by lia⟩ (Int.emod_nonneg _ (by lia)) (Int.emod_lt_of_pos _ hm0)⟩
end
end My
namespace My
open PySem L2 VL
noncomputable def nr (k:Int):List (List Int):=if k=4 then [[-1,0],[0,-1],[0,1],[1,0]] else if k=6 then [[-1,-1],[-1,0],[0,-1],[0,1],[1,0],[1,1]] else [[-1,-1],[-1,0],[-1,1],[0,-1],[0,1],[1,-1],[1,0],[1,1]]
noncomputable def rows:List (Int×List (List Int)):=[(4,nr 4),(6,nr 6),(8,nr 8)]
noncomputable def Kd (k:Int):Prop:=k=4\/k=6\/k=8
theorem um {k:Int} (hk:Kd k):(k,nr k)∈rows:=by rcases hk with rfl | rfl | rfl <;> simp [rows]
noncomputable def Pr (ms:List Int):Prop:=∃x y,ms=[x,y]
theorem gi {k:Int} (hk:Kd k) {m:List Int} (h:m∈nr k):∃x y,m=[x,y]/\-1<=x/\x<=1/\-1<=y/\y<=1:=by
 have:(nr k).all (fun m=>match m with | [x,y]=>decide (-1<=x)&&decide (x<=1)&&decide (-1<=y)&&decide (y<=1) | _=>false)=true:=by rcases hk with rfl | rfl | rfl <;> decide +kernel
 have:=List.all_eq_true.mp this m h
 match m,this with
 | [x,y],h=>simp only [Bool.and_eq_true,decide_eq_true_eq] at h;exact ⟨x,y,rfl,h.1.1.1,h.1.1.2,h.1.2,h.2⟩
theorem mT {k:Int} (hk:Kd k) {m:List Int} (h:m∈nr k):Pr m:=let ⟨x,y,e,_⟩:=gi hk h;⟨x,y,e⟩
theorem jx {k:Int} (hk:Kd k):(nr k).length<=8:=by rcases hk with rfl | rfl | rfl <;> decide
noncomputable def ad (p m:List Int):List Int:=match p,m with
 | [x,y],[dx,dy]=>[x+dx,y+dy]
 | _,_=>[]
noncomputable def rl (k:Int) (b s:List Int):D:=.tup [.int k,.tup (b.map .int),.tup (s.map .int)]
noncomputable def bes (k:Int) (xs:List (List Int)):List (List Int):=xs.flatMap fun p=>(nr k).map (ad p)
theorem iD (k:Int):∀ys:List (List Int),(bes k ys).length=ys.length*(nr k).length:=fun ys=>by
 induction ys with
 | nil=>simp [bes]
 | cons y ys ih=>simp only [bes,List.flatMap_cons,List.length_append,List.length_map,List.length_cons] at ih ⊢;rw [ih,Nat.succ_mul];lia
noncomputable def ddp:List (List Int)->List (List Int)
 | []=>[]
 | x::r=>if x∈r then ddp r else x::ddp r
theorem dR {c:List Int}:∀l,c∈ddp l↔c∈l
 | []=>Iff.rfl
 | x::r=>by
  unfold ddp
  split
  ·rename_i h
   rw [dR r,List.mem_cons]
   exact ⟨.inr,fun z=>z.elim (fun e=>e▸h) id⟩
  ·rw [List.mem_cons,List.mem_cons,dR r]
theorem dH:∀l,(ddp l).Nodup
 | []=>List.nodup_nil
 | x::r=>by
  unfold ddp
  split
  ·exact dH r
  ·rename_i h
   exact List.nodup_cons.mpr ⟨fun z=>h ((dR r).mp z),dH r⟩
noncomputable def liv (k:Int) (bo st:List Int) (xs:List (List Int)) (c:List Int):Bool:=decide ((((bes k xs).count c:Nat):Int)∈if decide (c∈xs)=true then st else bo)
noncomputable def nx (k:Int) (bo st:List Int) (xs:List (List Int)):List (List Int):=srt ((ddp (bes k xs++xs)).filter (liv k bo st xs))
theorem eV {a b:List (List Int)} (h:a.Perm b):srt a=srt b:=gA ((aQ a).trans h) (fe a)
theorem uo {k:Int} {bo st:List Int} {xs ys:List (List Int)} (nd:ys.Nodup) (hm:∀c,c∈ys↔(c∈bes k xs\/c∈xs)/\liv k bo st xs c=true):srt ys=nx k bo st xs:=by
 refine eV ?_
 refine (List.perm_ext_iff_of_nodup nd ((dH _).filter _)).mpr fun c=>?_
 rw [hm,List.mem_filter,dR,List.mem_append]
noncomputable def aft (k:Int) (bo st:List Int):Nat->List (List Int)->List (List Int)
 | 0,xs=>xs
 | n+1,xs=>nx k bo st (aft k bo st n xs)
theorem pE (k:Int) (bo st:List Int) (a:Nat) (xs:List (List Int)):∀b,aft k bo st (a+b) xs=aft k bo st b (aft k bo st a xs)
 | 0=>rfl
 | b+1=>by show nx k bo st (aft k bo st (a+b) xs)=nx k bo st (aft k bo st b (aft k bo st a xs));rw [pE k bo st a xs b]
theorem n9:∀{xs g:List (List Int)},xs.Nodup->(∀x∈xs,x∈g)->xs.length<=g.length
 | [],_,_,_=>Nat.zero_le _
 | x::r,g,nd,h=>by
  rw [List.nodup_cons] at nd
  have hx:=h x List.mem_cons_self
  have:=n9 (xs:=r) (g:=g.erase x) nd.2 fun y hy=>(List.mem_erase_of_ne (show y≠x from fun e=>nd.1 (by subst e;exact hy))).mpr (h y (List.mem_cons_of_mem _ hy))
  rw [List.length_erase_of_mem hx] at this
  have:0 < g.length:=List.length_pos_of_mem hx
  simp only [List.length_cons];lia
noncomputable def Pic (m:Nat) (xs:List (List Int)):Prop:=xs.Nodup/\∃l t:Int,∀p∈xs,∃x y,p=[x,y]/\l-(m:Int)<=x/\x < l+5+(m:Int)/\t-(m:Int)<=y/\y < t+5+(m:Int)
theorem Pic.pr {m:Nat} {xs:List (List Int)} (h:Pic m xs):∀p∈xs,Pr p:=fun p hp=>let ⟨_,_,_,f⟩:=h;let ⟨x,y,e,_⟩:=f p hp;⟨x,y,e⟩
noncomputable def Ef (l t:Int) (n:Nat):List (List Int):=(List.range n).flatMap fun (i:Nat)=>(List.range n).map fun (j:Nat)=>[l+(i:Int),t+(j:Int)]
theorem uq (l t:Int) (n:Nat):(Ef l t n).length=n*n:=by
 have:∀m,((List.range m).flatMap fun (i:Nat)=>(List.range n).map fun (j:Nat)=>[l+(i:Int),t+(j:Int)]).length=m*n:=fun m=>by
  induction m with
  | zero=>simp
  | succ m ih=>rw [List.range_succ,List.flatMap_append,List.length_append,ih];simp [Nat.succ_mul]
 exact this n
theorem Pic.nx {m:Nat} {xs:List (List Int)} {k:Int} {bo st:List Int} (hk:Kd k) (h:Pic m xs):Pic (m+1) (nx k bo st xs):=by
 obtain ⟨nd,l,t,f⟩:=h
 refine ⟨(aQ _).nodup_iff.mpr ((dH _).filter _),l,t,fun p hp=>?_⟩
 have hp:=(aQ _).mem_iff.mp hp
 rw [List.mem_filter,dR,List.mem_append] at hp
 rcases hp.1 with hp | hp
 ·obtain ⟨q,hq,hs⟩:=List.mem_flatMap.mp hp
  obtain ⟨s,hs2,rfl⟩:=List.mem_map.mp hs
  obtain ⟨x,y,rfl,h1,h2,h3,h4⟩:=f q hq
  obtain ⟨dx,dy,rfl,g1,g2,g3,g4⟩:=gi hk hs2
  exact ⟨x+dx,y+dy,rfl,by lia,by lia,by lia,by lia⟩
 ·obtain ⟨x,y,rfl,h1,h2,h3,h4⟩:=f p hp
  exact ⟨x,y,rfl,by lia,by lia,by lia,by lia⟩
theorem Pic.aft {m:Nat} {xs:List (List Int)} {k:Int} {bo st:List Int} (hk:Kd k) (h:Pic m xs):∀n,Pic (m+n) (aft k bo st n xs)
 | 0=>h
 | n+1=>(Pic.aft hk h n).nx hk
theorem jy:∀{kvs:List (List Int×D)} {p:List Int×D},(kvs.map (·.1)).Nodup->p∈kvs->dC kvs p.1=some p.2
 | [],_,_,h=>by cases h
 | q::ps,p,nd,h=>by
  rw [List.map_cons,List.nodup_cons] at nd
  unfold dC
  rcases List.mem_cons.mp h with rfl | h
  ·simp
  ·have:¬ q.1=p.1:=fun z=>nd.1 (List.mem_map.mpr ⟨p,h,z.symm⟩)
   simp only [List.find?_cons,this,decide_false]
   exact jy nd.2 h
theorem ur {c:List Int} (h:c∉kvs.map (·.1)):dC kvs c=none:=by
 unfold dC
 rw [List.find?_eq_none.mpr fun x hx=>by
  have:¬ x.1=c:=fun z=>h (List.mem_map.mpr ⟨x,hx,z⟩)
  simpa using this]
 rfl
structure Wt (l xs:List (List Int)) (kvs:List (List Int×D)):Prop where
 nd:(kvs.map (·.1)).Nodup
 keys:∀c,c∈kvs.map (·.1)↔c∈l\/c∈xs
 vals:∀p∈kvs,p.2=.int (l.count p.1)
 len:kvs.length<=l.length+xs.length
theorem Wt.get {l xs:List (List Int)} (h:Wt l xs kvs) (c:List Int):(dC kvs c).getD (.int 0)=.int (l.count c):=by
 by_cases hc:c∈kvs.map (·.1)
 ·obtain ⟨p,hp,rfl⟩:=List.mem_map.mp hc
  rw [jy h.nd hp,h.vals p hp];rfl
 ·rw [ur hc]
  have:c∉l:=fun z=>hc ((h.keys c).mpr (.inl z))
  rw [List.count_eq_zero.mpr this];rfl
theorem Wt.put {l:List (List Int)} {m:List Int} (h:Wt l [] kvs):Wt (l++[m]) [] (b7 kvs m (.int ((l.count m:Nat)+1:Int))):=by
 have cm:∀c,(l++[m]).count c=l.count c+if c=m then 1 else 0:=fun c=>by
  rw [List.count_append]
  by_cases e:c=m
  ·subst e;simp
  ·rw [if_neg e];simp [List.count_cons,Ne.symm e]
 unfold b7
 by_cases hm:m∈kvs.map (·.1)
 ·rw [if_pos hm]
  have ek:(kvs.map fun x=>if x.1=m then (x.1,D.int ((l.count m:Nat)+1:Int)) else x).map (·.1)=kvs.map (·.1):=cY kvs m _
  refine ⟨by rw [ek];exact h.nd,fun c=>?_,fun p hp=>?_,?_⟩
  ·rw [ek,h.keys c,List.mem_append,List.mem_singleton]
   constructor
   ·rintro (z | z)
    ·exact .inl (.inl z)
    ·cases z
   ·rintro ((z | z) | z)
    ·exact .inl z
    ·subst z;exact (h.keys _).mp hm
    ·cases z
  ·obtain ⟨q,hq,rfl⟩:=List.mem_map.mp hp
   by_cases e:q.1=m
   ·rw [if_pos e]
    show D.int _=D.int _
    rw [cm,if_pos e,e];simp
   ·rw [if_neg e,cm,if_neg e,h.vals q hq];simp
  ·rw [List.length_map,List.length_append];have:=h.len;simp at this ⊢;lia
 ·rw [if_neg hm]
  have nl:m∉l:=fun z=>hm ((h.keys m).mpr (.inl z))
  refine ⟨?_,fun c=>?_,fun p hp=>?_,?_⟩
  ·rw [List.map_append,List.nodup_append]
   exact ⟨h.nd,by simp,fun x hx y hy z=>hm (by cases List.mem_singleton.mp hy;exact (show x=m from z)▸hx)⟩
  ·rw [List.map_append,List.mem_append,h.keys c,List.mem_append];simp
  ·rcases List.mem_append.mp hp with hp | hp
   ·have:p.1≠m:=fun z=>hm (List.mem_map.mpr ⟨p,hp,z⟩)
    rw [cm,if_neg this,h.vals p hp];simp
   ·cases List.mem_singleton.mp hp
    show D.int _=D.int _
    rw [cm,if_pos rfl];simp
  ·rw [List.length_append,List.length_append];have:=h.len;simp at this ⊢;lia
theorem Wt.sdef {l ys:List (List Int)} {c:List Int} (h:Wt l ys kvs):Wt l (ys++[c]) (sdA kvs c 0):=by
 unfold sdA
 by_cases hc:c∈kvs.map (·.1)
 ·rw [if_pos hc]
  refine ⟨h.nd,fun d=>?_,h.vals,by have:=h.len;simp;lia⟩
  rw [h.keys d,List.mem_append,List.mem_singleton]
  constructor
  ·rintro (z | z)
   ·exact .inl z
   ·exact .inr (.inl z)
  ·rintro (z | z | z)
   ·exact .inl z
   ·exact .inr z
   ·subst z;exact (h.keys _).mp hc
 ·rw [if_neg hc]
  have nl:c∉l:=fun z=>hc ((h.keys c).mpr (.inl z))
  refine ⟨?_,fun d=>?_,fun p hp=>?_,by have:=h.len;simp;lia⟩
  ·rw [List.map_append,List.nodup_append]
   exact ⟨h.nd,by simp,fun x hx y hy z=>hc (by cases List.mem_singleton.mp hy;exact (show x=c from z)▸hx)⟩
  ·rw [List.map_append,List.mem_append,h.keys d,List.mem_append,or_assoc];simp
  ·rcases List.mem_append.mp hp with hp | hp
   ·exact h.vals p hp
   ·cases List.mem_singleton.mp hp
    rw [show l.count ((c,D.int 0):List Int×D).1=0 from List.count_eq_zero.mpr nl];rfl
theorem Wt.live {k:Int} {bo st:List Int} {xs:List (List Int)} (h:Wt (bes k xs) xs kvs):srt ((kvs.filter fun p=>liv k bo st xs p.1).map (·.1))=nx k bo st xs:=by
 refine uo ?_ fun c=>?_
 ·exact List.Nodup.sublist (List.filter_sublist.map _) h.nd
 ·rw [List.mem_map]
  constructor
  ·rintro ⟨p,hp,rfl⟩
   rw [List.mem_filter] at hp
   exact ⟨(h.keys _).mp (List.mem_map.mpr ⟨p,hp.1,rfl⟩),hp.2⟩
  ·rintro ⟨hc,hl⟩
   obtain ⟨p,hp,rfl⟩:=List.mem_map.mp ((h.keys c).mpr hc)
   exact ⟨p,List.mem_filter.mpr ⟨hp,hl⟩,rfl⟩
noncomputable def sq:List (List Int):=[[-1,0,0,-1],[-1,0,0,1],[0,-1,-1,0],[0,-1,1,0],[0,1,-1,0],[0,1,1,0],[1,0,0,-1],[1,0,0,1]]
noncomputable def six:List (List Int):=[[-1,0,-1,1],[-1,0,0,-1],[-1,1,-1,0],[-1,1,0,1],[0,-1,-1,0],[0,-1,1,-1],[0,1,-1,1],[0,1,1,0],[1,-1,0,-1],[1,-1,1,0],[1,0,0,1],[1,0,1,-1]]
noncomputable def tgK (k:Int):List (List Int):=if k=6 then six else sq
noncomputable def led (ms t:List Int):List Int:=match t,ms with
 | [a,b,c,d],[x,y]=>[a*x+b*y,c*x+d*y]
 | _,_=>[]
noncomputable def Tn (t:List Int):Prop:=∃a b c d:Int,t=[a,b,c,d]/\(-1<=a/\a<=1)/\(-1<=b/\b<=1)/\(-1<=c/\c<=1)/\(-1<=d/\d<=1)
noncomputable def Pc (mss:List (List Int)):Prop:=(∀ms∈mss,Pr ms)/\mss.length<=20000
noncomputable def mv (dx dy:Int) (ms:List Int):List Int:=match ms with
 | [x,y]=>[x+dx,y+dy]
 | _=>[]
noncomputable def fs (ms:List Int):Int:=ms.getD 0 0
noncomputable def sn (ms:List Int):Int:=ms.getD 1 0
noncomputable def aC (mss:List (List Int)):List (List Int):=mss.map (mv (-(mnI (mss.map fs))) (-(mnI (mss.map sn))))
noncomputable def aL (t:List Int) (mss:List (List Int)):List (List Int):=srt (mss.map fun m=>led m t)
theorem tgB {k:Int} (hk:Kd k):((tgK k).all fun t=>(match t with | [a,b,c,d]=>decide ((-1<=a/\a<=1)/\(-1<=b/\b<=1)/\(-1<=c/\c<=1)/\(-1<=d/\d<=1)) | _=>false))=true:=by rcases hk with rfl | rfl | rfl <;> decide +kernel
theorem cN {k:Int} (hk:Kd k) {t:List Int} (ht:t∈tgK k):Tn t:=by
 have h:=List.all_eq_true.mp (tgB hk) t ht
 split at h
 ·rename_i a b c d
  exact ⟨a,b,c,d,rfl,of_decide_eq_true h⟩
 ·cases h
theorem oe {k:Int} (hk:Kd k):(tgK k).length<=12/\0 < (tgK k).length:=by rcases hk with rfl | rfl | rfl <;> decide
theorem iE {t:List Int} (ht:Tn t) (h:Pc mss):Pc (aL t mss):=by
 obtain ⟨a,b,c,d,rfl,_⟩:=ht
 constructor
 ·intro ms hm
  have:=(aQ _).mem_iff.mp hm
  obtain ⟨m,h1,rfl⟩:=List.mem_map.mp this
  obtain ⟨x,y,rfl⟩:=h.1 m h1
  exact ⟨_,_,rfl⟩
 ·have:=(aQ (mss.map fun m=>led m [a,b,c,d])).length_eq
  rw [List.length_map] at this
  unfold aL
  rw [this]
  exact h.2
noncomputable def behind (s t:List Int):List Int:=match s,t with
 | [a,b,c,d],[a',b',c',d']=>[a'*a+b'*c,a'*b+b'*d,c'*a+d'*c,c'*b+d'*d]
 | _,_=>[]
theorem gQ {k:Int} (hk:Kd k):∀s∈tgK k,(∀t∈tgK k,behind s t∈tgK k)/\∀t∈tgK k,∃u∈tgK k,behind s u=t:=by
 rcases hk with rfl | rfl | rfl <;> decide +kernel
theorem lB {m s t:List Int} (hm:Pr m) (hs:Tn s) (ht:Tn t):led (led m s) t=led m (behind s t):=by
 obtain ⟨x,y,rfl⟩:=hm
 obtain ⟨a,b,c,d,rfl,_⟩:=hs
 obtain ⟨a',b',c',d',rfl,_⟩:=ht
 simp only [led,behind,List.cons.injEq,and_true]
 constructor <;> grind
theorem BJ {m t:List Int} {a b:Int} (hm:Pr m) (ht:Tn t):led (mv a b m) t=mv (fs (led [a,b] t)) (sn (led [a,b] t)) (led m t):=by
 obtain ⟨x,y,rfl⟩:=hm
 obtain ⟨p,q,r,s,rfl,_⟩:=ht
 simp only [led,mv,fs,sn,List.getD_cons_zero,List.getD_cons_succ,List.cons.injEq,and_true]
 constructor <;> grind
theorem gR {m t:List Int} (hm:Pr m) (ht:Tn t):Pr (led m t):=by
 obtain ⟨x,y,rfl⟩:=hm
 obtain ⟨p,q,r,s,rfl,_⟩:=ht
 exact ⟨_,_,rfl⟩
theorem BK {m n:List Int} {a b:Int} (hm:Pr m) (hn:Pr n):HT.lexLt (mv a b m) (mv a b n)=HT.lexLt m n:=by
 obtain ⟨x,y,rfl⟩:=hm
 obtain ⟨x',y',rfl⟩:=hn
 simp only [mv,HT.cS]
 by_cases h:x=x'
 ·subst h
  rw [if_pos rfl,if_pos rfl]
  by_cases h2:y=y'
  ·subst h2;rw [if_pos rfl,if_pos rfl]
  ·rw [if_neg h2,if_neg (by lia)]
   congr 1
   exact propext ⟨fun h=>by lia,fun h=>by lia⟩
 ·rw [if_neg h,if_neg (by lia)]
  congr 1
  exact propext ⟨fun h=>by lia,fun h=>by lia⟩
theorem uu {l:List (List Int)} {a b:Int} (h:∀m∈l,Pr m):srt (l.map (mv a b))=(srt l).map (mv a b):=by
 refine (gA ((aQ l).map _) ?_).symm
 rw [List.pairwise_map]
 refine List.Pairwise.imp_of_mem (fun {x y} hx hy hxy=>?_) (fe l)
 have px:=h x ((aQ l).mem_iff.mp hx)
 have py:=h y ((aQ l).mem_iff.mp hy)
 unfold lexLe at *
 rw [BK py px]
 exact hxy
theorem pF {a:Int} (h:ns≠[]):mnI (ns.map (·+a))=mnI ns+a:=by
 symm
 refine kQ (List.mem_map.mpr ⟨_,kP h,rfl⟩) fun b hb=>?_
 obtain ⟨c,hc,rfl⟩:=List.mem_map.mp hb
 have:=nK hc
 show _<=c+a
 lia
theorem ki {l:List (List Int)} {a b:Int} (h:∀m∈l,Pr m):aC (l.map (mv a b))=aC l:=by
 by_cases h0:l=[]
 ·subst h0;rfl
 ·have e1:(l.map (mv a b)).map fs=(l.map fs).map (·+a):=by
   rw [List.map_map,List.map_map]
   refine List.map_congr_left fun m hm=>?_
   obtain ⟨x,y,rfl⟩:=h m hm
   rfl
  have e2:(l.map (mv a b)).map sn=(l.map sn).map (·+b):=by
   rw [List.map_map,List.map_map]
   refine List.map_congr_left fun m hm=>?_
   obtain ⟨x,y,rfl⟩:=h m hm
   rfl
  unfold aC
  rw [e1,e2,pF (by simpa using h0),pF (by simpa using h0),List.map_map]
  refine List.map_congr_left fun m hm=>?_
  obtain ⟨x,y,rfl⟩:=h m hm
  show [_,_]=[_,_]
  congr 1
  ·lia
  ·congr 1
   lia
theorem uv {k:Int} (hk:Kd k):∀t∈tgK k,((nr k).map fun s=>led s t).Perm (nr k):=by
 have h:∀t∈tgK k,(decide (((nr k).map fun s=>led s t).Perm (nr k)))=true:=by rcases hk with rfl | rfl | rfl <;> decide +kernel
 exact fun t ht=>of_decide_eq_true (h t ht)
theorem uw {k:Int} (hk:Kd k):[1,0,0,1]∈tgK k:=by rcases hk with rfl | rfl | rfl <;> decide
theorem lC {m:List Int} (h:Pr m):led m [1,0,0,1]=m:=by
 obtain ⟨x,y,rfl⟩:=h
 simp only [led,List.cons.injEq,and_true]
 constructor <;> lia
noncomputable def gg (t:List Int) (a b:Int) (m:List Int):List Int:=mv a b (led m t)
noncomputable def GG (t:List Int) (a b:Int) (xs:List (List Int)):List (List Int):=(aL t xs).map (mv a b)
theorem BL {a b:Int} {m n:List Int} (hm:Pr m) (hn:Pr n) (e:mv a b m=mv a b n):m=n:=by
 obtain ⟨x,y,rfl⟩:=hm
 obtain ⟨z,u,rfl⟩:=hn
 simp only [mv,List.cons.injEq,and_true] at e ⊢
 exact ⟨by lia,by lia⟩
theorem ux {k:Int} (hk:Kd k) {t:List Int} (ht:t∈tgK k) {a b:Int} {m n:List Int} (hm:Pr m) (hn:Pr n) (e:gg t a b m=gg t a b n):m=n:=by
 have tn:=cN hk ht
 have e1:=BL (gR hm tn) (gR hn tn) e
 obtain ⟨u,hu,eu⟩:=(gQ hk t ht).2 _ (uw hk)
 have e2:=congrArg (fun z=>led z u) e1
 simp only [lB hm tn (cN hk hu),lB hn tn (cN hk hu),eu,lC hm,lC hn] at e2
 exact e2
theorem Eg {k:Int} {t:List Int} (tn:Tn t) {a b:Int} {p m:List Int} (hp:Pr p) (hm:Pr m):gg t a b (ad p m)=ad (gg t a b p) (led m t):=by
 obtain ⟨x,y,rfl⟩:=hp
 obtain ⟨u,v,rfl⟩:=hm
 obtain ⟨c,d,e,f,rfl,_⟩:=tn
 simp only [gg,ad,led,mv,List.cons.injEq,and_true]
 constructor <;> grind
theorem iF {t:List Int} {a b:Int} (xs:List (List Int)):(GG t a b xs).Perm (xs.map (gg t a b)):=by
 unfold GG aL
 refine ((aQ _).map _).trans ?_
 rw [List.map_map]
 exact List.Perm.refl _
theorem uy {t:List Int} (tn:Tn t) {a b:Int} {xs:List (List Int)} (hp:∀p∈xs,Pr p):GG t a b xs=srt (xs.map (gg t a b)):=by
 unfold GG aL
 rw [<- uu fun m hm=>by obtain ⟨n,hn,rfl⟩:=List.mem_map.mp hm;exact gR (hp n hn) tn,List.map_map]
 rfl
theorem jz {k:Int} (hk:Kd k) {xs:List (List Int)} (hp:∀p∈xs,Pr p):∀c∈bes k xs,Pr c:=fun c hc=>by
 obtain ⟨q,hq,hs⟩:=List.mem_flatMap.mp hc
 obtain ⟨s,hs2,rfl⟩:=List.mem_map.mp hs
 obtain ⟨x,y,rfl⟩:=hp q hq
 obtain ⟨dx,dy,rfl⟩:=mT hk hs2
 exact ⟨x+dx,y+dy,rfl⟩
theorem uz {k:Int} {xs ys:List (List Int)} (h:xs.Perm ys):(bes k xs).Perm (bes k ys):=h.flatMap_right _
theorem uA {k:Int} (hk:Kd k) {t:List Int} (ht:t∈tgK k) {a b:Int}:∀{xs:List (List Int)},(∀p∈xs,Pr p)->(bes k (xs.map (gg t a b))).Perm ((bes k xs).map (gg t a b))
 | [],_=>List.Perm.refl _
 | p::xs,h=>by
  have ih:=uA hk ht (a:=a) (b:=b) (xs:=xs) fun q hq=>h q (List.mem_cons_of_mem _ hq)
  have hp:=h p List.mem_cons_self
  unfold bes at ih ⊢
  rw [List.map_cons,List.flatMap_cons,List.flatMap_cons,List.map_append]
  refine List.Perm.append ?_ ih
  rw [List.map_map]
  have e:(nr k).map (gg t a b ∘ ad p)=((nr k).map fun s=>led s t).map (ad (gg t a b p)):=by
   rw [List.map_map]
   exact List.map_congr_left fun s hs=>Eg (k:=k) (cN hk ht) hp (mT hk hs)
  rw [e]
  exact (((uv hk t ht).map _).symm)
theorem kj {g:List Int->List Int} {c:List Int} (hc:Pr c):∀{l:List (List Int)},(∀m∈l,Pr m)->(∀m n,Pr m->Pr n->g m=g n->m=n)->(l.map g).count (g c)=l.count c
 | [],_,_=>rfl
 | m::l,h,hg=>by
  rw [List.map_cons,List.count_cons,List.count_cons,kj hc (fun m hm=>h m (List.mem_cons_of_mem _ hm)) hg]
  congr 1
  have:(g m==g c)=(m==c):=by
   rw [Bool.eq_iff_iff,beq_iff_eq,beq_iff_eq]
   exact ⟨hg _ _ (h m List.mem_cons_self) hc,fun e=>by rw [e]⟩
  rw [this]
theorem pG {k:Int} (hk:Kd k) {bo st:List Int} {xs:List (List Int)} (hp:∀p∈xs,Pr p):∀p∈nx k bo st xs,Pr p:=fun p h=>by
 have h:=(aQ _).mem_iff.mp h
 rw [List.mem_filter,dR,List.mem_append] at h
 exact h.1.elim (jz hk hp p) (hp p)
theorem uB {k:Int} {bo st:List Int} {xs:List (List Int)} {c:List Int}:c∈nx k bo st xs↔(c∈bes k xs\/c∈xs)/\liv k bo st xs c=true:=by
 unfold nx
 rw [(aQ _).mem_iff,List.mem_filter,dR,List.mem_append]
theorem uC {k:Int} {bo st:List Int} {xs:List (List Int)}:(nx k bo st xs).Nodup:=(aQ _).nodup_iff.mpr ((dH _).filter _)
theorem jA {k:Int} (hk:Kd k) {t:List Int} (ht:t∈tgK k) {a b:Int}:∀{l:List (List Int)},(∀m∈l,Pr m)->l.Nodup->(l.map (gg t a b)).Nodup
 | [],_,_=>List.nodup_nil
 | m::l,h,nd=>by
  rw [List.nodup_cons] at nd
  rw [List.map_cons,List.nodup_cons]
  refine ⟨fun z=>nd.1 ?_,jA hk ht (fun m hm=>h m (List.mem_cons_of_mem _ hm)) nd.2⟩
  obtain ⟨n,hn,e⟩:=List.mem_map.mp z
  rw [<- ux hk ht (h n (List.mem_cons_of_mem _ hn)) (h m List.mem_cons_self) e]
  exact hn
theorem Eh {k:Int} (hk:Kd k) {bo st:List Int} {t:List Int} (ht:t∈tgK k) {a b:Int} {xs:List (List Int)} (hp:∀p∈xs,Pr p):nx k bo st (GG t a b xs)=GG t a b (nx k bo st xs):=by
 have tn:=cN hk ht
 have inj:∀m n,Pr m->Pr n->gg t a b m=gg t a b n->m=n:=fun m n hm hn e=>ux hk ht hm hn e
 have pb:(bes k (GG t a b xs)).Perm ((bes k xs).map (gg t a b)):=(uz (iF xs)).trans (uA hk ht hp)
 have px:=iF (t:=t) (a:=a) (b:=b) xs
 have lv:∀c,Pr c->liv k bo st (GG t a b xs) (gg t a b c)=liv k bo st xs c:=fun c hc=>by
  have e1:(bes k (GG t a b xs)).count (gg t a b c)=(bes k xs).count c:=by rw [pb.count_eq,kj hc (jz hk hp) inj]
  have e2:(gg t a b c∈GG t a b xs)↔c∈xs:=by
   rw [px.mem_iff,List.mem_map]
   exact ⟨fun zq1=>by obtain ⟨n,hn,e⟩:=zq1;rw [<- inj n c (hp n hn) hc e];exact hn,fun h=>⟨c,h,rfl⟩⟩
  unfold liv
  rw [e1]
  by_cases h:c∈xs
  ·have h':=e2.mpr h
   simp only [h,h',decide_true,if_true]
  ·have h':¬ gg t a b c∈GG t a b xs:=fun z=>h (e2.mp z)
   simp only [h,h',decide_false,Bool.false_eq_true,if_false]
 rw [uy tn (pG hk hp)]
 refine (uo (jA hk ht (pG hk hp) uC) fun c=>?_).symm
 rw [List.mem_map,pb.mem_iff,px.mem_iff,List.mem_map,List.mem_map]
 constructor
 ·rintro ⟨n,hn,rfl⟩
  have pn:=pG hk hp n hn
  rw [uB] at hn
  refine ⟨hn.1.elim (fun h=>.inl ⟨n,h,rfl⟩) fun h=>.inr ⟨n,h,rfl⟩,?_⟩
  rw [lv n pn];exact hn.2
 ·rintro ⟨hc,hl⟩
  have:∃n,(n∈bes k xs\/n∈xs)/\gg t a b n=c:=hc.elim (fun zt1=>by obtain ⟨n,h,e⟩:=zt1;exact ⟨n,.inl h,e⟩) fun zt1=>by obtain ⟨n,h,e⟩:=zt1;exact ⟨n,.inr h,e⟩
  obtain ⟨n,hn,rfl⟩:=this
  have pn:Pr n:=hn.elim (jz hk hp n) (hp n)
  rw [lv n pn] at hl
  exact ⟨n,uB.mpr ⟨hn,hl⟩,rfl⟩
theorem gS {k:Int} (hk:Kd k) {bo st:List Int} {xs:List (List Int)} (hp:∀p∈xs,Pr p):∀n,∀p∈aft k bo st n xs,Pr p
 | 0=>hp
 | n+1=>pG hk (gS hk hp n)
theorem uD {k:Int} (hk:Kd k) {bo st:List Int} {t:List Int} (ht:t∈tgK k) {a b:Int} {xs:List (List Int)} (hp:∀p∈xs,Pr p):∀n,aft k bo st n (GG t a b xs)=GG t a b (aft k bo st n xs)
 | 0=>rfl
 | n+1=>by
  show nx k bo st (aft k bo st n (GG t a b xs))=GG t a b (nx k bo st (aft k bo st n xs))
  rw [uD hk ht hp n,Eh hk ht (gS hk hp n)]
theorem uE {s t:List Int} {a b:Int} (hp:∀m∈mss,Pr m) (hs:Tn s) (ht:Tn t):aC (aL t (GG s a b mss))=aC (aL (behind s t) mss):=by
 have h1:∀m∈aL s mss,Pr m:=fun m hm=>by
  obtain ⟨n,hn,rfl⟩:=List.mem_map.mp ((aQ _).mem_iff.mp hm)
  exact gR (hp n hn) hs
 have h2:∀m∈(aL s mss).map (fun m=>led m t),Pr m:=fun m hm=>by
  obtain ⟨n,hn,rfl⟩:=List.mem_map.mp hm
  exact gR (h1 n hn) ht
 have e:aL t (GG s a b mss)=(srt ((aL s mss).map fun m=>led m t)).map (mv (fs (led [a,b] t)) (sn (led [a,b] t))):=by
  rw [<- uu h2]
  unfold GG
  rw [List.map_map]
  show srt _=_
  rw [List.map_map]
  congr 1
  exact List.map_congr_left fun m hm=>BJ (h1 m hm) ht
 rw [e,ki fun m hm=>h2 m ((aQ _).mem_iff.mp hm)]
 congr 1
 show srt ((srt (mss.map fun m=>led m s)).map fun m=>led m t)=srt (mss.map fun m=>led m (behind s t))
 rw [eV ((aQ _).map _),List.map_map]
 congr 1
 exact List.map_congr_left fun m hm=>lB (hp m hm) hs ht
end My
namespace My
open PySem L2 VL
noncomputable def Ei:List D->(D->Prop)->Prop:=fun ds R=>∃k,ds=[.int k]/\Kd k/\R (eL (nr k))
noncomputable def uF:List D->(D->Prop)->Prop:=fun ds R=>∃k bo st al c,ds=[rl k bo st,.bl al,.int c]/\R (.bl (decide (c∈if al=true then st else bo)))
noncomputable def og:List D->(D->Prop)->Prop:=fun ds R=>∃k bo st,ds=[rl k bo st]/\R (.bl (decide (0∉bo)))
noncomputable def pH:List D->(D->Prop)->Prop:=fun ds R=>∃k bo st,ds=[rl k bo st]/\0∉bo/\R .non
noncomputable def xK (c:Addr) (ds:List D) (C:Addr):Prop:=C=c/\∃k bo st,ds=[rl k bo st]/\0∈bo
noncomputable def pI:List D->(D->Prop)->Prop:=fun ds R=>∃k xs,ds=[.int k,eL xs]/\Kd k/\(∀p∈xs,Pr p)/\xs.length<=20000/\∀kvs,Wt (bes k xs) [] kvs->R (dc kvs)
noncomputable def mU:List D->(D->Prop)->Prop:=fun ds R=>∃k xs,ds=[.int k,eL xs]/\Kd k/\(∀p∈xs,Pr p)/\xs.length<=20000/\∀kvs,Wt (bes k xs) xs kvs->R (dc kvs)
noncomputable def Ej:List D->(D->Prop)->Prop:=fun ds R=>∃k bo st xs kvs,ds=[rl k bo st,eL xs,dc kvs]/\Kd k/\(∀p∈xs,Pr p)/\xs.length<=20000/\Wt (bes k xs) xs kvs/\R (eL (nx k bo st xs))
noncomputable def pNx:List D->(D->Prop)->Prop:=fun ds R=>∃k bo st xs,ds=[rl k bo st,eL xs]/\Kd k/\0∉bo/\(∀p∈xs,Pr p)/\xs.length<=20000/\R (eL (nx k bo st xs))
theorem mV (ms:List Int):VL.flat (kT ms)=true:=bj ms
theorem mW {neg:Bool}:nE neg d (.lst ds) q->nE neg d (.tup ds) q:=by
 rintro ⟨ds',h,r⟩
 rcases h with h | h
 ·cases h;exact ⟨_,.inr rfl,r⟩
 ·cases h
theorem Wt.flats {l xs:List (List Int)} (h:Wt l xs kvs):flats (kvs.map (·.2))=true:=by
 have:kvs.map (·.2)=(kvs.map fun p=>((l.count p.1:Nat):Int)).map D.int:=by
  rw [List.map_map]
  exact List.map_congr_left fun p hp=>h.vals p hp
 rw [this];exact bj _
section
variable {P:Program} {w:World} {K:PySem.W.Frag} {mg:Str->Option Value} {base:Heap}
theorem BM {a_OFFSETS:Addr} (S:Src K mg "offsets" jr) (T:Txt mg) (hD:mg "OFFSETS"=some (.ref a_OFFSETS)) (kD:okD K a_OFFSETS rows=true):Has P w K mg base 1 "offsets" ["kind"] (spP K Ei):=by
 refine bz S qw (by walk_at "1") (fun ds R zq1=>by obtain ⟨_,e,_⟩:=zq1;rw [e];rfl) fun f cdv A outer s H E hr=>⟨_,_,(ao (aA (aJ (fN rfl (by rfl) T.list_ (aa (AY (rows:=rows) rfl kD (eI (v:=.ref a_OFFSETS) (by rfl) hD rfl) (ae 0 (pv 0)) (fun _ _=>rfl)) ah))))),?_⟩
 rintro ds R ⟨k,rfl,hk,q⟩
 walk_at "sl"
 walk_at "rd"
 refine AZ rfl (um hk) ?_
 walk_at "rd"
 exact d8 rfl (cV _) (by walk_at "rd";exact q)
theorem uG (S:Src K mg "comes" nZ) (T:Txt mg):Has P w K mg base 1 "comes" ["rule","alive","count"] (spP K uF):=by
 refine bz S iA (by walk_at "3") (fun ds R zq1=>by obtain ⟨_,_,_,_,_,e,_⟩:=zq1;rw [e];rfl) fun f cdv A outer s H E hr=>⟨_,_,(ai (gC (ae 0 (pv 0)) (bG (n:=3) rfl rfl (aw (au (aq (i:=3) iA.nd rfl (Or.inl rfl) (Or.inl rfl))) (aw (au (aq (i:=4) iA.nd rfl (Or.inl rfl) (Or.inl rfl))) (aw (au (aq (i:=5) iA.nd rfl (Or.inl rfl) (Or.inl rfl))) br)))))
  (ao (aA (cU (rH (K:=K) rfl hr.units) oP (ae 2 (pv 2)) (md (cu (ae 1 (pv 1))) (ae 5 (pv 5)) (ae 4 (pv 4))) (by with_unfolding_all rfl))))),?_⟩
 rintro ds R ⟨k,bo,st,al,c,rfl,q⟩
 walk_at "sl"
 unfold rl
 walk_at "rd"
 cases al with
 | true=>
  walk_at "rc"
  refine nO (f:=D.int) eO ?_
  walk_at "rd"
  exact q
 | false=>
  walk_at "rc"
  refine nO (f:=D.int) eO ?_
  walk_at "rd"
  exact q
theorem uH (S:Src K mg "is_quiet" js) (T:Txt mg):Has P w K mg base 1 "is_quiet" ["rule"] (spP K og):=by
 refine bz S qx (by walk_at "1") (fun ds R zq1=>by obtain ⟨_,_,_,e,_⟩:=zq1;rw [e];rfl) fun f cdv A outer s H E hr=>⟨_,_,(ao (aA (cU (jY (K:=K) rfl hr.units) oP af (aI rfl (ae 0 (pv 0)) af (fun _ _=>rfl)) (by with_unfolding_all rfl)))),?_⟩
 rintro ds R ⟨k,bo,sy,rfl,q⟩
 unfold rl
 walk_at "sl"
 walk_at "rc"
 by_cases h:0∈bo
 ·refine mW (yC (f:=D.int) (l:=bo) eO h ?_)
  walk_at "rc"
  rw [decide_eq_false (by simpa using h)] at q
  exact q
 ·refine mW (yB (f:=D.int) (l:=bo) eO h ?_)
  walk_at "rc"
  rw [decide_eq_true h] at q
  exact q
theorem xM (S:Src K mg "refuse_loud" cI) (T:Txt mg) (e5_:Has P w K mg base 1 "is_quiet" ["rule"] (spP K og)):Has P w K mg base 2 "refuse_loud" ["rule"] (spP K pH):=by
 refine bz S fZ (by walk_at "1") (fun ds R zq1=>by obtain ⟨_,_,_,e,_⟩:=zq1;rw [e];rfl) fun f cdv A outer s H E hr=>⟨_,_,(ao (aW (cw (cu (aY e5_ hr (aa (ae 0 (pv 0)) ah)))) (ao rq) aG)),?_⟩
 rintro ds R ⟨k,bo,st,rfl,h0,q⟩
 walk_at "sl"
 walk_at "rd"
 refine ⟨k,bo,st,rfl,?_⟩
 rw [decide_eq_true h0]
 walk_at "rc"
 exact q
theorem uI {c_Loud:Addr} (S:Src K mg "refuse_loud" cI) (T:Txt mg) (e5_:Has P w K mg base 1 "is_quiet" ["rule"] (spP K og)) (g_Loud:mg "Loud"=some (.ref c_Loud))
  (x_Loud:PySem.W.excIn K c_Loud [.type "ValueError",.type "Exception",.type "BaseException",.type "object"] "ValueError.__new__"=true):nQ P w K mg base 2 "refuse_loud" ["rule"] (xK c_Loud):=by
 refine yN S fZ (by walk_at "1") (fun ds C h=>by obtain ⟨_,_,_,_,e,_⟩:=h;rw [e];rfl) fun f cdv A outer s H E hr TH=>⟨_,_,(DP (cw (cu (aY e5_ hr (aa (ae 0 (pv 0)) ah)))) (sP TH PySem.F.excBase_ValueError x_Loud g_Loud rfl)
  sO),?_⟩
 rintro ds C ⟨rfl,k,bo,st,rfl,h0⟩
 walk_at "sl"
 walk_at "rd"
 refine ⟨k,bo,st,rfl,?_⟩
 rw [decide_eq_false (by simpa using h0)]
 walk_at "rc"
 exact if_pos rfl▸trivial
theorem qy (S:Src K mg "counts" lr) (T:Txt mg) (e15_:Has P w K mg base 1 "offsets" ["kind"] (spP K Ei)):Has P w K mg base 2 "counts" ["kind","picture"] (spP K pI):=by
 refine bz S cJ (by walk_at "2") (fun ds R zq1=>by obtain ⟨_,_,e,_⟩:=zq1;rw [e];rfl) fun f cdv A outer s H E hr=>⟨_,_,(ai (aB (i:=2) cJ.nd rfl (Or.inl rfl) (aY e15_ hr (aa (ae 0 (pv 0)) ah)))
  (ai (fU (fun _ h=>ck (i:=3) cJ.nd rfl (Or.inl rfl) h) nN)
  (ai (bP PassesOwn.never rfl (bg rfl (ae 1 (pv 1))) (bG (n:=2) rfl rfl (aw (au (aq (i:=4) cJ.nd rfl (Or.inl rfl) (Or.inl rfl))) (aw (au (aq (i:=5) cJ.nd rfl (Or.inl rfl) (Or.inl rfl))) br))) (ao (bP PassesOwn.never rfl (bg rfl (ae 2 (pv 2))) (bG (n:=2) rfl rfl (aw (au (aq (i:=6) cJ.nd rfl (Or.inl rfl) (Or.inl rfl))) (aw (au (aq (i:=7) cJ.nd rfl (Or.inl rfl) (Or.inl rfl))) br))) (ai (aB (i:=8) cJ.nd rfl (Or.inl rfl) (aj (aa (az aU aM (ae 4 (pv 4)) (ae 6 (pv 6))) (aa (az aU aM (ae 5 (pv 5)) (ae 7 (pv 7))) ah))))
  (ao (il 3 rfl hr.units (pv 3) (az aU aM (kW rfl hr.units (ae 3 (pv 3)) (ae 8 (pv 8))) af) (ae 8 (pv 8))))))))
  (ao (aA (aP (ae 3 (pv 3)))))))),?_⟩
 rintro ds R ⟨k,xs,rfl,hk,hp,hl,q⟩
 walk_at "sl"
 walk_at "rd"
 refine ⟨k,rfl,hk,?_⟩
 walk_at "rd"
 have nl:=jx hk
 have bl:=iD k
 refine dq (fun i S=>∃kvs s4 s5 s6 s7 s8,Wt (bes k (xs.take i)) [] kvs/\S=[.val (.int k),.val (eL xs),.val (eL (nr k)),od kvs,s4,s5,s6,s7,s8]) ⟨[],_,_,_,_,_,⟨by simp,by simp [bes],by simp,by simp⟩,rfl⟩ ?_ ?_
 ·rintro i d S2 e ⟨kvs,s4,s5,s6,s7,s8,tc,rfl⟩
  obtain ⟨p,h1,rfl,hm,ht⟩:=aT e
  have hi:i < xs.length:=(List.getElem?_eq_some_iff.mp h1).1
  obtain ⟨px,py,rfl⟩:=hp p hm
  show vgT 2 _ (.tup [.int px,.int py]) _ _
  walk_at "rd"
  refine dq (fun j S=>∃kvs s6 s7 s8,Wt (bes k (xs.take i)++((nr k).take j).map (ad [px,py])) [] kvs/\S=[.val (.int k),.val (eL xs),.val (eL (nr k)),od kvs,.val (.int px),.val (.int py),s6,s7,s8]) ⟨kvs,_,_,_,by simpa using tc,rfl⟩ ?_ ?_
  ·rintro j d S3 e' ⟨kvs,s6,s7,s8,tc,rfl⟩
   obtain ⟨m,h2,rfl,hm',ht'⟩:=aT e'
   obtain ⟨dx,dy,rfl⟩:=mT hk hm'
   show vgT 2 _ (.tup [.int dx,.int dy]) _ _
   walk_at "rd"
   refine nS (kvs:=kvs) (ms:=[px+dx,py+dy]) rfl rfl (tc.get _) ?_
   walk_at "rd"
   have t2:=tc.len
   have b1:=bl (xs.take i)
   have l1:(xs.take i).length<=20000:=by rw [List.length_take];lia
   have l2:(xs.take i).length*(nr k).length<=20000*8:=Nat.mul_le_mul l1 nl
   rw [List.length_append,List.length_map,List.length_take,List.length_nil] at t2
   refine fV (kvs:=kvs) (ms:=[px+dx,py+dy]) rfl rfl (by lia) ?_
   refine ⟨_,_,_,_,?_,rfl⟩
   have:=tc.put (m:=ad [px,py] [dx,dy])
   rw [ht',List.map_append,<- List.append_assoc]
   exact this
  ·rintro S3 ⟨kvs,s6,s7,s8,tc,rfl⟩
   refine ⟨kvs,_,_,_,_,_,?_,rfl⟩
   rw [ht]
   simpa [bes] using tc
 ·rintro S2 ⟨kvs,s4,s5,s6,s7,s8,tc,rfl⟩
  rw [List.length_map,List.take_length] at tc
  walk_at "rd"
  exact q kvs tc
theorem oh (S:Src K mg "watched" jt) (T:Txt mg) (e31_:Has P w K mg base 2 "counts" ["kind","picture"] (spP K pI)):Has P w K mg base 3 "watched" ["kind","picture"] (spP K mU):=by
 refine bz S gO (by walk_at "2") (fun ds R zq1=>by obtain ⟨_,_,e,_⟩:=zq1;rw [e];rfl) fun f cdv A outer s H E hr=>⟨_,_,(ai (fU (fun _ h=>ck (i:=2) gO.nd rfl (Or.inl rfl) h) (D0 e31_ hr (aa (ae 0 (pv 0)) (aa (ae 1 (pv 1)) ah))))
  (ai (bP PassesOwn.never rfl (bg rfl (ae 1 (pv 1))) (au (aq (i:=3) gO.nd rfl (Or.inl rfl) (Or.inl rfl))) (ao (eM (xf 2 rfl hr.units (pv 2) (ae 3 (pv 3))))))
  (ao (aA (aP (ae 2 (pv 2))))))),?_⟩
 rintro ds R ⟨k,xs,rfl,hk,hp,hl,q⟩
 walk_at "sl"
 walk_at "rd"
 refine ⟨k,xs,rfl,hk,hp,hl,fun kvs tc=>⟨kvs,rfl,tc.flats,?_⟩⟩
 walk_at "rd"
 have nl:=jx hk
 have b1:=iD k xs
 have l2:xs.length*(nr k).length<=20000*8:=Nat.mul_le_mul hl nl
 refine dq (fun i S=>∃kvs s3,Wt (bes k xs) (xs.take i) kvs/\S=[.val (.int k),.val (eL xs),od kvs,s3]) ⟨kvs,_,by simpa using tc,rfl⟩ ?_ ?_
 ·rintro i d S2 e ⟨kvs,s3,tc,rfl⟩
  obtain ⟨p,h1,rfl,hm,ht⟩:=aT e
  have hi:i < xs.length:=(List.getElem?_eq_some_iff.mp h1).1
  walk_at "rd"
  have t2:=tc.len
  rw [List.length_take] at t2
  refine xg (kvs:=kvs) (ms:=p) rfl rfl (by lia) (tc.get _) ?_
  walk_at "rd"
  exact ⟨_,_,by rw [ht];exact tc.sdef,rfl⟩
 ·rintro S2 ⟨kvs,s3,tc,rfl⟩
  rw [List.length_map,List.take_length] at tc
  walk_at "rd"
  exact q kvs tc
theorem Ek (S:Src K mg "living_next" cK) (T:Txt mg) (e21_:Has P w K mg base 1 "comes" ["rule","alive","count"] (spP K uF)):Has P w K mg base 2 "living_next" ["rule","picture","tally"] (spP K Ej):=by
 refine bz S f7 (by walk_at "3") (fun ds R zq1=>by obtain ⟨_,_,_,_,_,e,_⟩:=zq1;rw [e];rfl) fun f cdv A outer s H E hr=>⟨_,_,(ai (fU (fun _ h=>ck (i:=3) f7.nd rfl (Or.inr rfl) h) (wR (tg:=["cell"]) (cs:=[]) (ix:=[]) rfl hr.units (aS (ak cK) ["rule","picture","tally","living"] (by decide +kernel)) rfl (bK (by decide)) (by decide) (bg rfl (ae 1 (pv 1))) (fun _ _ _ _=>(au (aq (i:=0) (show (["cell"]:List Str).Nodup by decide +kernel) rfl (Or.inl rfl) (by first | exact Or.inl rfl | exact Or.inr rfl)))) (fun _ _ _ _=>bZ) (fun _ _ _ _=>(ae 0 (pv 0))) (fun _ _ _ _=>dU)))
  (ao (aA (aJ (de rfl rfl (by rfl) T.sorted_ cA (aa (aJ (bN (tg:=["cell","count"]) (cs:=["rule","living"]) (ix:=[0,3]) (aS (ak cK) ["rule","picture","tally","living"] (by decide +kernel)) rfl (bM (by decide) (by decide)) (by decide) (tM (ae 2 (pv 2))) (fun _ _ _ _=>(bG (n:=2) rfl rfl (aw (au (aq (i:=0) (show (["cell","count","rule","living"]:List Str).Nodup by decide +kernel) rfl (Or.inl rfl) (by first | exact Or.inl rfl | exact Or.inr rfl))) (aw (au (aq (i:=1) (show (["cell","count","rule","living"]:List Str).Nodup by decide +kernel) rfl (Or.inl rfl) (by first | exact Or.inl rfl | exact Or.inr rfl))) br)))) (fun _ _ _ _=>(eN (cu (aY e21_ hr (aa (ae 2 (pv 2)) (aa (cU (yH (K:=K) rfl hr.units) yG (ae 0 (pv 0)) (ae 3 (pv 3)) (by with_unfolding_all rfl)) (aa (ae 1 (pv 1)) ah))))))) (fun _ _ _ _=>(aP (ae 0 (pv 0)))))) ah)))))),?_⟩
 rintro ds R ⟨k,bo,st,xs,kvs,rfl,hk,hp,hl,tc,q⟩
 walk_at "sl"
 walk_at "rd"
 have nl:=jx hk
 have b1:=iD k xs
 have l2:xs.length*(nr k).length<=20000*8:=Nat.mul_le_mul hl nl
 have t2:=tc.len
 refine ql (xs:=xs) (en:=eT) (ky:=fun p=>p) (f:=fun _=>.bl true) (by lia) (fun p hp A B hA=>?_) ?_
 ·dsimp only [bA,List.replicate,List.map_cons,List.map_nil,List.cons_append,List.nil_append]
  walk_at "rc"
  exact hA _ rfl
 ·walk_at "rd"
  refine dh (xs:=kvs) (en:=fun x=>.tup [kT x.1,x.2]) (f:=fun x=>eT x.1) (p:=fun x=>liv k bo st xs x.1) (by lia) (fun c hc A B hA hB=>?_) ?_
  ·dsimp only [bA,List.replicate,List.map_cons,List.map_nil,List.cons_append,List.nil_append]
   rw [tc.vals c hc]
   have hal:decide (c.1∈(xs.foldl (fun kvs x=>b7 kvs x (D.bl true)) []).map (·.1))=decide (c.1∈xs):=by
    congr 1
    exact propext ((gK (ky:=fun p=>p) (f:=fun _=>D.bl true) xs []).trans (by simp))
   walk_at "rd"
   refine sG (ms:=c.1) rfl rfl ?_
   walk_at "rd"
   refine ⟨k,bo,st,_,_,rfl,?_⟩
   rw [if_neg Bool.false_ne_true,hal]
   change rQ _ (.d (.bl (liv k bo st xs c.1))) _
   cases hv:liv k bo st xs c.1 with
   | true=>walk_at "rc";refine cD (mV _) ?_;walk_at "rc";exact hA _ rfl hv
   | false=>walk_at "rc";exact hB _ rfl hv
  ·walk_at "rd"
   rw [show ((kvs.filter fun x=>liv k bo st xs x.1).map fun x=>eT x.1)=((kvs.filter fun x=>liv k bo st xs x.1).map (·.1)).map eT by rw [List.map_map];rfl]
   walk_at "rd"
   refine b9 (mss:=(kvs.filter fun x=>liv k bo st xs x.1).map (·.1)) rfl (fun ms hms=>?_) ?_
   ·obtain ⟨x,hx,rfl⟩:=List.mem_map.mp hms
    have hk2:=(tc.keys x.1).mp (List.mem_map.mpr ⟨x,(List.mem_filter.mp hx).1,rfl⟩)
    obtain ⟨a,b,e⟩:=hk2.elim (jz hk hp x.1) (hp x.1)
    rw [e];exact List.cons_ne_nil _ _
   ·rw [tc.live]
    walk_at "rd"
    exact q
theorem El (S:Src K mg "next_turn" gP) (T:Txt mg) (e2_:Has P w K mg base 2 "refuse_loud" ["rule"] (spP K pH)) (e20_:Has P w K mg base 2 "living_next" ["rule","picture","tally"] (spP K Ej)) (e16_:Has P w K mg base 3 "watched" ["kind","picture"] (spP K mU)):Has P w K mg base 4 "next_turn" ["rule","picture"] (spP K pNx):=by
 refine bz S n5 (by walk_at "2") (fun ds R zq1=>by obtain ⟨_,_,_,_,e,_⟩:=zq1;rw [e];rfl) fun f cdv A outer s H E hr=>⟨_,_,(ai (eM (aY e2_ hr (aa (ae 0 (pv 0)) ah)))
  (ao (aA (aY e20_ hr (aa (ae 0 (pv 0)) (aa (ae 1 (pv 1)) (aa (aY e16_ hr (aa (aI rfl (ae 0 (pv 0)) af (fun _ _=>rfl)) (aa (ae 1 (pv 1)) ah))) ah))))))),?_⟩
 rintro ds R ⟨k,bo,st,xs,rfl,hk,h0,hp,hl,q⟩
 walk_at "sl"
 walk_at "rd"
 refine ⟨k,bo,st,rfl,h0,?_⟩
 unfold rl
 walk_at "rd"
 refine ⟨k,xs,rfl,hk,hp,hl,fun kvs tc=>?_⟩
 walk_at "rd"
 refine ⟨k,bo,st,xs,kvs,rfl,hk,hp,hl,tc,?_⟩
 walk_at "rd"
 exact q
end
end My
namespace My
open PySem L2 VL
noncomputable def fr (p:Nat->Bool) (w:Nat):List Nat:=(List.range w).filter p
theorem xN (p:Nat->Bool) (w:Nat):fr p (w+1)=fr p w++if p w=true then [w] else []:=by
 unfold fr
 rw [List.range_succ,List.filter_append]
 congr 1
 by_cases h:p w=true <;> simp [h]
theorem pJ (l:List Nat) (lo:Int):(l.map fun (i:Nat)=>D.int (lo+(i:Int)))=(l.map fun (i:Nat)=>lo+(i:Int)).map D.int:=by rw [List.map_map];rfl
theorem gT (l:List Nat) (lo:Int):flats (l.map fun (i:Nat)=>D.int (lo+(i:Int)))=true:=by
 rw [show (l.map fun (i:Nat)=>D.int (lo+(i:Int)))=(l.map fun (i:Nat)=>lo+(i:Int)).map D.int by rw [List.map_map];rfl]
 exact bj _
theorem uJ (p:Nat->Bool) (b:Bool) (w:Nat):fr (fun x=>if x=w then b else p x) (w+1)=fr p w++if b=true then [w] else []:=by
 rw [xN]
 congr 1
 ·unfold fr
  refine List.filter_congr fun x hx=>?_
  have:=List.mem_range.mp hx
  rw [if_neg (by lia)]
 ·rw [if_pos rfl]
theorem hU {T:List Sl}:∀(r:List Sl) (k:Nat),bR 1 [0] T (k+1) r=r
 | [],_=>rfl
 | s::r,k=>by
  have:([0]:List Nat).idxOf? (k+1)=none:=by simp [List.idxOf?,List.findIdx?_cons]
  unfold bR
  rw [this,hU r (k+1)]
theorem km {ad:Option Addr} {pn pn2:List Int} {rest:List Sl} {x:Sl}:backS 1 [0] (.pen ad pn::rest) [x,.pen ad pn2]=.pen ad pn2::rest:=by
 show bR 1 [0] _ 0 _=_
 unfold bR
 rw [hU]
 rfl
theorem pK {g:Int->D} {ve:VT} {ad:Option Addr} {pn:List Int} {rest:List Sl} {QN:List D->List Sl->Prop} {vt:VTT} {lo:Int} {n b:Nat} (hb:b+n<=1000000) (hp:Pn b pn)
  (hve:∀(x:Int) (pn':List Int) (Q:VR->List Sl->Prop),Q (.d (g x)) [.val (.int x),.pen ad pn']->ve [.val (.int x),.pen ad pn'] Q)
  (hvt:∀(b':Nat) (pn':List Int) (x:Int) (A:Bool->List Sl->Prop),Pn b' pn'->b'<=1000000->(∀v pn2,Pn (b'+1) pn2->A v [.val (.int x),.pen ad pn2])->vt [.val (.int x),.pen ad pn'] A)
  (q:∀(p:Nat->Bool) pn',Pn (b+n) pn'->QN ((fr p n).map fun (i:Nat)=>g (lo+(i:Int))) (.pen ad pn'::rest)):gZ 1 [0] (vgN 0) vt ve QN (rg lo n) (.pen ad pn::rest):=by
 refine sf (fun i ys S2=>∃(p:Nat->Bool) (pn':List Int),Pn (b+i) pn'/\ys=((fr p i).map fun (i:Nat)=>g (lo+(i:Int)))/\S2=.pen ad pn'::rest) (by lia) ⟨fun _=>false,pn,hp,rfl,rfl⟩ ?_ ?_
 ·rintro i ys S2 hi ⟨p,pn',h1,rfl,rfl⟩
  refine ⟨(by show 0 < _;simp [bA]),?_⟩
  show vt [.val (.int (lo+(i:Int))),.pen ad pn'] _
  refine hvt (b+i) pn' _ _ h1 (by lia) fun v pn2 h2=>?_
  cases v with
  | true=>
   refine fR (fun _=>?_) (fun e=>nomatch e)
   refine hve _ _ _ ?_
   refine my ?_
   rw [km]
   exact ⟨fun x=>if x=i then true else p x,pn2,h2,by rw [uJ,List.map_append];rfl,rfl⟩
  | false=>
   refine fR (fun e=>nomatch e) (fun _=>?_)
   rw [km]
   exact ⟨fun x=>if x=i then false else p x,pn2,h2,by rw [uJ,List.map_append];simp,rfl⟩
 ·rintro ys S2 ⟨p,pn',h1,rfl,rfl⟩
  exact q p pn' h1
theorem pL {ad:Option Addr} {pn:List Int} {rest:List Sl} {QN:List D->List Sl->Prop} {vt:VTT} {lo:Int} {n b:Nat} (hb:b+n<=1000000) (hp:Pn b pn)
  (hvt:∀(b':Nat) (pn':List Int) (x:Int) (A:Bool->List Sl->Prop),Pn b' pn'->b'<=1000000->(∀v pn2,Pn (b'+1) pn2->A v [.val (.int x),.pen ad pn2])->vt [.val (.int x),.pen ad pn'] A)
  (q:∀(p:Nat->Bool) pn',Pn (b+n) pn'->QN ((fr p n).map fun (i:Nat)=>D.int (lo+(i:Int))) (.pen ad pn'::rest)):gZ 1 [0] (vgN 0) vt (oN (lX 0)) QN (rg lo n) (.pen ad pn::rest):=
 pK (g:=D.int) hb hp (fun x pn' Q h=>⟨.d (.int x),rfl,rfl,h⟩) hvt q
theorem Em {r:Int} (h0:0<=r) (h1:r < 3):∃k,Kd k/\atI [D.int 4,.int 6,.int 8] r=some (.int k):=by
 have:r=0\/r=1\/r=2:=by lia
 rcases this with rfl | rfl | rfl
 ·exact ⟨4,.inl rfl,rfl⟩
 ·exact ⟨6,.inr (.inl rfl),rfl⟩
 ·exact ⟨8,.inr (.inr rfl),rfl⟩
noncomputable def pM:List Int->List D->(D->List Int->Prop)->Prop:=fun pn ds R=>∃b:Nat,ds=[]/\Pn b pn/\b<=1000/\∀(x:Int) pn',Pn (b+4) pn'->R (.int x) pn'
theorem BN {p:Nat->Bool} {n:Nat} {lo:Int} (hlo:1<=lo):(0:Int)∉(fr p n).map fun (i:Nat)=>lo+(i:Int):=fun z=>by
 obtain ⟨i,_,e⟩:=List.mem_map.mp z
 lia
noncomputable def fol (l:List (List Int)):List (List Int×D):=l.foldl (fun kvs x=>b7 kvs x (D.bl true)) []
theorem uK (l:List (List Int)) (c:List Int):fol (l++[c])=b7 (fol l) c (.bl true):=by unfold fol;rw [List.foldl_append];rfl
theorem mX {l:List (List Int)} {c:List Int}:c∈(fol l).map (·.1)↔c∈l:=(gK (ky:=fun p=>p) (f:=fun _=>D.bl true) l []).trans (by simp)
theorem qz {m:List Int} (h:(kvs.map (·.1)).Nodup):((b7 kvs m d).map (·.1)).Nodup:=by
 unfold b7
 by_cases hm:m∈kvs.map (·.1)
 ·rw [if_pos hm,cY];exact h
 ·rw [if_neg hm,List.map_append,List.nodup_append]
  exact ⟨h,by simp,fun x hx y hy z=>hm (by cases List.mem_singleton.mp hy;exact (show x=m from z)▸hx)⟩
theorem qA:∀l:List (List Int),((fol l).map (·.1)).Nodup:=fun l=>by
 have:∀(l:List (List Int)) (kvs:List (List Int×D)),(kvs.map (·.1)).Nodup->((l.foldl (fun kvs x=>b7 kvs x (D.bl true)) kvs).map (·.1)).Nodup:=fun l=>by
  induction l with
  | nil=>exact fun _ h=>h
  | cons x l ih=>exact fun kvs h=>ih _ (qz h)
 exact this l [] List.nodup_nil
theorem xO:∀l:List (List Int),(fol l).length<=l.length:=fun l=>by
 have:=n9 (qA l) (g:=l) fun x hx=>mX.mp hx
 rwa [List.length_map] at this
theorem Wt.upd {l ys l' ys':List (List Int)} {m:List Int} (h:Wt l ys kvs) (hk:∀c,(c∈l'\/c∈ys')↔((c∈l\/c∈ys)\/c=m)) (hc:∀c,c≠m->l'.count c=l.count c) (hd:d=.int (l'.count m)) (hl:l.length+ys.length+1<=l'.length+ys'.length):Wt l' ys' (b7 kvs m d):=by
 have hlen:=h.len
 unfold b7
 by_cases hm:m∈kvs.map (·.1)
 ·rw [if_pos hm]
  have ek:(kvs.map fun x=>if x.1=m then (x.1,d) else x).map (·.1)=kvs.map (·.1):=cY kvs m _
  refine ⟨by rw [ek];exact h.nd,fun c=>?_,fun p hp=>?_,by rw [List.length_map];lia⟩
  ·rw [ek,h.keys c,hk]
   constructor
   ·exact .inl
   ·rintro (z | z)
    ·exact z
    ·subst z;exact (h.keys _).mp hm
  ·obtain ⟨q,hq,rfl⟩:=List.mem_map.mp hp
   by_cases e:q.1=m
   ·rw [if_pos e]
    show d=_
    rw [hd,e]
   ·rw [if_neg e,hc _ e]
    exact h.vals q hq
 ·rw [if_neg hm]
  refine ⟨?_,fun c=>?_,fun p hp=>?_,by rw [List.length_append,List.length_singleton];lia⟩
  ·rw [List.map_append,List.nodup_append]
   exact ⟨h.nd,by simp,fun x hx y hy z=>hm (by cases List.mem_singleton.mp hy;exact (show x=m from z)▸hx)⟩
  ·rw [List.map_append,List.mem_append,h.keys c,hk];simp
  ·rcases List.mem_append.mp hp with hp | hp
   ·have:p.1≠m:=fun z=>hm (List.mem_map.mpr ⟨p,hp,z⟩)
    rw [hc _ this]
    exact h.vals p hp
   ·cases List.mem_singleton.mp hp
    exact hd
noncomputable def eB3 (bs:List Bool):D:=.tup (bs.map D.bl)
theorem xP:Enc 1 eB3:=An.tup
noncomputable def zf:List Int->List D->(D->List Int->Prop)->Prop:=fun pn ds R=>∃b:Nat,ds=[]/\Pn b pn/\b<=2000/\∀(k:Int) (bo sy:List Int) pn',Kd k->0∉bo->bo.length<=20->Pn (b+40) pn'->R (rl k bo sy) pn'
noncomputable def uL:List Int->List D->(D->List Int->Prop)->Prop:=fun pn ds R=>∃b:Nat,ds=[]/\Pn b pn/\b<=500/\∀mss pn',Pic 3 mss->mss.length<=11->Pn (b+60) pn'->R (eL mss) pn'
noncomputable def uM:List Int->List D->(D->List Int->Prop)->Prop:=fun pn ds R=>∃b:Nat,ds=[]/\Pn b pn/\b<=600/\∀(k:Int) (bo sy:List Int) mss pn',Kd k->0∉bo->bo.length<=20->Pic 3 mss->mss.length<=11->Pn (b+1) pn'->R (.tup [rl k bo sy,eL mss]) pn'
noncomputable def oi:List D->(D->Prop)->Prop:=fun ds R=>∃k,ds=[.int k]/\Kd k/\R (eL (nr k))
noncomputable def uN:List D->(D->Prop)->Prop:=fun ds R=>∃k bo st xs,ds=[rl k bo st,eL xs]/\Kd k/\(∀p∈xs,Pr p)/\xs.length<=15625/\R (eL (nx k bo st xs))
noncomputable def zg (c:Addr):List D->(D->Prop)->Prop:=fun ds R=>∃r p1 p2,ds=[r,p1,p2]/\xK c [r] c/\R (.bl true)
end My
namespace My
open PySem L2 VL
noncomputable def mxI (ns:List Int):Int:=-(mnI (ns.map fun x=>-x))
theorem uO {M:Int} (h:M∈ns) (h2:∀a∈ns,a<=M):M=mxI ns:=by
 have:-M=mnI (ns.map fun x=>-x):=kQ (List.mem_map.mpr ⟨M,h,rfl⟩) fun a ha=>by
  obtain ⟨b,hb,rfl⟩:=List.mem_map.mp ha
  have:=h2 b hb
  lia
 unfold mxI
 lia
noncomputable def bx (mss:List (List Int)):List Int:=[mnI (mss.map fs),mnI (mss.map sn),mxI (mss.map fs)-mnI (mss.map fs)+1,mxI (mss.map sn)-mnI (mss.map sn)+1]
noncomputable def uP:List D->(D->Prop)->Prop:=fun ds R=>∃mss dx dy,ds=[eL mss,eT [dx,dy]]/\Pc mss/\R (eL (mss.map (mv dx dy)))
noncomputable def lD:List D->(D->Prop)->Prop:=fun ds R=>∃mss,ds=[eL mss]/\Pc mss/\R (eL (aC mss))
noncomputable def En:List D->(D->Prop)->Prop:=fun ds R=>∃mss,ds=[eL mss]/\Pc mss/\(mss=[]->R .non)/\(mss≠[]->R (eT (bx mss)))
noncomputable def mvb (a b:List (List Int)):List Int:=[fs (b.headD [])-fs (a.headD []),sn (b.headD [])-sn (a.headD [])]
inductive Ft where
 | on | gone (t:Int) | comes (m n:Int) (v:List Int)
deriving DecidableEq
noncomputable def fE:Ft->D
 | .on=>.tup [.str "on"]
 | .gone t=>.tup [.str "gone",.int t]
 | .comes m n v=>.tup [.str "comes",.int m,.int n,eT v]
noncomputable def Un (f:Nat->List (List Int)) (t:Nat):Prop:=(∀m,m < t->f m≠[])/\∀m n,m < n->n < t->aC (f m)≠aC (f n)
noncomputable def Fit (k:Int) (bo st:List Int) (T:Nat) (xs:List (List Int)):Prop:=∀m,m<=T->Pc (aft k bo st m xs)
noncomputable def kvf (f:Nat->List (List Int)) (i:Nat):KV2:=(List.range i).map fun m=>(aC (f m),D.tup [.int m,eL (f m)])
theorem uQ (f:Nat->List (List Int)) (i:Nat):kvf f (i+1)=kvf f i++[(aC (f i),D.tup [.int i,eL (f i)])]:=by unfold kvf;rw [List.range_succ,List.map_append];rfl
theorem xQ {f:Nat->List (List Int)} {i:Nat} {key:List (List Int)}:key∈(kvf f i).map (·.1)↔∃m,m < i/\aC (f m)=key:=by
 unfold kvf
 simp [List.mem_map,List.mem_range]
theorem xR {f:Nat->List (List Int)} {i:Nat} {key:List (List Int)} (h:key∈(kvf f i).map (·.1)):∃m,m < i/\aC (f m)=key/\e8 (kvf f i) key=some (D.tup [.int m,eL (f m)]):=by
 unfold e8
 cases hf:(kvf f i).find? fun x=>decide (x.1=key) with
 | none=>
  obtain ⟨x,hx,e⟩:=List.mem_map.mp h
  have:=List.find?_eq_none.mp hf x hx
  simp [e] at this
 | some x=>
  have h1:=List.mem_of_find?_eq_some hf
  have h2:=List.find?_some hf
  unfold kvf at h1
  obtain ⟨m,hm,rfl⟩:=List.mem_map.mp h1
  exact ⟨m,List.mem_range.mp hm,of_decide_eq_true h2,rfl⟩
theorem xS {f:Nat->List (List Int)} {i:Nat} (h:aC (f i)∉(kvf f i).map (·.1)):el (kvf f i) (aC (f i)) (D.tup [.int i,eL (f i)])=kvf f (i+1):=by
 unfold el
 rw [if_neg h,uQ]
theorem Un.succ {f:Nat->List (List Int)} {i:Nat} (h:Un f i) (h1:f i≠[]) (h2:aC (f i)∉(kvf f i).map (·.1)):Un f (i+1):=
 ⟨fun m hm=>by
  by_cases e:m=i
  ·subst e;exact h1
  ·exact h.1 m (by lia),fun m n hm hn=>by
  by_cases e:n=i
  ·subst e;exact fun z=>h2 (xQ.mpr ⟨m,hm,z⟩)
  ·exact h.2 m n hm (by lia)⟩
noncomputable def pMB:List D->(D->Prop)->Prop:=fun ds R=>∃a b,ds=[eL a,eL b]/\a≠[]/\b≠[]/\Pc a/\Pc b/\R (eT (mvb a b))
noncomputable def Eo:List D->(D->Prop)->Prop:=fun ds R=>∃mss,ds=[eL mss]/\Pc mss/\R (kT2 (aC mss))
noncomputable def zh:List D->(D->Prop)->Prop:=fun ds R=>∃k bo st xs,∃T:Nat,ds=[rl k bo st,eL xs,.int T]/\Kd k/\0∉bo/\T<=1000/\Fit k bo st T xs /\
 (∀t:Nat,t<=T->Un (fun m=>aft k bo st m xs) t->aft k bo st t xs=[]->R (fE (.gone t))) /\
 (∀t m:Nat,t<=T->m < t->Un (fun m=>aft k bo st m xs) t->aft k bo st t xs≠[]->aC (aft k bo st m xs)=aC (aft k bo st t xs)->R (fE (.comes m ((t:Int)-m) (mvb (aft k bo st m xs) (aft k bo st t xs))))) /\
 (Un (fun m=>aft k bo st m xs) (T+1)->R (fE .on))
noncomputable def Ep (c:Addr) (ds:List D) (C:Addr):Prop:=∃r p1 p2,ds=[r,p1,p2]/\xK c [r] C
section
variable {P:Program} {w:World} {K:PySem.W.Frag} {mg:Str->Option Value} {base:Heap}
theorem uR (S:Src K mg "moved" lh) (T:Txt mg):Has P w K mg base 1 "moved" ["picture","move"] (spP K uP):=by
 refine bz S lq (by walk_at "2") (fun ds R zq1=>by obtain ⟨_,_,_,e,_⟩:=zq1;rw [e];rfl) fun f cdv A outer s H E hr=>⟨_,_,(ai (gC (ae 1 (pv 1)) (bG (n:=2) rfl rfl (aw (au (aq (i:=2) lq.nd rfl (Or.inr rfl) (Or.inl rfl))) (aw (au (aq (i:=3) lq.nd rfl (Or.inr rfl) (Or.inl rfl))) br))))
  (ao (aA (aJ (bN (tg:=["x","y"]) (cs:=["dx","dy"]) (ix:=[2,3]) (aS (ak lh) ["picture","move","dx","dy"] (by decide +kernel)) rfl (bM (by decide) (by decide)) (by decide) (bg rfl (ae 0 (pv 0))) (fun _ _ _ _=>(bG (n:=2) rfl rfl (aw (au (aq (i:=0) (show (["x","y","dx","dy"]:List Str).Nodup by decide +kernel) rfl (Or.inl rfl) (by first | exact Or.inl rfl | exact Or.inr rfl))) (aw (au (aq (i:=1) (show (["x","y","dx","dy"]:List Str).Nodup by decide +kernel) rfl (Or.inl rfl) (by first | exact Or.inl rfl | exact Or.inr rfl))) br)))) (fun _ _ _ _=>bZ) (fun _ _ _ _=>(aj (aa (az aU aM (ae 0 (pv 0)) (ae 2 (pv 2))) (aa (az aU aM (ae 1 (pv 1)) (ae 3 (pv 3))) ah))))))))),?_⟩
 rintro ds R ⟨mss,dx,dy,rfl,hp,q⟩
 walk_at "sl"
 walk_at "rd"
 refine comp_map (f:=fun m=>eT (mv dx dy m)) (by have:=hp.2;lia) (fun m hm A B hA=>?_) ?_
 ·obtain ⟨x,y,rfl⟩:=hp.1 m hm
  dsimp only [bA,List.replicate,List.map_cons,List.map_nil,List.cons_append,List.nil_append]
  walk_at "rd"
  exact hA _ rfl
 ·walk_at "rd"
  rw [show mss.map (fun m=>eT (mv dx dy m))=(mss.map (mv dx dy)).map eT by rw [List.map_map];rfl]
  exact q
theorem BO (S:Src K mg "box_of" jo) (T:Txt mg):Has P w K mg base 1 "box_of" ["picture"] (spP K En):=by
 refine bz S iy (by walk_at "1") (fun ds R zq1=>by obtain ⟨_,e,_⟩:=zq1;rw [e];rfl) fun f cdv A outer s H E hr=>⟨_,_,(ai (aW (cw (nI rfl (ae 0 (pv 0)))) (ao (aA bX)) aG)
  (ai (i4 (ii:=1) (tg:=["x","y"]) (cs:=[]) (ix:=[]) iy.nd rfl (Or.inl rfl) (Or.inl rfl) (aS (ak jo) ["picture","columns","rows","left","top"] (by decide +kernel)) rfl (bM (by decide) (by decide)) (by decide) (bg rfl (ae 0 (pv 0))) (fun _ _ _ _=>(bG (n:=2) rfl rfl (aw (au (aq (i:=0) (show (["x","y"]:List Str).Nodup by decide +kernel) rfl (Or.inl rfl) (by first | exact Or.inl rfl | exact Or.inr rfl))) (aw (au (aq (i:=1) (show (["x","y"]:List Str).Nodup by decide +kernel) rfl (Or.inl rfl) (by first | exact Or.inl rfl | exact Or.inr rfl))) br)))) (fun _ _ _ _=>bZ) (fun _ _ _ _=>(aP (ae 0 (pv 0)))))
  (ai (i4 (ii:=2) (tg:=["x","y"]) (cs:=[]) (ix:=[]) iy.nd rfl (Or.inl rfl) (Or.inl rfl) (aS (ak jo) ["picture","columns","rows","left","top"] (by decide +kernel)) rfl (bM (by decide) (by decide)) (by decide) (bg rfl (ae 0 (pv 0))) (fun _ _ _ _=>(bG (n:=2) rfl rfl (aw (au (aq (i:=0) (show (["x","y"]:List Str).Nodup by decide +kernel) rfl (Or.inl rfl) (by first | exact Or.inl rfl | exact Or.inr rfl))) (aw (au (aq (i:=1) (show (["x","y"]:List Str).Nodup by decide +kernel) rfl (Or.inl rfl) (by first | exact Or.inl rfl | exact Or.inr rfl))) br)))) (fun _ _ _ _=>bZ) (fun _ _ _ _=>(aP (ae 1 (pv 1)))))
  (ai (wt (fun _ h=>zH (i:=3) (j:=4) rfl iy.nd rfl rfl (by decide) rfl rfl h rfl) (aa (bh (sC (K:=K) rfl rfl) kM (by rfl) T.min_ rK (aa (ae 1 (pv 1)) ah)) (aa (bh (sC (K:=K) rfl rfl) kM (by rfl) T.min_ rK (aa (ae 2 (pv 2)) ah)) ah)))
  (ao (aA (aj (aa (aP (ae 3 (pv 3))) (aa (aP (ae 4 (pv 4))) (aa (az aU aM (az cr aM (bh (sE (K:=K) rfl rfl) kM (by rfl) T.max_ rJ (aa (ae 1 (pv 1)) ah)) (ae 3 (pv 3))) af) (aa (az aU aM (az cr aM (bh (sE (K:=K) rfl rfl) kM (by rfl) T.max_ rJ (aa (ae 2 (pv 2)) ah)) (ae 4 (pv 4))) af) ah))))))))))),?_⟩
 rintro ds R ⟨mss,rfl,hp,q1,q2⟩
 walk_at "sl"
 walk_at "rd"
 by_cases h0:mss=[]
 ·subst h0
  refine gJ (d:=eL []) (b:=false) rfl rfl ?_
  walk_at "rc"
  exact q1 rfl
 ·have e0:tru (eL mss)=some true:=by cases mss with | nil=>exact absurd rfl h0 | cons a r=>rfl
  have n1:mss.map fs≠[]:=by simpa using h0
  have n2:mss.map sn≠[]:=by simpa using h0
  refine gJ (d:=eL mss) (b:=true) rfl e0 ?_
  walk_at "rc"
  refine comp_map (f:=fun m=>.int (fs m)) (by have:=hp.2;lia) (fun m hm A B hA=>?_) ?_
  ·obtain ⟨x,y,rfl⟩:=hp.1 m hm
   dsimp only [bA,List.replicate,List.map_cons,List.map_nil,List.cons_append,List.nil_append]
   walk_at "rd"
   exact hA _ rfl
  walk_at "rd"
  refine comp_map (f:=fun m=>.int (sn m)) (by have:=hp.2;lia) (fun m hm A B hA=>?_) ?_
  ·obtain ⟨x,y,rfl⟩:=hp.1 m hm
   dsimp only [bA,List.replicate,List.map_cons,List.map_nil,List.cons_append,List.nil_append]
   walk_at "rd"
   exact hA _ rfl
  walk_at "rd"
  rw [show mss.map (fun m=>D.int (fs m))=(mss.map fs).map D.int by rw [List.map_map];rfl,show mss.map (fun m=>D.int (sn m))=(mss.map sn).map D.int by rw [List.map_map];rfl]
  refine kO n1 fun M1 h1 h2=>?_
  obtain rfl:=kQ h1 h2
  walk_at "rd"
  refine kO n2 fun M2 h3 h4=>?_
  obtain rfl:=kQ h3 h4
  walk_at "rd"
  refine kO n1 fun M3 h5 h6=>?_
  obtain rfl:=uO h5 h6
  walk_at "rd"
  refine kO n2 fun M4 h7 h8=>?_
  obtain rfl:=uO h7 h8
  walk_at "rd"
  exact q2 h0
theorem qB (S:Src K mg "at_nought" gM) (T:Txt mg) (e30_:Has P w K mg base 1 "box_of" ["picture"] (spP K En)) (e17_:Has P w K mg base 1 "moved" ["picture","move"] (spP K uP)):Has P w K mg base 2 "at_nought" ["picture"] (spP K lD):=by
 refine bz S jq (by walk_at "1") (fun ds R zq1=>by obtain ⟨_,e,_⟩:=zq1;rw [e];rfl) fun f cdv A outer s H E hr=>⟨_,_,(ai (aB (i:=1) jq.nd rfl (Or.inl rfl) (aY e30_ hr (aa (ae 0 (pv 0)) ah)))
  (ai (aW (aO iO lZ (ae 1 (pv 1)) bX (aK _)) (ao (aA (aJ (ba ah)))) aG)
  (ao (aA (aY e17_ hr (aa (ae 0 (pv 0)) (aa (aj (aa (gV dY (aI rfl (ae 1 (pv 1)) af (fun _ _=>rfl))) (aa (gV dY (aI rfl (ae 1 (pv 1)) af (fun _ _=>rfl))) ah))) ah))))))),?_⟩
 rintro ds R ⟨mss,rfl,hp,q⟩
 walk_at "sl"
 walk_at "rd"
 refine ⟨mss,rfl,hp,fun h=>?_,fun h=>?_⟩
 ·subst h
  walk_at "rc"
  exact q
 ·walk_at "rc"
  refine ⟨mss,_,_,rfl,hp,?_⟩
  walk_at "rd"
  exact q
theorem Er (S:Src K mg "move_between" dP) (T:Txt mg):Has P w K mg base 1 "move_between" ["one","other"] (spP K pMB):=by
 refine bz S jF (by walk_at "2") (fun ds R zq1=>by obtain ⟨_,_,e,_⟩:=zq1;rw [e];rfl) fun f cdv A outer s H E hr=>⟨_,_,(ao (aA (aj (aa (az cr aM (aI rfl (aI rfl (ae 1 (pv 1)) af (fun _ _=>rfl)) af (fun _ _=>rfl)) (aI rfl (aI rfl (ae 0 (pv 0)) af (fun _ _=>rfl)) af (fun _ _=>rfl))) (aa (az cr aM (aI rfl (aI rfl (ae 1 (pv 1)) af (fun _ _=>rfl)) af (fun _ _=>rfl)) (aI rfl (aI rfl (ae 0 (pv 0)) af (fun _ _=>rfl)) af (fun _ _=>rfl))) ah))))),?_⟩
 rintro ds R ⟨a,b,rfl,ha,hb,pa,pb,q⟩
 match a,b,ha,hb,pa,pb,q with
 | c::a,d::b,_,_,pa,pb,q=>
  obtain ⟨x,y,rfl⟩:=pa.1 c List.mem_cons_self
  obtain ⟨u,v,rfl⟩:=pb.1 d List.mem_cons_self
  walk_at "sl"
  walk_at "rd"
  refine bS rfl rfl (cB (xs:=([u,v]::b).map eT) (j:=0) rfl) ?_
  walk_at "rd"
  refine bS rfl rfl (cB (xs:=([x,y]::a).map eT) (j:=0) rfl) ?_
  walk_at "rd"
  refine bS rfl rfl (cB (xs:=([u,v]::b).map eT) (j:=0) rfl) ?_
  walk_at "rd"
  refine bS rfl rfl (cB (xs:=([x,y]::a).map eT) (j:=0) rfl) ?_
  walk_at "rd"
  exact q
theorem BP (S:Src K mg "key_of" n6) (T:Txt mg) (e3_:Has P w K mg base 2 "at_nought" ["picture"] (spP K lD)):Has P w K mg base 3 "key_of" ["picture"] (spP K Eo):=by
 refine bz S xF (by walk_at "1") (fun ds R zq1=>by obtain ⟨_,e,_⟩:=zq1;rw [e];rfl) fun f cdv A outer s H E hr=>⟨_,_,(ao (aA (fh rfl (by rfl) T.tuple_ (aa (aY e3_ hr (aa (ae 0 (pv 0)) ah)) ah)))),?_⟩
 rintro ds R ⟨mss,rfl,hp,q⟩
 walk_at "sl"
 walk_at "rd"
 refine ⟨mss,rfl,hp,?_⟩
 walk_at "rd"
 refine kK rfl (cV _) ?_
 walk_at "rd"
 exact q
theorem xT (S:Src K mg "fate" ui) (T:Txt mg) (e2_:Has P w K mg base 2 "refuse_loud" ["rule"] (spP K pH)) (e7_:Has P w K mg base 4 "next_turn" ["rule","picture"] (spP K pNx)) (e24_:Has P w K mg base 3 "key_of" ["picture"] (spP K Eo)) (e6_:Has P w K mg base 1 "move_between" ["one","other"] (spP K pMB)):Has P w K mg base 5 "fate" ["rule","picture","most"] (spP K zh):=by
 refine bz S eE (by walk_at "3") (fun ds R zq1=>by obtain ⟨_,_,_,_,_,e,_⟩:=zq1;rw [e];rfl) fun f cdv A outer s H E hr=>⟨_,_,(ai (eM (aY e2_ hr (aa (ae 0 (pv 0)) ah)))
  (ai (xC 3 (fun _ h=>ck (i:=3) eE.nd rfl (Or.inl rfl) h))
  (ai (aB (i:=4) eE.nd rfl (Or.inl rfl) (ae 1 (pv 1)))
  (ai (bP PassesOwn.never rfl (cy rfl T.range (aa (az aU aM (ae 2 (pv 2)) af) ah)) (au (aq (i:=5) eE.nd rfl (Or.inl rfl) (Or.inl rfl))) (ai (aW (aO lN aM (ae 5 (pv 5)) af (aK _)) (ao (aB (i:=4) eE.nd rfl (Or.inl rfl) (aY e7_ hr (aa (ae 0 (pv 0)) (aa (ae 4 (pv 4)) ah))))) aG)
  (ai (aW (cw (nI rfl (ae 4 (pv 4)))) (ao (aA (aj (aa kF (aa (aP (ae 5 (pv 5))) ah))))) aG)
  (ai (aB (i:=6) eE.nd rfl (Or.inl rfl) (aY e24_ hr (aa (ae 4 (pv 4)) ah)))
  (ai (aW (BC 3 rfl hr.units (pv 3) (ae 6 (pv 6))) (ai (gC (BD 3 rfl hr.units (pv 3) (ae 6 (pv 6)) (fun _ _=>rfl)) (bG (n:=2) rfl rfl (aw (au (aq (i:=7) eE.nd rfl (Or.inl rfl) (Or.inl rfl))) (aw (au (aq (i:=8) eE.nd rfl (Or.inl rfl) (Or.inl rfl))) br))))
  (ao (aA (aj (aa kF (aa (aP (ae 7 (pv 7))) (aa (az cr aM (ae 5 (pv 5)) (ae 7 (pv 7))) (aa (aY e6_ hr (aa (ae 8 (pv 8)) (aa (ae 4 (pv 4)) ah))) ah)))))))) aG)
  (ao (xD 3 rfl hr.units (pv 3) (aj (aa (ae 5 (pv 5)) (aa (ae 4 (pv 4)) ah))) (ae 6 (pv 6)))))))))
  (ao (aA (aj (aa kF ah)))))))),?_⟩
 rintro ds R ⟨k,bo,st,xs,T',rfl,hk,h0,hT,fit,q1,q2,q3⟩
 walk_at "sl"
 walk_at "rd"
 refine ⟨k,bo,st,rfl,h0,?_⟩
 walk_at "rd"
 refine eP (fun i S=>Un (fun m=>aft k bo st m xs) i/\∃v5 v6 v7 v8,S=[.val (rl k bo st),.val (eL xs),.val (.int T'),od2 (kvf (fun m=>aft k bo st m xs) i),.val (eL (aft k bo st (i-1) xs)),v5,v6,v7,v8]) ⟨⟨fun _ h=>absurd h (Nat.not_lt_zero _),fun _ _ _ h=>absurd h (Nat.not_lt_zero _)⟩,_,_,_,_,rfl⟩ ?_ ?_
 ·rintro i S2 hi ⟨un,v5,v6,v7,v8,rfl⟩
  have hi':i<=T':=by lia
  walk_at "rd"
  refine oV (fun S'=>S'=[.val (rl k bo st),.val (eL xs),.val (.int T'),od2 (kvf (fun m=>aft k bo st m xs) i),.val (eL (aft k bo st i xs)),.val (.int (0+(i:Int))),v6,v7,v8]) ?_ ?_ ?_
  ·rintro S' rfl
   have pc:=fit i hi'
   walk_at "rd"
   rw [Int.zero_add]
   by_cases he:aft k bo st i xs=[]
   ·refine gJ (d:=eL (aft k bo st i xs)) (b:=false) rfl (by rw [he];rfl) ?_
    walk_at "rc"
    exact q1 i hi' un he
   ·refine gJ (d:=eL (aft k bo st i xs)) (b:=true) rfl (by cases hc:aft k bo st i xs with | nil=>exact absurd hc he | cons a r=>rfl) ?_
    walk_at "rc"
    refine ⟨_,rfl,pc,?_⟩
    walk_at "rd"
    refine BE (kvs:=kvf (fun m=>aft k bo st m xs) i) (ms:=aC (aft k bo st i xs)) rfl rfl ?_
    by_cases hin:aC (aft k bo st i xs)∈(kvf (fun m=>aft k bo st m xs) i).map (·.1)
    ·obtain ⟨m,hm,e1,e2⟩:=xR hin
     rw [decide_eq_true hin]
     walk_at "rc"
     refine BF (kvs:=kvf (fun m=>aft k bo st m xs) i) (ms:=aC (aft k bo st i xs)) rfl rfl e2 ?_
     walk_at "rc"
     refine ⟨_,_,rfl,un.1 m hm,he,fit m (by lia),pc,?_⟩
     walk_at "rc"
     exact q2 i m hi' hm un he e1
    ·rw [decide_eq_false hin]
     walk_at "rc"
     refine uf (kvs:=kvf (fun m=>aft k bo st m xs) i) (ms:=aC (aft k bo st i xs)) rfl rfl (by unfold kvf;rw [List.length_map,List.length_range];lia) ?_
     dsimp only [List.set_cons_zero,List.set_cons_succ]
     have ep:=xS (f:=fun m=>aft k bo st m xs) hin
     exact ⟨un.succ he hin,_,_,_,_,by rw [<- ep];rfl⟩
  ·intro nx hnx c1
   have pc:=fit (i-1) (by lia)
   walk_at "rd"
   refine ⟨k,bo,st,_,rfl,hk,h0,pc.1,by have:=pc.2;lia,?_⟩
   walk_at "rd"
   rw [show My.nx k bo st (aft k bo st (i-1) xs)=aft k bo st i xs by obtain ⟨j,rfl⟩:∃j,i=j+1:=⟨i-1,by lia⟩;rfl]
   exact hnx _ rfl
  ·intro nx hnx c1
   obtain rfl:i=0:=by lia
   walk_at "rd"
   exact hnx _ rfl
 ·rintro S2 ⟨un,v5,v6,v7,v8,rfl⟩
  walk_at "rd"
  exact q3 (by rwa [show T'+1=((T':Int)+1-0).toNat by lia])
end
end My
namespace My
open PySem L2 VL
noncomputable def uS:List D->(D->Prop)->Prop:=fun ds R=>∃k,ds=[.int k]/\Kd k/\R (eL (tgK k))
noncomputable def eW:List D->(D->Prop)->Prop:=fun ds R=>∃mss t,ds=[eL mss,eT t]/\Pc mss/\Tn t/\R (eL (aL t mss))
section
variable {P:Program} {w:World} {K:PySem.W.Frag} {mg:Str->Option Value} {base:Heap}
theorem mY {a_SQUARE_TURNINGS a_SIX_TURNINGS:Addr} (S:Src K mg "turnings" gN) (T:Txt mg) (g_SQUARE_TURNINGS:mg "SQUARE_TURNINGS"=some (.ref a_SQUARE_TURNINGS)) (g_SIX_TURNINGS:mg "SIX_TURNINGS"=some (.ref a_SIX_TURNINGS)) (r4:kE K (.ref a_SQUARE_TURNINGS) sq=true) (r6:kE K (.ref a_SIX_TURNINGS) six=true):Has P w K mg base 1 "turnings" ["kind"] (spP K uS):=by
 have r_SQUARE_TURNINGS:∀N H,Rep K N AnyF H (.ref a_SQUARE_TURNINGS) (.tup (sq.map eT)):=fun _ _=>si (v:=.none) r4
 have r_SIX_TURNINGS:∀N H,Rep K N AnyF H (.ref a_SIX_TURNINGS) (.tup (six.map eT)):=fun _ _=>si (v:=.none) r6
 refine bz S nY (by walk_at "1") (fun ds R zq1=>by obtain ⟨_,e,_⟩:=zq1;rw [e];rfl) fun f cdv A outer s H E hr=>⟨_,_,(ao (aA (aJ (fN rfl (by rfl) T.list_ (aa (md (aO cj dX (ae 0 (pv 0)) af (aK _)) (iW (eI (v:=.ref a_SIX_TURNINGS) (by rfl) g_SIX_TURNINGS rfl) r_SIX_TURNINGS) (iW (eI (v:=.ref a_SQUARE_TURNINGS) (by rfl) g_SQUARE_TURNINGS rfl) r_SQUARE_TURNINGS)) ah))))),?_⟩
 rintro ds R ⟨k,rfl,hk,q⟩
 walk_at "sl"
 walk_at "rd"
 refine nG (fun h1=>?_) (fun h1=>?_)
 ·have:k=6:=of_decide_eq_true h1
  subst this
  walk_at "rd"
  exact d8 rfl (cV _) (by walk_at "rd";exact q)
 ·have:k≠6:=of_decide_eq_false h1
  have e:tgK k=sq:=if_neg this
  rw [e] at q
  walk_at "rd"
  exact d8 rfl (cV _) (by walk_at "rd";exact q)
theorem qC (S:Src K mg "turned" iz) (T:Txt mg):Has P w K mg base 1 "turned" ["picture","turning"] (spP K eW):=by
 refine bz S ez (by walk_at "2") (fun ds R zq1=>by obtain ⟨_,_,e,_⟩:=zq1;rw [e];rfl) fun f cdv A outer s H E hr=>⟨_,_,(ai (gC (ae 1 (pv 1)) (bG (n:=4) rfl rfl (aw (au (aq (i:=2) ez.nd rfl (Or.inr rfl) (Or.inl rfl))) (aw (au (aq (i:=3) ez.nd rfl (Or.inr rfl) (Or.inl rfl))) (aw (au (aq (i:=4) ez.nd rfl (Or.inr rfl) (Or.inl rfl))) (aw (au (aq (i:=5) ez.nd rfl (Or.inr rfl) (Or.inl rfl))) br))))))
  (ao (aA (aJ (de rfl rfl (by rfl) T.sorted_ cA (aa (aJ (bN (tg:=["x","y"]) (cs:=["a","b","c","d"]) (ix:=[2,3,4,5]) (aS (ak iz) ["picture","turning","a","b","c","d"] (by decide +kernel)) rfl (bM (by decide) (by decide)) (by decide) (bg rfl (ae 0 (pv 0))) (fun _ _ _ _=>(bG (n:=2) rfl rfl (aw (au (aq (i:=0) (show (["x","y","a","b","c","d"]:List Str).Nodup by decide +kernel) rfl (Or.inl rfl) (by first | exact Or.inl rfl | exact Or.inr rfl))) (aw (au (aq (i:=1) (show (["x","y","a","b","c","d"]:List Str).Nodup by decide +kernel) rfl (Or.inl rfl) (by first | exact Or.inl rfl | exact Or.inr rfl))) br)))) (fun _ _ _ _=>bZ) (fun _ _ _ _=>(aj (aa (az aU aM (az bJ bI (ae 2 (pv 2)) (ae 0 (pv 0))) (az bJ bI (ae 3 (pv 3)) (ae 1 (pv 1)))) (aa (az aU aM (az bJ bI (ae 4 (pv 4)) (ae 0 (pv 0))) (az bJ bI (ae 5 (pv 5)) (ae 1 (pv 1)))) ah)))))) ah)))))),?_⟩
 rintro ds R ⟨mss,t,rfl,hp,⟨a,b,c,d,rfl,ha,hb,hc,hd⟩,q⟩
 walk_at "sl"
 walk_at "rd"
 refine comp_map (f:=fun m=>eT (led m [a,b,c,d])) (by have:=hp.2;lia) (fun m hm A B hA=>?_) ?_
 ·obtain ⟨x,y,rfl⟩:=hp.1 m hm
  dsimp only [bA,List.replicate,List.map_cons,List.map_nil,List.cons_append,List.nil_append]
  walk_at "rd"
  exact hA _ rfl
 ·walk_at "rd"
  rw [show mss.map (fun m=>eT (led m [a,b,c,d]))=(mss.map fun m=>led m [a,b,c,d]).map eT by rw [List.map_map];rfl]
  refine b9 (mss:=mss.map fun m=>led m [a,b,c,d]) rfl ?_ ?_
  ·intro ms hm
   obtain ⟨m,h1,rfl⟩:=List.mem_map.mp hm
   obtain ⟨x,y,rfl⟩:=hp.1 m h1
   simp [led]
  ·walk_at "rd"
   exact q
end
end My
namespace My
open PySem L2 VL
theorem kn {b:List (List Int)} (hb:∀m∈b,Pr m):(aC b).map (mv (mnI (b.map fs)) (mnI (b.map sn)))=b:=by
 unfold aC
 rw [List.map_map]
 conv=>rhs;rw [<- List.map_id b]
 refine List.map_congr_left fun m hm=>?_
 obtain ⟨x,y,rfl⟩:=hb m hm
 show [_,_]=[x,y]
 congr 1
 ·lia
 ·congr 1
  lia
noncomputable def mvd (a b:List (List Int)):List Int->List Int:=mv (fs (b.headD [])-fs (a.headD [])) (sn (b.headD [])-sn (a.headD []))
theorem pN {a b:List (List Int)} (ha:∀m∈a,Pr m) (hb:∀m∈b,Pr m) (na:a≠[]):aC a=aC b↔a.map (mvd a b)=b:=by
 constructor
 ·intro h
  have h1:=kn hb
  rw [<- h] at h1
  have h2:a.map (mv (mnI (b.map fs)-mnI (a.map fs)) (mnI (b.map sn)-mnI (a.map sn)))=b:=by
   refine Eq.trans ?_ h1
   unfold aC
   rw [List.map_map]
   refine List.map_congr_left fun m hm=>?_
   obtain ⟨x,y,rfl⟩:=ha m hm
   show [_,_]=[_,_]
   congr 1
   ·lia
   ·congr 1
    lia
  match a,na with
  | c::a,_=>
   obtain ⟨x,y,rfl⟩:=ha c List.mem_cons_self
   have h3:mvd ([x,y]::a) b=mv (mnI (b.map fs)-mnI (([x,y]::a).map fs)) (mnI (b.map sn)-mnI (([x,y]::a).map sn)):=by
    unfold mvd
    generalize hM:mnI (b.map fs)-mnI (([x,y]::a).map fs)=M at h2 ⊢
    generalize hN:mnI (b.map sn)-mnI (([x,y]::a).map sn)=N at h2 ⊢
    rw [<- h2]
    show mv (x+M-x) (y+N-y)=_
    congr 1 <;> lia
   rw [h3]
   exact h2
 ·intro h
  rw [<- h]
  exact (ki ha).symm
theorem fA (a:List (List Int)):(aC a).length=a.length:=by unfold aC;rw [List.length_map]
theorem lE (t:List Int) (a:List (List Int)):(aL t a).length=a.length:=by unfold aL;rw [(aQ _).length_eq,List.length_map]
noncomputable def glA (k:Int) (bo st:List Int) (xs:List (List Int)) (m:Nat):Option (List Int):=(tgK k).find? fun t=>decide (aC (aL t xs)=aC (aft k bo st m xs))
noncomputable def gl (k:Int) (bo st:List Int) (xs:List (List Int)):Nat->Option (Nat×List Int)
 | 0=>none
 | n+1=>(gl k bo st xs n).or ((glA k bo st xs (n+1)).map fun t=>(n+1,t))
theorem iG {k:Int} {bo st:List Int} {xs:List (List Int)} {n:Nat} (h:gl k bo st xs n=none):gl k bo st xs (n+1)=(glA k bo st xs (n+1)).map fun t=>(n+1,t):=by
 show (gl k bo st xs n).or _=_
 rw [h];rfl
theorem iH {k:Int} {bo st:List Int} {xs:List (List Int)} {r:Nat×List Int}:∀{n:Nat} (m:Nat),gl k bo st xs n=some r->gl k bo st xs (n+m)=some r
 | _,0,h=>h
 | n,m+1,h=>by
  show (gl k bo st xs (n+m)).or _=_
  rw [iH m h];rfl
theorem pO {α:Type} {p:α->Bool} {t:α}:∀{l:List α} {j:Nat},(∀x∈l.take j,p x=false)->l[j]?=some t->p t=true->l.find? p=some t
 | [],_,_,h,_=>nomatch h
 | x::r,0,_,h,ht=>by
  obtain rfl:x=t:=by simpa using h
  rw [List.find?_cons,ht]
 | x::r,j+1,h0,h,ht=>by
  rw [List.find?_cons,h0 x (by simp)]
  exact pO (j:=j) (fun y hy=>h0 y (by simp [hy])) (by simpa using h) ht
theorem uT {k:Int} {bo st:List Int} {xs:List (List Int)} {m:Nat} (h:∀t∈tgK k,aC (aL t xs)≠aC (aft k bo st m xs)):glA k bo st xs m=none:=List.find?_eq_none.mpr fun t ht=>by simpa using h t ht
theorem mZ {k:Int} {bo st:List Int} {xs:List (List Int)} {t:List Int} {n T j:Nat} (h:gl k bo st xs n=none) (hT:n+1<=T) (h1:∀x∈(tgK k).take j,aC (aL x xs)≠aC (aft k bo st (n+1) xs)) (h2:(tgK k)[j]?=some t) (h3:aC (aL t xs)=aC (aft k bo st (n+1) xs)):gl k bo st xs T=some (n+1,t):=by
 obtain ⟨m,rfl⟩:∃m,T=n+1+m:=⟨T-(n+1),by lia⟩
 refine iH m ?_
 rw [iG h,show glA k bo st xs (n+1)=some t from pO (j:=j) (fun x hx=>decide_eq_false (h1 x hx)) h2 (decide_eq_true h3)]
 rfl
theorem lF {k:Int} {bo st:List Int} {xs:List (List Int)} {n:Nat} (h:gl k bo st xs n=none) (h1:∀t∈tgK k,aC (aL t xs)≠aC (aft k bo st (n+1) xs)):gl k bo st xs (n+1)=none:=by
 rw [iG h,uT h1];rfl
noncomputable def Alk (k:Int) (bo st:List Int) (xs:List (List Int)) (n:Nat):Prop:=∃t∈tgK k,aC (aL t xs)=aC (aft k bo st n xs)
theorem gl_none {k:Int} {bo st:List Int} {xs:List (List Int)}:∀{T:Nat},gl k bo st xs T=none->∀n,1<=n->n<=T->¬Alk k bo st xs n
 | 0,_,n,h1,h2=>by lia
 | T+1,h,n,h1,h2=>by
  have h0:gl k bo st xs T=none:=by
   cases hc:gl k bo st xs T with
   | none=>rfl
   | some r=>rw [iH 1 hc] at h;cases h
  by_cases e:n=T+1
  ·subst e
   rintro ⟨t,ht,e⟩
   rw [iG h0] at h
   have h:glA k bo st xs (T+1)=none:=by simpa using h
   exact List.find?_eq_none.mp h t ht (decide_eq_true e)
  ·exact gl_none h0 n h1 (by lia)
theorem lG {k:Int} {bo st:List Int} {xs:List (List Int)} {m:Nat} {t:List Int}:∀{T:Nat},gl k bo st xs T=some (m,t)->1<=m/\m<=T/\t∈tgK k/\aC (aL t xs)=aC (aft k bo st m xs)/\∀n,1<=n->n < m->¬Alk k bo st xs n
 | 0,h=>nomatch h
 | T+1,h=>by
  cases hc:gl k bo st xs T with
  | some r=>
   rw [iH 1 hc] at h
   cases h
   obtain ⟨a,b,c⟩:=lG hc
   exact ⟨a,by lia,c⟩
  | none=>
   rw [iG hc] at h
   obtain ⟨t',h1,h2⟩:=Option.map_eq_some_iff.mp h
   cases h2
   have h3:=List.find?_some h1
   exact ⟨by lia,by lia,List.mem_of_find?_eq_some h1,of_decide_eq_true h3,fun n a b=>gl_none hc n a (by lia)⟩
theorem uU {xs ys:List (List Int)} {t:List Int} (tn:Tn t) (hx:∀p∈xs,Pr p) (hy:∀p∈ys,Pr p) (h:aC (aL t xs)=aC ys):∃a b,ys=GG t a b xs:=by
 have hl:∀p∈aL t xs,Pr p:=fun m hm=>by
  obtain ⟨n,hn,rfl⟩:=List.mem_map.mp ((aQ _).mem_iff.mp hm)
  exact gR (hx n hn) tn
 have h1:=kn hy
 rw [<- h] at h1
 refine ⟨-(mnI ((aL t xs).map fs))+mnI (ys.map fs),-(mnI ((aL t xs).map sn))+mnI (ys.map sn),h1.symm.trans ?_⟩
 unfold aC GG
 rw [List.map_map]
 refine List.map_congr_left fun m hm=>?_
 obtain ⟨x,y,rfl⟩:=hl m hm
 show [_,_]=[_,_]
 congr 1
 ·lia
 ·congr 1
  lia
theorem xU {k:Int} {bo st:List Int} {xs:List (List Int)} (h:srt xs=xs):∀n,srt (aft k bo st n xs)=aft k bo st n xs
 | 0=>h
 | n+1=>by
  show srt (nx k bo st _)=nx k bo st _
  unfold nx
  exact eV (aQ _)
theorem BQ {l:List (List Int)}:srt (srt l)=srt l:=eV (aQ _)
theorem jB {l:List (List Int)} (h:∀m∈l,Pr m):aL [1,0,0,1] l=srt l:=by
 unfold aL
 rw [show l.map (fun m=>led m [1,0,0,1])=l.map id from List.map_congr_left fun m hm=>lC (h m hm),List.map_id]
theorem xV {k:Int} (hk:Kd k) {bo st:List Int} {xs:List (List Int)} (hp:∀p∈xs,Pr p) (hs:srt xs=xs) {m n:Nat} (hm:Alk k bo st xs m) (hn:Alk k bo st xs (m+n)):Alk k bo st xs n:=by
 obtain ⟨t,ht,e1⟩:=hm
 obtain ⟨s,hs',e2⟩:=hn
 have tn:=cN hk ht
 obtain ⟨a,b,e3⟩:=uU tn hp (gS hk hp m) e1
 obtain ⟨c,d,e4⟩:=uU (cN hk hs') hp (gS hk hp (m+n)) e2
 rw [pE,e3,uD hk ht hp] at e4
 obtain ⟨u,hu,eu⟩:=(gQ hk t ht).2 _ (uw hk)
 have un:=cN hk hu
 refine ⟨behind s u,(gQ hk s hs').1 u hu,?_⟩
 rw [<- uE hp (cN hk hs') un (a:=c) (b:=d),<- e4,uE (gS hk hp n) tn un,eu,jB (gS hk hp n),xU hs]
theorem xW {k:Int} (hk:Kd k) {bo st:List Int} {xs:List (List Int)} (hp:∀p∈xs,Pr p) (hs:srt xs=xs) {m:Nat} (hm1:1<=m) (hm:Alk k bo st xs m) (hl:∀n,1<=n->n < m->¬Alk k bo st xs n):∀n,Alk k bo st xs n->n%m=0:=fun n=>by
 induction n using Nat.strongRecOn with
 | _ n ih=>
  intro h
  by_cases h0:n < m
  ·by_cases h1:n=0
   ·subst h1;exact Nat.zero_mod m
   ·exact absurd h (hl n (by lia) h0)
  ·obtain ⟨r,rfl⟩:∃r,n=m+r:=⟨n-m,by lia⟩
   have:=ih r (by lia) (xV hk hp hs hm h)
   rw [Nat.add_mod_left]
   exact this
theorem uV {m:Nat} {xs:List (List Int)} (h:Pic m xs) (hm:m<=40):xs.length<=10000:=by
 obtain ⟨nd,l,t,f⟩:=h
 have:=n9 (g:=Ef (l-m) (t-m) (5+2*m)) nd fun p hp=>by
  obtain ⟨x,y,rfl,h1,h2,h3,h4⟩:=f p hp
  refine List.mem_flatMap.mpr ⟨(x-(l-m)).toNat,List.mem_range.mpr (by lia),List.mem_map.mpr ⟨(y-(t-m)).toNat,List.mem_range.mpr (by lia),?_⟩⟩
  have e1:l-(m:Int)+((x-(l-m)).toNat:Int)=x:=by lia
  have e2:t-(m:Int)+((y-(t-m)).toNat:Int)=y:=by lia
  rw [e1,e2]
 rw [uq] at this
 have:(5+2*m)*(5+2*m)<=85*85:=Nat.mul_le_mul (by lia) (by lia)
 lia
theorem dS {a u:Int} (h1:-1<=a/\a<=1) (h2:-5<=u/\u<=5):-5<=a*u/\a*u<=5:=by
 rcases (by lia:a=-1\/a=0\/a=1) with rfl | rfl | rfl <;> lia
theorem xX {k:Int} (hk:Kd k) {t:List Int} (ht:t∈tgK k) {a b:Int} {xs:List (List Int)} (h:Pic 3 xs):Pic 8 (GG t a b xs):=by
 have hp:=h.pr
 obtain ⟨nd,l,u,f⟩:=h
 have tn:=cN hk ht
 refine ⟨(iF xs).nodup_iff.mpr (jA hk ht hp nd),?_⟩
 obtain ⟨c,d,e,g,rfl,hc,hd,he,hg⟩:=tn
 refine ⟨c*(l+2)+d*(u+2)+a-2,e*(l+2)+g*(u+2)+b-2,fun p hpm=>?_⟩
 obtain ⟨q,hq,rfl⟩:=List.mem_map.mp ((iF xs).mem_iff.mp hpm)
 obtain ⟨x,y,rfl,b1,b2,b3,b4⟩:=f q hq
 have z1:-5<=x-(l+2)/\x-(l+2)<=5:=by lia
 have z2:-5<=y-(u+2)/\y-(u+2)<=5:=by lia
 have m1:=dS hc z1
 have m2:=dS hd z2
 have m3:=dS he z1
 have m4:=dS hg z2
 have e1:c*x=c*(x-(l+2))+c*(l+2):=by rw [<- Int.mul_add];congr 1;lia
 have e2:d*y=d*(y-(u+2))+d*(u+2):=by rw [<- Int.mul_add];congr 1;lia
 have e3:e*x=e*(x-(l+2))+e*(l+2):=by rw [<- Int.mul_add];congr 1;lia
 have e4:g*y=g*(y-(u+2))+g*(u+2):=by rw [<- Int.mul_add];congr 1;lia
 refine ⟨c*x+d*y+a,e*x+g*y+b,rfl,?_,?_,?_,?_⟩ <;> simp only [e1,e2,e3,e4] <;> lia
theorem qD {t:List Int} (tn:Tn t) {a b:Int} {xs:List (List Int)} (hp:∀p∈xs,Pr p):srt (GG t a b xs)=GG t a b xs:=by rw [uy tn hp,BQ]
end My
namespace My
open PySem L2 VL
noncomputable def c9 (i:Nat):List Int:=[(0+(i:Int)) / 3,(0+(i:Int))%3]
theorem BR {i j:Nat} (h:c9 i=c9 j):i=j:=by
 simp only [c9,List.cons.injEq,and_true] at h
 lia
theorem uW {α β:Type} {f:α->β} (hf:∀a b,f a=f b->a=b):∀{l:List α},l.Nodup->(l.map f).Nodup
 | [],_=>List.nodup_nil
 | x::r,h=>by
  rw [List.nodup_cons] at h
  rw [List.map_cons,List.nodup_cons]
  refine ⟨fun z=>?_,uW hf h.2⟩
  obtain ⟨y,hy,e⟩:=List.mem_map.mp z
  exact h.1 (hf _ _ e▸hy)
noncomputable def Sm (mss:List (List Int)):Prop:=mss.Nodup/\∀m∈mss,∃x y:Int,m=[x,y]/\0<=x/\x<=9/\0<=y/\y<=9
theorem Sm.pic (h:Sm mss):Pic 3 mss:=⟨h.1,2,2,fun p hp=>by
 obtain ⟨x,y,rfl,h1,h2,h3,h4⟩:=h.2 p hp
 exact ⟨x,y,rfl,by lia,by lia,by lia,by lia⟩⟩
noncomputable def smB (mss:List (List Int)):Bool:=decide mss.Nodup&&mss.all fun m=>match m with | [x,y]=>decide (0<=x)&&decide (x<=9)&&decide (0<=y)&&decide (y<=9) | _=>false
theorem Sm.of (h:smB mss=true):Sm mss:=by
 unfold smB at h
 rw [Bool.and_eq_true] at h
 refine ⟨of_decide_eq_true h.1,fun m hm=>?_⟩
 have:=List.all_eq_true.mp h.2 m hm
 match m,this with
 | [x,y],h=>simp only [Bool.and_eq_true,decide_eq_true_eq] at h;exact ⟨x,y,rfl,h.1.1.1,h.1.1.2,h.1.2,h.2⟩
section
variable {P:Program} {w:World} {K:PySem.W.Frag} {mg:Str->Option Value} {base:Heap}
theorem qE (S:Src K mg "_law_number" ju) (T:Txt mg) (e0_:Has P w K mg base 1 "_law_draw" ["_law_pen_here","_law_many"] (spI K 0 g9)):Has P w K mg base 2 "_law_number" ["_law_pen_here"] (spI K 0 pM):=by
 refine mr 0 S kh (by walk_at "1") (fun ns ds R zq1=>by obtain ⟨_,e,_⟩:=zq1;rw [e];rfl) fun f cdv A outer s H E hr=>⟨_,_,(ai (aB (i:=1) kh.nd rfl (Or.inl rfl) (bf e0_ hr (aa (ae 0 (pv 0)) (aa af ah))))
  (ai (aW (aO qQ aM (ae 1 (pv 1)) af (aK _)) (ao (aA (az cr aM (bf e0_ hr (aa (ae 0 (pv 0)) (aa af ah))) af))) aG)
  (ai (aW (aO cj dX (ae 1 (pv 1)) af (aK _)) (ao (aA (az cr aM (bf e0_ hr (aa (ae 0 (pv 0)) (aa (az iN bI af af) ah))) (az bJ bI af (az iN bI af af))))) aG)
  (ao (aA (az bJ bI (az cr aM (az cr aM (az iN bI af af) af) (bf e0_ hr (aa (ae 0 (pv 0)) (aa af ah)))) (az cr aM af (az bJ bI af (bf e0_ hr (aa (ae 0 (pv 0)) (aa af ah))))))))))),?_⟩
 rintro a pn ds es R hl ⟨b,e,hpn,hb,q⟩
 obtain rfl:ds=[]:=List.eq_nil_of_length_eq_zero hl
 obtain rfl:es=[]:=e
 walk_at "sl"
 walk_at "rd"
 refine ⟨b,12,rfl,hpn,by lia,by lia,by lia,fun pn1 r1 h1 r1a r1b=>?_⟩
 walk_at "rd"
 refine bE (fun c1=>?_) (fun c1=>?_)
 ·walk_at "rd"
  refine ⟨b+1,9,rfl,h1,by lia,by lia,by lia,fun pn2 r2 h2 r2a r2b=>?_⟩
  walk_at "rd"
  exact ⟨_,rfl,q _ _ (h2.le (by lia))⟩
 ·walk_at "rd"
  refine bE (fun c2=>?_) (fun c2=>?_)
  ·walk_at "rd"
   refine ⟨b+1,1000000000,rfl,h1,by lia,by lia,by lia,fun pn2 r2 h2 r2a r2b=>?_⟩
   walk_at "rd"
   exact ⟨_,rfl,q _ _ (h2.le (by lia))⟩
  ·walk_at "rd"
   refine ⟨b+1,3,rfl,h1,by lia,by lia,by lia,fun pn2 r2 h2 r2a r2b=>?_⟩
   walk_at "rd"
   refine ⟨b+2,2,rfl,h2,by lia,by lia,by lia,fun pn3 r3 h3 r3a r3b=>?_⟩
   walk_at "rd"
   exact ⟨_,rfl,q _ _ (h3.le (by lia))⟩
theorem xY (S:Src K mg "_law_rule" jv) (T:Txt mg) (e0_:Has P w K mg base 1 "_law_draw" ["_law_pen_here","_law_many"] (spI K 0 g9)):Has P w K mg base 2 "_law_rule" ["_law_pen_here"] (spI K 0 zf):=by
 refine mr 0 S gb (by walk_at "1") (fun ns ds R zq1=>by obtain ⟨_,e,_⟩:=zq1;rw [e];rfl) fun f cdv A outer s H E hr=>⟨_,_,(ai (aB (i:=1) gb.nd rfl (Or.inl rfl) (aI rfl (aJ (ba (aa af (aa af (aa af ah))))) (bf e0_ hr (aa (ae 0 (pv 0)) (aa af ah))) (fun _ _=>rfl)))
  (ai (aW (aO lN aM (bf e0_ hr (aa (ae 0 (pv 0)) (aa af ah))) af (aK _)) (ai (aB (i:=2) gb.nd rfl (Or.inl rfl) (tP (by decide) (aJ (ba (aa (aj (aa af ah)) (aa (aj (aa af ah)) (aa (aj (aa af (aa af ah))) ah))))) (aJ (ba (aa (aj (aa af ah)) (aa (aj (aa af (aa af ah))) (aa (aj (aa af (aa af ah))) ah))))) (aJ (ba (aa (aj (aa af ah)) (aa (aj (aa af ah)) (aa (aj (aa af (aa af ah))) ah))))) (ae 1 (pv 1)) (fun _ _=>rfl)))
  (ai (aB (i:=3) gb.nd rfl (Or.inl rfl) (tP (by decide) (aJ (ba (aa (aj ah) (aa (aj (aa af (aa af ah))) (aa (aj (aa af (aa af ah))) ah))))) (aJ (ba (aa (aj (aa af (aa af ah))) (aa (aj ah) (aa (aj (aa af ah)) ah))))) (aJ (ba (aa (aj (aa af (aa af ah))) (aa (aj ah) (aa (aj (aa af (aa af ah))) ah))))) (ae 1 (pv 1)) (fun _ _=>rfl)))
  (ao (aA (aj (aa (aP (ae 1 (pv 1))) (aa (aP (aI rfl (ae 2 (pv 2)) (bf e0_ hr (aa (ae 0 (pv 0)) (aa af ah))) (fun _ _=>rfl))) (aa (aP (aI rfl (ae 3 (pv 3)) (bf e0_ hr (aa (ae 0 (pv 0)) (aa af ah))) (fun _ _=>rfl))) ah)))))))) aG)
  (ai (aB (i:=2) gb.nd rfl (Or.inl rfl) (fh rfl (by rfl) T.tuple_ (aa (aJ (bN (tg:=["_law_count"]) (cs:=["_law_pen_here"]) (ix:=[0]) (aS (ak jv) ["_law_pen_here","_law_kind","_law_born","_law_stay"] (by decide +kernel)) rfl (bK (by decide)) (by decide) (gG rfl T.range (aa af (aa (az aU aM (ae 1 (pv 1)) af) ah))) (fun _ _ _ _=>(au (aq (i:=0) (show (["_law_count","_law_pen_here"]:List Str).Nodup by decide +kernel) rfl (Or.inl rfl) (by first | exact Or.inl rfl | exact Or.inr rfl)))) (fun _ _ _ _=>(eN (aO cj dX (bf e0_ hr (aa (ae 1 (pv 1)) (aa af ah))) af (aK _)))) (fun _ _ _ _=>(aP (ae 0 (pv 0)))))) ah)))
  (ao (aA (aj (aa (aP (ae 1 (pv 1))) (aa (aP (ae 2 (pv 2))) (aa (fh rfl (by rfl) T.tuple_ (aa (aJ (bN (tg:=["_law_count"]) (cs:=["_law_pen_here"]) (ix:=[0]) (aS (ak jv) ["_law_pen_here","_law_kind","_law_born","_law_stay"] (by decide +kernel)) rfl (bK (by decide)) (by decide) (cy rfl T.range (aa (az aU aM (ae 1 (pv 1)) af) ah)) (fun _ _ _ _=>(au (aq (i:=0) (show (["_law_count","_law_pen_here"]:List Str).Nodup by decide +kernel) rfl (Or.inl rfl) (by first | exact Or.inl rfl | exact Or.inr rfl)))) (fun _ _ _ _=>(eN (aO cj dX (bf e0_ hr (aa (ae 1 (pv 1)) (aa af ah))) af (aK _)))) (fun _ _ _ _=>(aP (ae 0 (pv 0)))))) ah)) ah))))))))),?_⟩
 rintro a pn ds es R hl ⟨b,e,hpn,hb,q⟩
 obtain rfl:ds=[]:=List.eq_nil_of_length_eq_zero hl
 obtain rfl:es=[]:=e
 walk_at "sl"
 walk_at "rd"
 refine ⟨b,3,rfl,hpn,by lia,by lia,by lia,fun pn1 r1 h1 r1a r1b=>?_⟩
 walk_at "rd"
 obtain ⟨k,hk,ek⟩:=Em r1a r1b
 have hkb:4<=k/\k<=8:=by rcases hk with rfl | rfl | rfl <;> lia
 refine bS rfl rfl ek ?_
 walk_at "rd"
 refine ⟨b+1,3,rfl,h1,by lia,by lia,by lia,fun pn2 r2 h2 r2a r2b=>?_⟩
 walk_at "rd"
 refine bE (fun c1=>?_) (fun c1=>?_)
 ·walk_at "rd"
  rcases hk with rfl | rfl | rfl
  ·refine tQ ?_
   walk_at "rd"
   refine tQ ?_
   walk_at "rd"
   refine ⟨b+2,3,rfl,h2,by lia,by lia,by lia,fun pn3 r3 h3 r3a r3b=>?_⟩
   obtain ⟨bo,e1,z1,l1⟩:∃bo:List Int,atI [D.tup [.int 1],D.tup [.int 2],D.tup [.int 1,.int 2]] r3=some (.tup (bo.map .int))/\0∉bo/\bo.length<=20:=by
    rcases (by lia:r3=0\/r3=1\/r3=2) with e | e | e <;> rw [e]
    ·exact ⟨[1],rfl,by decide,by decide⟩
    ·exact ⟨[2],rfl,by decide,by decide⟩
    ·exact ⟨[1,2],rfl,by decide,by decide⟩
   walk_at "rd"
   refine bS rfl rfl e1 ?_
   refine cD (bj _) ?_
   walk_at "rd"
   refine ⟨b+3,3,rfl,h3,by lia,by lia,by lia,fun pn4 r4 h4 r4a r4b=>?_⟩
   obtain ⟨sy,e2⟩:∃sy:List Int,atI [D.tup [],D.tup [.int 1,.int 2],D.tup [.int 2,.int 3]] r4=some (.tup (sy.map .int)):=by
    rcases (by lia:r4=0\/r4=1\/r4=2) with e | e | e <;> rw [e]
    ·exact ⟨[],rfl⟩
    ·exact ⟨[1,2],rfl⟩
    ·exact ⟨[2,3],rfl⟩
   walk_at "rd"
   refine bS rfl rfl e2 ?_
   refine cD (bj _) ?_
   walk_at "rd"
   exact ⟨_,rfl,q 4 bo sy _ (.inl rfl) z1 l1 (h4.le (by lia))⟩
  ·refine tR ?_
   walk_at "rd"
   refine tR ?_
   walk_at "rd"
   refine ⟨b+2,3,rfl,h2,by lia,by lia,by lia,fun pn3 r3 h3 r3a r3b=>?_⟩
   obtain ⟨bo,e1,z1,l1⟩:∃bo:List Int,atI [D.tup [.int 2],D.tup [.int 2,.int 3],D.tup [.int 2,.int 6]] r3=some (.tup (bo.map .int))/\0∉bo/\bo.length<=20:=by
    rcases (by lia:r3=0\/r3=1\/r3=2) with e | e | e <;> rw [e]
    ·exact ⟨[2],rfl,by decide,by decide⟩
    ·exact ⟨[2,3],rfl,by decide,by decide⟩
    ·exact ⟨[2,6],rfl,by decide,by decide⟩
   walk_at "rd"
   refine bS rfl rfl e1 ?_
   refine cD (bj _) ?_
   walk_at "rd"
   refine ⟨b+3,3,rfl,h3,by lia,by lia,by lia,fun pn4 r4 h4 r4a r4b=>?_⟩
   obtain ⟨sy,e2⟩:∃sy:List Int,atI [D.tup [.int 3,.int 4],D.tup [],D.tup [.int 2]] r4=some (.tup (sy.map .int)):=by
    rcases (by lia:r4=0\/r4=1\/r4=2) with e | e | e <;> rw [e]
    ·exact ⟨[3,4],rfl⟩
    ·exact ⟨[],rfl⟩
    ·exact ⟨[2],rfl⟩
   walk_at "rd"
   refine bS rfl rfl e2 ?_
   refine cD (bj _) ?_
   walk_at "rd"
   exact ⟨_,rfl,q 6 bo sy _ (.inr (.inl rfl)) z1 l1 (h4.le (by lia))⟩
  ·refine tS ?_
   walk_at "rd"
   refine tS ?_
   walk_at "rd"
   refine ⟨b+2,3,rfl,h2,by lia,by lia,by lia,fun pn3 r3 h3 r3a r3b=>?_⟩
   obtain ⟨bo,e1,z1,l1⟩:∃bo:List Int,atI [D.tup [.int 3],D.tup [.int 2],D.tup [.int 3,.int 6]] r3=some (.tup (bo.map .int))/\0∉bo/\bo.length<=20:=by
    rcases (by lia:r3=0\/r3=1\/r3=2) with e | e | e <;> rw [e]
    ·exact ⟨[3],rfl,by decide,by decide⟩
    ·exact ⟨[2],rfl,by decide,by decide⟩
    ·exact ⟨[3,6],rfl,by decide,by decide⟩
   walk_at "rd"
   refine bS rfl rfl e1 ?_
   refine cD (bj _) ?_
   walk_at "rd"
   refine ⟨b+3,3,rfl,h3,by lia,by lia,by lia,fun pn4 r4 h4 r4a r4b=>?_⟩
   obtain ⟨sy,e2⟩:∃sy:List Int,atI [D.tup [.int 2,.int 3],D.tup [],D.tup [.int 2,.int 3]] r4=some (.tup (sy.map .int)):=by
    rcases (by lia:r4=0\/r4=1\/r4=2) with e | e | e <;> rw [e]
    ·exact ⟨[2,3],rfl⟩
    ·exact ⟨[],rfl⟩
    ·exact ⟨[2,3],rfl⟩
   walk_at "rd"
   refine bS rfl rfl e2 ?_
   refine cD (bj _) ?_
   walk_at "rd"
   exact ⟨_,rfl,q 8 bo sy _ (.inr (.inr rfl)) z1 l1 (h4.le (by lia))⟩
 ·walk_at "rd"
  have hvt:∀(b':Nat) (pn':List Int) (x:Int) (A:Bool->List Sl->Prop),Pn b' pn'->b'<=1000000->(∀v pn2,Pn (b'+1) pn2->A v [.val (.int x),.pen (some a) pn2])->(fM (v2 wEq (vV 0 g9 (e7 (lX 1) (e7 (vC (D.int 2)) nA))) (vC (D.int 0)))) [.val (.int x),.pen (some a) pn'] A:=by
   intro b' pn' x A h1 h2 h3
   walk_at "rd"
   refine ⟨b',2,rfl,h1,by lia,by lia,by lia,fun pn3 r3 h4 r3a r3b=>?_⟩
   walk_at "rd"
   exact h3 _ _ h4
  refine pL (b:=b+2) (by lia) h2 hvt fun p1 pn4 h4=>?_
  walk_at "rd"
  refine kK rfl (gT _ _) ?_
  walk_at "rd"
  refine cD (gT _ _) ?_
  walk_at "rd"
  refine pL (b:=b+2+(k+1-1).toNat) (by lia) h4 hvt fun p2 pn5 h5=>?_
  walk_at "rd"
  refine kK rfl (gT _ _) ?_
  walk_at "rd"
  rw [pJ,pJ]
  exact ⟨_,rfl,q k _ _ _ hk (BN (by lia)) (by have:=List.length_filter_le p1 (List.range (k+1-1).toNat);rw [List.length_range] at this;rw [List.length_map];unfold fr;lia) (h5.le (by lia))⟩
theorem uX (S:Src K mg "_law_cells" iC) (T:Txt mg) (e0_:Has P w K mg base 1 "_law_draw" ["_law_pen_here","_law_many"] (spI K 0 g9)):Has P w K mg base 2 "_law_cells" ["_law_pen_here"] (spI K 0 uL):=by
 refine mr 0 S dF (by walk_at "1") (fun ns ds R zq1=>by obtain ⟨_,e,_⟩:=zq1;rw [e];rfl) fun f cdv A outer s H E hr=>⟨_,_,(ai (aB (i:=1) dF.nd rfl (Or.inl rfl) (bf e0_ hr (aa (ae 0 (pv 0)) (aa af ah))))
  (ai (aW (aO cj dX (ae 1 (pv 1)) af (aK _)) (ao (aA (aJ (bN (tg:=["_law_k"]) (cs:=["_law_pen_here"]) (ix:=[0]) (aS (ak iC) ["_law_pen_here","_law_way","_law_side","_law_cells_here","_law_k","_law_cell"] (by decide +kernel)) rfl (bK (by decide)) (by decide) (cy rfl T.range (aa af ah)) (fun _ _ _ _=>(au (aq (i:=0) (show (["_law_k","_law_pen_here"]:List Str).Nodup by decide +kernel) rfl (Or.inl rfl) (by first | exact Or.inl rfl | exact Or.inr rfl)))) (fun _ _ _ _=>(eN (aO cj dX (bf e0_ hr (aa (ae 1 (pv 1)) (aa af ah))) af (aK _)))) (fun _ _ _ _=>(aj (aa (az kr bI (ae 0 (pv 0)) af) (aa (az cR bI (ae 0 (pv 0)) af) ah)))))))) aG)
  (ai (aB (i:=2) dF.nd rfl (Or.inl rfl) (az aU aM af (bf e0_ hr (aa (ae 0 (pv 0)) (aa af ah)))))
  (ai (fP (fun _ h=>ck (i:=3) dF.nd rfl (Or.inl rfl) h) (ba ah))
  (ai (bP PassesOwn.never rfl (cy rfl T.range (aa (bf e0_ hr (aa (ae 0 (pv 0)) (aa af ah))) ah)) (au (aq (i:=4) dF.nd rfl (Or.inl rfl) (Or.inl rfl))) (ai (aB (i:=5) dF.nd rfl (Or.inl rfl) (aj (aa (bf e0_ hr (aa (ae 0 (pv 0)) (aa (ae 2 (pv 2)) ah))) (aa (bf e0_ hr (aa (ae 0 (pv 0)) (aa (ae 2 (pv 2)) ah))) ah))))
  (ao (aW (aO (jY (K:=K) rfl hr.units) oP (ae 5 (pv 5)) (ae 3 (pv 3)) (by with_unfolding_all rfl)) (ao (eM (rB 3 rfl (pv 3) (aP (ae 5 (pv 5)))))) aG))))
  (ao (aA (aJ (de rfl rfl (by rfl) T.sorted_ cA (aa (ae 3 (pv 3)) ah)))))))))),?_⟩
 rintro a pn ds es R hl ⟨b,e,hpn,hb,q⟩
 obtain rfl:ds=[]:=List.eq_nil_of_length_eq_zero hl
 obtain rfl:es=[]:=e
 walk_at "sl"
 walk_at "rd"
 refine ⟨b,3,rfl,hpn,by lia,by lia,by lia,fun pn1 r1 h1 r1a r1b=>?_⟩
 walk_at "rd"
 refine bE (fun c1=>?_) (fun c1=>?_)
 ·walk_at "rd"
  have hvt:∀(b':Nat) (pn':List Int) (x:Int) (A:Bool->List Sl->Prop),Pn b' pn'->b'<=1000000->(∀v pn2,Pn (b'+1) pn2->A v [.val (.int x),.pen (some a) pn2])->(fM (v2 wEq (vV 0 g9 (e7 (lX 1) (e7 (vC (D.int 2)) nA))) (vC (D.int 0)))) [.val (.int x),.pen (some a) pn'] A:=by
   intro b' pn' x A h1 h2 h3
   walk_at "rd"
   refine ⟨b',2,rfl,h1,by lia,by lia,by lia,fun pn3 r3 h4 r3a r3b=>?_⟩
   walk_at "rd"
   exact h3 _ _ h4
  refine pK (g:=fun x=>eT [x / 3,x%3]) (b:=b+1) (by lia) h1 (fun x pn' Q h=>by walk_at "rd";exact h) hvt fun p1 pn4 h4=>?_
  walk_at "rd"
  have e9:D.lst ((fr p1 (Int.toNat 9)).map fun (i:Nat)=>eT [(0+(i:Int)) / 3,(0+(i:Int))%3])=eL ((fr p1 (Int.toNat 9)).map c9):=by
   show D.lst _=D.lst (List.map eT (List.map c9 _))
   congr 1
   rw [List.map_map]
   exact List.map_congr_left fun i _=>rfl
  rw [e9]
  have l9:=List.length_filter_le p1 (List.range 9)
  rw [List.length_range] at l9
  refine ⟨_,rfl,q _ _ (Sm.pic ⟨uW (fun _ _=>BR) (List.nodup_range.filter _),fun m hm=>?_⟩) ?_ (h4.le (by lia))⟩
  ·obtain ⟨i,hi,rfl⟩:=List.mem_map.mp hm
   have:=List.mem_range.mp (List.mem_filter.mp hi).1
   exact ⟨_,_,rfl,by lia,by lia,by lia,by lia⟩
  ·rw [List.length_map]
   unfold fr
   lia
 ·walk_at "rd"
  refine ⟨b+1,4,rfl,h1,by lia,by lia,by lia,fun pn2 r2 h2 r2a r2b=>?_⟩
  walk_at "rd"
  refine ⟨b+2,9,rfl,h2,by lia,by lia,by lia,fun pn3 r3 h3 r3a r3b=>?_⟩
  walk_at "rd"
  refine eP (fun i S=>∃pn mss v5 v6,S=[.pen (some a) pn,.val (.int r1),.val (.int (1+r2)),.own (mss.map eT),v5,v6]/\Pn (b+3+2*i) pn/\mss.length<=i/\Sm mss) ⟨pn3,[],_,_,rfl,h3,by simp,List.nodup_nil,fun _ h=>nomatch h⟩ ?_ ?_
  ·rintro i S hi ⟨pn,mss,v5,v6,rfl,g1,gl,g3⟩
   have hi':i < 11:=by lia
   walk_at "rd"
   refine ⟨_,1+r2,rfl,g1,by lia,by lia,by lia,fun pn7 x g7 xa xb=>?_⟩
   walk_at "rd"
   refine ⟨_,1+r2,rfl,g7,by lia,by lia,by lia,fun pn8 y g8 ya yb=>?_⟩
   walk_at "rd"
   rw [show D.tup [.int x,.int y]=eT [x,y] from rfl]
   by_cases hin:[x,y]∈mss
   ·refine yC cW hin ?_
    walk_at "rc"
    exact ⟨pn8,mss,_,_,rfl,g8.le (by lia),by lia,g3⟩
   ·refine yB cW hin ?_
    walk_at "rc"
    refine ⟨pn8,mss++[[x,y]],_,_,by rw [List.map_append];rfl,g8.le (by lia),by rw [List.length_append,List.length_singleton];lia,?_,fun ms hm=>?_⟩
    ·rw [List.nodup_append]
     exact ⟨g3.1,by simp,fun u hu v hv e=>hin (by cases List.mem_singleton.mp hv;exact e▸hu)⟩
    ·rcases List.mem_append.mp hm with hm | hm
     ·exact g3.2 ms hm
     ·obtain rfl:ms=[x,y]:=by simpa using hm
      exact ⟨_,_,rfl,by lia,by lia,by lia,by lia⟩
  ·rintro S ⟨pn,mss,v5,v6,rfl,g1,gl,g3⟩
   walk_at "rd"
   refine b9 (mss:=mss) rfl (fun m hm=>by obtain ⟨x,y,rfl,_⟩:=g3.2 m hm;simp) ?_
   walk_at "rd"
   have hr3:r3.toNat<=10:=by lia
   refine ⟨_,rfl,q _ _ (Sm.pic ⟨(aQ _).nodup_iff.mpr g3.1,fun p hp=>g3.2 p ((aQ _).mem_iff.mp hp)⟩) (by rw [(aQ _).length_eq];lia) (g1.le (by lia))⟩
theorem uY (S:Src K mg "_law_known" iB) (T:Txt mg) (e0_:Has P w K mg base 1 "_law_draw" ["_law_pen_here","_law_many"] (spI K 0 g9)):Has P w K mg base 2 "_law_known" ["_law_pen_here"] (spI K 0 uM):=by
 refine mr 0 S mR (by walk_at "1") (fun ns ds R zq1=>by obtain ⟨_,e,_⟩:=zq1;rw [e];rfl) fun f cdv A outer s H E hr=>⟨_,_,(ai (aB (i:=1) mR.nd rfl (Or.inl rfl) (bf e0_ hr (aa (ae 0 (pv 0)) (aa af ah))))
  (ai (aW (aO cj dX (ae 1 (pv 1)) af (aK _)) (ao (aA (aj (aa (aj (aa af (aa (aj (aa af ah)) (aa (aj (aa af (aa af ah))) ah)))) (aa (aJ (bN (tg:=["_law_at"]) (cs:=[]) (ix:=[]) (aS (ak iB) ["_law_pen_here","_law_way"] (by decide +kernel)) rfl (bK (by decide)) (by decide) (cy rfl T.range (aa af ah)) (fun _ _ _ _=>(au (aq (i:=0) (show (["_law_at"]:List Str).Nodup by decide +kernel) rfl (Or.inl rfl) (by first | exact Or.inl rfl | exact Or.inr rfl)))) (fun _ _ _ _=>bZ) (fun _ _ _ _=>(aj (aa af (aa (aP (ae 0 (pv 0))) ah)))))) ah))))) aG)
  (ai (aW (aO cj dX (ae 1 (pv 1)) af (aK _)) (ao (aA (aj (aa (aj (aa af (aa (aj (aa af ah)) (aa (aj (aa af (aa af ah))) ah)))) (aa (aJ (ba (aa (aj (aa af (aa af ah))) (aa (aj (aa af (aa af ah))) (aa (aj (aa af (aa af ah))) (aa (aj (aa af (aa af ah))) (aa (aj (aa af (aa af ah))) ah))))))) ah))))) aG)
  (ai (aW (aO cj dX (ae 1 (pv 1)) af (aK _)) (ao (aA (aj (aa (aj (aa af (aa (aj (aa af ah)) (aa (aj (aa af (aa af ah))) ah)))) (aa (aJ (ba (aa (aj (aa af (aa af ah))) (aa (aj (aa af (aa af ah))) (aa (aj (aa af (aa af ah))) ah))))) ah))))) aG)
  (ai (aW (aO cj dX (ae 1 (pv 1)) af (aK _)) (ao (aA (aj (aa (aj (aa af (aa (aj (aa af (aa af ah))) (aa (aj (aa af (aa af ah))) ah)))) (aa (aJ (ba (aa (aj (aa af (aa af ah))) (aa (aj (aa af (aa af ah))) (aa (aj (aa af (aa af ah))) (aa (aj (aa af (aa af ah))) (aa (aj (aa af (aa af ah))) (aa (aj (aa af (aa af ah))) (aa (aj (aa af (aa af ah))) (aa (aj (aa af (aa af ah))) (aa (aj (aa af (aa af ah))) ah))))))))))) ah))))) aG)
  (ai (aW (aO cj dX (ae 1 (pv 1)) af (aK _)) (ao (aA (aj (aa (aj (aa af (aa (aj (aa af ah)) (aa (aj (aa af (aa af ah))) ah)))) (aa (aJ (ba (aa (aj (aa af (aa af ah))) (aa (aj (aa af (aa af ah))) (aa (aj (aa af (aa af ah))) (aa (aj (aa af (aa af ah))) (aa (aj (aa af (aa af ah))) (aa (aj (aa af (aa af ah))) ah)))))))) ah))))) aG)
  (ai (aW (aO cj dX (ae 1 (pv 1)) af (aK _)) (ao (aA (aj (aa (aj (aa af (aa (aj (aa af ah)) (aa (aj ah) ah)))) (aa (aJ (ba (aa (aj (aa af (aa af ah))) (aa (aj (aa af (aa af ah))) ah)))) ah))))) aG)
  (ai (aW (aO cj dX (ae 1 (pv 1)) af (aK _)) (ao (aA (aj (aa (aj (aa af (aa (aj (aa af ah)) (aa (aj ah) ah)))) (aa (aJ (ba (aa (aj (aa af (aa af ah))) (aa (aj (aa af (aa af ah))) ah)))) ah))))) aG)
  (ao (aA (aj (aa (aj (aa af (aa (aj (aa af ah)) (aa (aj ah) ah)))) (aa (aJ (ba (aa (aj (aa af (aa af ah))) (aa (aj (aa af (aa af ah))) (aa (aj (aa af (aa af ah))) (aa (aj (aa af (aa af ah))) ah)))))) ah))))))))))))),?_⟩
 rintro a pn ds es R hl ⟨b,e,hpn,hb,q⟩
 obtain rfl:ds=[]:=List.eq_nil_of_length_eq_zero hl
 obtain rfl:es=[]:=e
 have fin:∀(k:Int) (bo sy:List Int) mss pn',Kd k->(decide (0∉bo)&&decide (bo.length<=20)&&smB mss&&decide (mss.length<=11))=true->Pn (b+1) pn'->R (.tup [rl k bo sy,eL mss]) pn':=fun k bo sy mss pn' hk h hpn=>by
  simp only [Bool.and_eq_true,decide_eq_true_eq] at h
  exact q k bo sy mss pn' hk h.1.1.1 h.1.1.2 (Sm.of h.1.2).pic h.2 hpn
 walk_at "sl"
 walk_at "rd"
 refine ⟨b,8,rfl,hpn,by lia,by lia,by lia,fun pn1 r1 h1 r1a r1b=>?_⟩
 walk_at "rd"
 refine bE (fun c1=>?_) (fun c1=>?_)
 ·walk_at "rd"
  refine comp_map (xs:=List.range 10) (en:=fun (i:Nat)=>.int (0+(i:Int))) (f:=fun (i:Nat)=>eT [0,0+(i:Int)]) (by simp) (fun i hi A B hA=>?_) ?_
  ·dsimp only [bA,List.replicate,List.map_cons,List.map_nil,List.cons_append,List.nil_append]
   walk_at "rd"
   exact hA _ rfl
  ·walk_at "rd"
   exact ⟨_,rfl,fin 8 [3] [2,3] ((List.range 10).map fun (i:Nat)=>[0,0+(i:Int)]) _ (.inr (.inr rfl)) (by decide +kernel) h1⟩
 ·walk_at "rd"
  refine bE (fun c1=>?_) (fun c1=>?_)
  ·walk_at "rd"
   exact ⟨_,rfl,fin 8 [3] [2,3] [[0,2],[1,0],[1,2],[2,1],[2,2]] _ (.inr (.inr rfl)) (by decide +kernel) h1⟩
  ·walk_at "rd"
   refine bE (fun c1=>?_) (fun c1=>?_)
   ·walk_at "rd"
    exact ⟨_,rfl,fin 8 [3] [2,3] [[0,0],[1,0],[2,0]] _ (.inr (.inr rfl)) (by decide +kernel) h1⟩
   ·walk_at "rd"
    refine bE (fun c1=>?_) (fun c1=>?_)
    ·walk_at "rd"
     exact ⟨_,rfl,fin 8 [3,6] [2,3] [[0,0],[0,3],[1,4],[2,0],[2,4],[3,1],[3,2],[3,3],[3,4]] _ (.inr (.inr rfl)) (by decide +kernel) h1⟩
    ·walk_at "rd"
     refine bE (fun c1=>?_) (fun c1=>?_)
     ·walk_at "rd"
      exact ⟨_,rfl,fin 8 [3] [2,3] [[0,1],[0,2],[0,3],[1,0],[1,1],[1,2]] _ (.inr (.inr rfl)) (by decide +kernel) h1⟩
     ·walk_at "rd"
      refine bE (fun c1=>?_) (fun c1=>?_)
      ·walk_at "rd"
       exact ⟨_,rfl,fin 4 [2] [] [[0,0],[1,1]] _ (.inl rfl) (by decide +kernel) h1⟩
      ·walk_at "rd"
       refine bE (fun c1=>?_) (fun c1=>?_)
       ·walk_at "rd"
        exact ⟨_,rfl,fin 6 [2] [] [[0,0],[1,0]] _ (.inr (.inl rfl)) (by decide +kernel) h1⟩
       ·walk_at "rd"
        exact ⟨_,rfl,fin 8 [2] [] [[0,0],[0,1],[2,0],[2,1]] _ (.inr (.inr rfl)) (by decide +kernel) h1⟩
end
end My
namespace My
open PySem L2 VL
theorem BS {k:Int} (hk:Kd k):(nr k).Pairwise fun a b=>lexLe a b=true:=by
 rcases hk with rfl | rfl | rfl <;> decide +kernel
theorem lH {k:Int} {l:List (List Int)} (hk:Kd k) (h:l.Perm (nr k)):srt l=nr k:=(gA h.symm (BS hk)).symm
noncomputable def tq (a b:List Int):List Int:=[fs a,fs b,sn a,sn b]
noncomputable def tgs (k:Int):List (List Int):=(nr k).flatMap fun a=>((nr k).filter fun b=>decide (((nr k).map fun s=>led s (tq a b)).Perm (nr k))).map (tq a)
theorem uZ {k:Int} (hk:Kd k) {t:List Int}:aL t (nr k)=nr k↔((nr k).map fun s=>led s t).Perm (nr k):=
 ⟨fun h=>by have:=(aQ ((nr k).map fun s=>led s t)).symm;unfold aL at h;rwa [h] at this,fun h=>lH hk h⟩
theorem BU {k:Int} (hk:Kd k):srt (tgs k)=tgK k:=by
 have h1:(tgK k).Perm (tgs k):=by rcases hk with rfl | rfl | rfl <;> decide +kernel
 have h2:(tgK k).Pairwise fun a b=>lexLe a b=true:=by rcases hk with rfl | rfl | rfl <;> decide +kernel
 exact (gA h1 h2).symm
noncomputable def tgI (k:Int) (a:List Int) (n:Nat):List (List Int):=(((nr k).take n).filter fun b=>decide (((nr k).map fun s=>led s (tq a b)).Perm (nr k))).map (tq a)
noncomputable def tgO (k:Int) (n:Nat):List (List Int):=((nr k).take n).flatMap fun a=>tgI k a (nr k).length
noncomputable def zi:List D->(D->Prop)->Prop:=fun ds R=>∃a b,ds=[eL a,eL b]/\b≠[]/\Pc a/\Pc b/\(a.map (mvd a b)=b->R (eT (mvb a b)))/\(a.map (mvd a b)≠b->R .non)
section
variable {P:Program} {w:World} {K:PySem.W.Frag} {mg:Str->Option Value} {base:Heap}
theorem u0 (S:Src K mg "_law_steps" lw) (T:Txt mg):Has P w K mg base 1 "_law_steps" ["_law_kind"] (spP K oi):=by
 refine bz S gc (by walk_at "1") (fun ds R zq1=>by obtain ⟨_,e,_⟩:=zq1;rw [e];rfl) fun f cdv A outer s H E hr=>⟨_,_,(ai (fP (fun _ h=>ck (i:=1) gc.nd rfl (Or.inl rfl) h) (ba (aa (aj (aa af (aa (gV dY af) ah))) (aa (aj (aa (gV dY af) (aa af ah))) (aa (aj (aa af (aa af ah))) (aa (aj (aa af (aa af ah))) ah))))))
  (ai (aW (aO lN aM (ae 0 (pv 0)) af (aK _)) (ao (fP (fun _ h=>ck (i:=1) gc.nd rfl (Or.inl rfl) h) (sF 1 (pv 1) (ba (aa (aj (aa (gV dY af) (aa (gV dY af) ah))) (aa (aj (aa af (aa af ah))) ah)))))) aG)
  (ai (aW (aO cj dX (ae 0 (pv 0)) af (aK _)) (ao (fP (fun _ h=>ck (i:=1) gc.nd rfl (Or.inl rfl) h) (sF 1 (pv 1) (ba (aa (aj (aa (gV dY af) (aa af ah))) (aa (aj (aa af (aa (gV dY af) ah))) ah)))))) aG)
  (ao (aA (aJ (de rfl rfl (by rfl) T.sorted_ cA (aa (ae 1 (pv 1)) ah)))))))),?_⟩
 rintro ds R ⟨k,rfl,hk,q⟩
 walk_at "sl"
 rcases hk with rfl | rfl | rfl
 ·walk_at "rc"
  refine b9 (mss:=[[0,-1],[-1,0],[1,0],[0,1]]) rfl (by simp) ?_
  rw [show srt [[0,-1],[-1,0],[1,0],[0,1]]=nr 4 from lH (.inl rfl) (by decide +kernel)]
  walk_at "rc"
  exact q
 ·walk_at "rc"
  refine nJ rfl (Nat.le_of_ble_eq_true rfl) ?_
  walk_at "rc"
  refine b9 (mss:=[[0,-1],[-1,0],[1,0],[0,1],[-1,-1],[1,1]]) rfl (by simp) ?_
  rw [show srt [[0,-1],[-1,0],[1,0],[0,1],[-1,-1],[1,1]]=nr 6 from lH (.inr (.inl rfl)) (by decide +kernel)]
  walk_at "rc"
  exact q
 ·walk_at "rc"
  refine nJ rfl (Nat.le_of_ble_eq_true rfl) ?_
  walk_at "rc"
  refine nJ rfl (Nat.le_of_ble_eq_true rfl) ?_
  walk_at "rc"
  refine b9 (mss:=[[0,-1],[-1,0],[1,0],[0,1],[-1,-1],[1,1],[-1,1],[1,-1]]) rfl (by simp) ?_
  rw [show srt [[0,-1],[-1,0],[1,0],[0,1],[-1,-1],[1,1],[-1,1],[1,-1]]=nr 8 from lH (.inr (.inr rfl)) (by decide +kernel)]
  walk_at "rc"
  exact q
theorem om (S:Src K mg "_law_turned" gh) (T:Txt mg):Has P w K mg base 1 "_law_turned" ["_law_live","_law_turning"] (spP K eW):=by
 refine bz S dG (by walk_at "2") (fun ds R zq1=>by obtain ⟨_,_,e,_⟩:=zq1;rw [e];rfl) fun f cdv A outer s H E hr=>⟨_,_,(ai (gC (ae 1 (pv 1)) (bG (n:=4) rfl rfl (aw (au (aq (i:=2) dG.nd rfl (Or.inr rfl) (Or.inl rfl))) (aw (au (aq (i:=3) dG.nd rfl (Or.inr rfl) (Or.inl rfl))) (aw (au (aq (i:=4) dG.nd rfl (Or.inr rfl) (Or.inl rfl))) (aw (au (aq (i:=5) dG.nd rfl (Or.inr rfl) (Or.inl rfl))) br))))))
  (ao (aA (aJ (de rfl rfl (by rfl) T.sorted_ cA (aa (aJ (bN (tg:=["_law_x","_law_y"]) (cs:=["_law_a","_law_b","_law_c","_law_d"]) (ix:=[2,3,4,5]) (aS (ak gh) ["_law_live","_law_turning","_law_a","_law_b","_law_c","_law_d"] (by decide +kernel)) rfl (bM (by decide) (by decide)) (by decide) (bg rfl (ae 0 (pv 0))) (fun _ _ _ _=>(bG (n:=2) rfl rfl (aw (au (aq (i:=0) (show (["_law_x","_law_y","_law_a","_law_b","_law_c","_law_d"]:List Str).Nodup by decide +kernel) rfl (Or.inl rfl) (by first | exact Or.inl rfl | exact Or.inr rfl))) (aw (au (aq (i:=1) (show (["_law_x","_law_y","_law_a","_law_b","_law_c","_law_d"]:List Str).Nodup by decide +kernel) rfl (Or.inl rfl) (by first | exact Or.inl rfl | exact Or.inr rfl))) br)))) (fun _ _ _ _=>bZ) (fun _ _ _ _=>(aj (aa (az aU aM (az bJ bI (ae 2 (pv 2)) (ae 0 (pv 0))) (az bJ bI (ae 3 (pv 3)) (ae 1 (pv 1)))) (aa (az aU aM (az bJ bI (ae 4 (pv 4)) (ae 0 (pv 0))) (az bJ bI (ae 5 (pv 5)) (ae 1 (pv 1)))) ah)))))) ah)))))),?_⟩
 rintro ds R ⟨mss,t,rfl,hp,⟨a,b,c,d,rfl,ha,hb,hc,hd⟩,q⟩
 walk_at "sl"
 walk_at "rd"
 refine comp_map (f:=fun m=>eT (led m [a,b,c,d])) (by have:=hp.2;lia) (fun m hm A B hA=>?_) ?_
 ·obtain ⟨x,y,rfl⟩:=hp.1 m hm
  dsimp only [bA,List.replicate,List.map_cons,List.map_nil,List.cons_append,List.nil_append]
  walk_at "rd"
  exact hA _ rfl
 ·walk_at "rd"
  rw [show mss.map (fun m=>eT (led m [a,b,c,d]))=(mss.map fun m=>led m [a,b,c,d]).map eT by rw [List.map_map];rfl]
  refine b9 (mss:=mss.map fun m=>led m [a,b,c,d]) rfl ?_ ?_
  ·intro ms hm
   obtain ⟨m,h1,rfl⟩:=List.mem_map.mp hm
   obtain ⟨x,y,rfl⟩:=hp.1 m h1
   simp [led]
  ·walk_at "rd"
   exact q
theorem u4 (S:Src K mg "_law_next" ly) (T:Txt mg) (e8_:Has P w K mg base 1 "_law_steps" ["_law_kind"] (spP K oi)):Has P w K mg base 2 "_law_next" ["_law_told","_law_live"] (spP K uN):=by
 refine bz S dQ (by walk_at "2") (fun ds R zq1=>by obtain ⟨_,_,_,_,e,_⟩:=zq1;rw [e];rfl) fun f cdv A outer s H E hr=>⟨_,_,(ai (fU (fun _ h=>ck (i:=2) dQ.nd rfl (Or.inr rfl) h) nN)
  (ai (bP PassesOwn.never rfl (bg rfl (ae 1 (pv 1))) (au (aq (i:=3) dQ.nd rfl (Or.inl rfl) (Or.inl rfl))) (ai (il 2 rfl hr.units (pv 2) (kW rfl hr.units (ae 2 (pv 2)) (ae 3 (pv 3))) (ae 3 (pv 3)))
  (ao (bP PassesOwn.never rfl (bg rfl (aY e8_ hr (aa (aI rfl (ae 0 (pv 0)) af (fun _ _=>rfl)) ah))) (au (aq (i:=4) dQ.nd rfl (Or.inl rfl) (Or.inl rfl))) (ai (aB (i:=5) dQ.nd rfl (Or.inl rfl) (aj (aa (az aU aM (aI rfl (ae 3 (pv 3)) af (fun _ _=>rfl)) (aI rfl (ae 4 (pv 4)) af (fun _ _=>rfl))) (aa (az aU aM (aI rfl (ae 3 (pv 3)) af (fun _ _=>rfl)) (aI rfl (ae 4 (pv 4)) af (fun _ _=>rfl))) ah))))
  (ao (il 2 rfl hr.units (pv 2) (az aU aM (kW rfl hr.units (ae 2 (pv 2)) (ae 5 (pv 5))) af) (ae 5 (pv 5)))))))))
  (ai (fU (fun _ h=>ck (i:=6) dQ.nd rfl (Or.inr rfl) h) nN)
  (ai (bP PassesOwn.never rfl (bg rfl (ae 1 (pv 1))) (au (aq (i:=3) dQ.nd rfl (Or.inl rfl) (Or.inl rfl))) (ao (il 6 rfl hr.units (pv 6) dU (ae 3 (pv 3)))))
  (ao (xo 2 (aA (aJ (de rfl rfl (by rfl) T.sorted_ cA (aa (aJ (bN (tg:=["_law_cell"]) (cs:=["_law_near","_law_told","_law_alive"]) (ix:=[2,0,6]) (aS (ak ly) ["_law_told","_law_live","_law_near","_law_cell","_law_step","_law_there","_law_alive"] (by decide +kernel)) rfl (bK (by decide)) (by decide) (xm (ae 2 (pv 2))) (fun _ _ _ _=>(au (aq (i:=0) (show (["_law_cell","_law_near","_law_told","_law_alive"]:List Str).Nodup by decide +kernel) rfl (Or.inl rfl) (by first | exact Or.inl rfl | exact Or.inr rfl)))) (fun _ _ _ _=>(eN (aO (rH (K:=K) rfl hr.units) oP (Bv rfl hr.units (ae 1 (pv 1)) (ae 0 (pv 0)) (fun _ _=>rfl)) (aI rfl (ae 2 (pv 2)) (az aU aM af (jT jI yk (by rfl) T.int_ ng (aa (cU (yH (K:=K) rfl hr.units) yG (ae 0 (pv 0)) (ae 3 (pv 3)) (by with_unfolding_all rfl)) ah))) (fun _ _=>rfl)) (by with_unfolding_all rfl)))) (fun _ _ _ _=>(aP (ae 0 (pv 0)))))) ah)))))))))),?_⟩
 rintro ds R ⟨k,bo,st,xs,rfl,hk,hp,hl,q⟩
 walk_at "sl"
 unfold rl
 walk_at "rd"
 have nl:=jx hk
 have bl:=iD k
 have sl:=nl
 refine dq (fun i S=>∃kvs s3 s4 s5,Wt (bes k (xs.take i)) (xs.take i) kvs/\S=[.val (rl k bo st),.val (eL xs),od kvs,s3,s4,s5,.no]) ⟨[],_,_,_,⟨by simp,by simp [bes],by simp,by simp⟩,rfl⟩ ?_ ?_
 ·rintro i d S2 e ⟨kvs,s3,s4,s5,tc,rfl⟩
  obtain ⟨c,h1,rfl,hm,ht⟩:=aT e
  have hi:i < xs.length:=(List.getElem?_eq_some_iff.mp h1).1
  obtain ⟨x,y,rfl⟩:=hp c hm
  have b1:=bl (xs.take i)
  have l1:(xs.take i).length<=15625:=by rw [List.length_take];lia
  have l2:(xs.take i).length*(nr k).length<=15625*8:=Nat.mul_le_mul l1 nl
  have t2:=tc.len
  unfold rl
  walk_at "rd"
  refine nS (kvs:=kvs) (ms:=[x,y]) rfl rfl (tc.get _) ?_
  walk_at "rd"
  refine fV (kvs:=kvs) (ms:=[x,y]) rfl rfl (by lia) ?_
  have tc1:Wt (bes k (xs.take i)) (xs.take (i+1)) (b7 kvs [x,y] (.int ((bes k (xs.take i)).count [x,y]:Nat))):=by
   rw [ht]
   refine tc.upd (fun c=>⟨fun h=>?_,fun h=>?_⟩) (fun c hc=>rfl) rfl ?_
   ·rcases h with h | h
    ·exact .inl (.inl h)
    ·rcases List.mem_append.mp h with h | h
     ·exact .inl (.inr h)
     ·exact .inr (List.mem_singleton.mp h)
   ·rcases h with (h | h) | h
    ·exact .inl h
    ·exact .inr (List.mem_append.mpr (.inl h))
    ·exact .inr (List.mem_append.mpr (.inr (List.mem_singleton.mpr h)))
   ·simp only [List.length_append,List.length_singleton];lia
  walk_at "rd"
  refine ⟨k,rfl,hk,?_⟩
  walk_at "rd"
  have l3:(xs.take (i+1)).length<=15625:=by rw [List.length_take];lia
  refine dq (fun j S=>∃kvs s4 s5,Wt (bes k (xs.take i)++((nr k).take j).map (ad [x,y])) (xs.take (i+1)) kvs/\S=[.val (rl k bo st),.val (eL xs),od kvs,.val (eT [x,y]),s4,s5,.no]) ⟨_,_,_,by simpa using tc1,rfl⟩ ?_ ?_
  ·rintro j d S3 e' ⟨kvs,s4,s5,tc,rfl⟩
   obtain ⟨n,h2,rfl,hm',ht'⟩:=aT e'
   obtain ⟨dx,dy,rfl⟩:=mT hk hm'
   have t2:=tc.len
   rw [List.length_append,List.length_map,List.length_take] at t2
   unfold rl
   walk_at "rd"
   refine nS (kvs:=kvs) (ms:=[x+dx,y+dy]) rfl rfl (tc.get _) ?_
   walk_at "rd"
   refine fV (kvs:=kvs) (ms:=[x+dx,y+dy]) rfl rfl (by lia) ?_
   refine ⟨_,_,_,?_,rfl⟩
   rw [ht',List.map_append,<- List.append_assoc]
   show Wt (_++[[x+dx,y+dy]]) _ _
   refine tc.upd (fun c=>⟨fun h=>?_,fun h=>?_⟩) (fun c hc=>?_) ?_ ?_
   ·rcases h with h | h
    ·rcases List.mem_append.mp h with h | h
     ·exact .inl (.inl h)
     ·exact .inr (List.mem_singleton.mp h)
    ·exact .inl (.inr h)
   ·rcases h with (h | h) | h
    ·exact .inl (List.mem_append.mpr (.inl h))
    ·exact .inr h
    ·exact .inl (List.mem_append.mpr (.inr (List.mem_singleton.mpr h)))
   ·rw [List.count_append]
    simp [List.count_cons,Ne.symm hc]
   ·rw [List.count_append (l₂:=[[x+dx,y+dy]])]
    simp only [List.count_singleton_self]
    push_cast
    rfl
   ·simp only [List.length_append,List.length_singleton];lia
  ·rintro S3 ⟨kvs,s4,s5,tc,rfl⟩
   rw [List.length_map,List.take_length] at tc
   refine ⟨kvs,_,_,_,?_,rfl⟩
   have e1:bes k (xs.take (i+1))=bes k (xs.take i)++(nr k).map (ad [x,y]):=by rw [ht];simp [bes]
   rw [e1]
   exact tc
 ·rintro S2 ⟨kvs,s3,s4,s5,tc,rfl⟩
  rw [List.length_map,List.take_length] at tc
  walk_at "rd"
  refine dq (fun i S=>∃s3,S=[.val (rl k bo st),.val (eL xs),od kvs,s3,s4,s5,od (fol (xs.take i))]) ⟨_,rfl⟩ ?_ ?_
  ·rintro i d S2 e ⟨s3,rfl⟩
   obtain ⟨c,h1,rfl,hm,ht⟩:=aT e
   have hi:i < xs.length:=(List.getElem?_eq_some_iff.mp h1).1
   have fl:=xO (xs.take i)
   rw [List.length_take] at fl
   walk_at "rd"
   refine fV (kvs:=fol (xs.take i)) (ms:=c) rfl rfl (by lia) ?_
   rw [<- uK,<- ht]
   exact ⟨_,rfl⟩
  ·rintro S2 ⟨s3,rfl⟩
   rw [List.length_map,List.take_length]
   have b1:=bl xs
   have l2:xs.length*(nr k).length<=15625*8:=Nat.mul_le_mul hl nl
   have t2:=tc.len
   walk_at "rd"
   refine dh (xs:=kvs.map (·.1)) (en:=kT) (f:=eT) (p:=liv k bo st xs) (by rw [List.length_map];lia) (fun c hc A B hA hB=>?_) ?_
   ·dsimp only [bA,List.replicate,List.map_cons,List.map_nil,List.cons_append,List.nil_append]
    obtain ⟨pq,hpq,rfl⟩:=List.mem_map.mp hc
    have hal:decide (pq.1∈(fol xs).map (·.1))=decide (pq.1∈xs):=by
     congr 1
     exact propext mX
    unfold rl
    walk_at "rd"
    refine xr (kvs:=kvs) (ms:=pq.1) rfl rfl ((jy tc.nd hpq).trans (by rw [tc.vals pq hpq])) ?_
    walk_at "rd"
    refine sG (ms:=pq.1) rfl rfl ?_
    rw [if_neg Bool.false_ne_true,hal]
    walk_at "rd"
    refine .inr ⟨_,rfl,?_⟩
    walk_at "rd"
    have hv:decide ((((bes k xs).count pq.1:Nat):Int)∈if decide (pq.1∈xs)=true then st else bo)=liv k bo st xs pq.1:=rfl
    refine yz rfl rfl (show atI _ _=some (.tup ((if decide (pq.1∈xs)=true then st else bo).map .int)) from by by_cases h:pq.1∈xs <;> simp only [h,decide_true,decide_false,if_true,if_false,Bool.false_eq_true] <;> rfl) ?_
    walk_at "rd"
    refine nO (f:=D.int) eO ?_
    rw [hv]
    cases hw:liv k bo st xs pq.1 with
    | true=>walk_at "rc";refine cD (mV _) ?_;walk_at "rc";exact hA _ rfl hw
    | false=>walk_at "rc";exact hB _ rfl hw
   walk_at "rd"
   refine b9 (mss:=(kvs.map (·.1)).filter (liv k bo st xs)) rfl (fun ms hms=>?_) ?_
   ·have hk2:=(tc.keys ms).mp (List.mem_filter.mp hms).1
    obtain ⟨a,b,e⟩:=hk2.elim (jz hk hp ms) (hp ms)
    rw [e];exact List.cons_ne_nil _ _
   ·rw [uo (k:=k) (bo:=bo) (st:=st) (xs:=xs) (tc.nd.filter _) fun c=>by rw [List.mem_filter,tc.keys c]]
    walk_at "rd"
    exact q
theorem Es (S:Src K mg "_law_move" lz) (T:Txt mg):Has P w K mg base 2 "_law_move" ["_law_one","_law_other"] (spP K zi):=by
 refine bz S pD (by walk_at "2") (fun ds R zq1=>by obtain ⟨_,_,e,_⟩:=zq1;rw [e];rfl) fun f cdv A outer s H E hr=>⟨_,_,(ai (aW (aO yf Cq (bh (gY (K:=K) rfl) gW (by rfl) T.len_ dZ (aa (ae 0 (pv 0)) ah)) (bh (gY (K:=K) rfl) gW (by rfl) T.len_ dZ (aa (ae 1 (pv 1)) ah)) (aK _)) (ao (aA bX)) aG)
  (ai (aB (i:=2) pD.nd rfl (Or.inr rfl) (aj (aa (az cr aM (aI rfl (aI rfl (ae 1 (pv 1)) af (fun _ _=>rfl)) af (fun _ _=>rfl)) (aI rfl (aI rfl (ae 0 (pv 0)) af (fun _ _=>rfl)) af (fun _ _=>rfl))) (aa (az cr aM (aI rfl (aI rfl (ae 1 (pv 1)) af (fun _ _=>rfl)) af (fun _ _=>rfl)) (aI rfl (aI rfl (ae 0 (pv 0)) af (fun _ _=>rfl)) af (fun _ _=>rfl))) ah))))
  (ai (aW (aO (nF (K:=K) rfl hr.units) gX (aJ (bN (tg:=["_law_x","_law_y"]) (cs:=["_law_move_here"]) (ix:=[2]) (aS (ak lz) ["_law_one","_law_other","_law_move_here"] (by decide +kernel)) rfl (bM (by decide) (by decide)) (by decide) (bg rfl (ae 0 (pv 0))) (fun _ _ _ _=>(bG (n:=2) rfl rfl (aw (au (aq (i:=0) (show (["_law_x","_law_y","_law_move_here"]:List Str).Nodup by decide +kernel) rfl (Or.inl rfl) (by first | exact Or.inl rfl | exact Or.inr rfl))) (aw (au (aq (i:=1) (show (["_law_x","_law_y","_law_move_here"]:List Str).Nodup by decide +kernel) rfl (Or.inl rfl) (by first | exact Or.inl rfl | exact Or.inr rfl))) br)))) (fun _ _ _ _=>bZ) (fun _ _ _ _=>(aj (aa (az aU aM (ae 0 (pv 0)) (aI rfl (ae 2 (pv 2)) af (fun _ _=>rfl))) (aa (az aU aM (ae 1 (pv 1)) (aI rfl (ae 2 (pv 2)) af (fun _ _=>rfl))) ah)))))) (ae 1 (pv 1)) (aK _)) (ao (aA bX)) aG)
  (ao (aA (aP (ae 2 (pv 2)))))))),?_⟩
 rintro ds R ⟨a,b,rfl,hb,pa,pb,q1,q2⟩
 walk_at "sl"
 walk_at "rd"
 refine rN (fun c=>?_) (fun c=>?_)
 ·walk_at "rd"
  refine q2 fun z=>c ?_
  have:=congrArg List.length z
  rw [List.length_map] at this
  rw [List.length_map,List.length_map,this]
 ·have hab:a.length=b.length:=by rw [List.length_map,List.length_map] at c;lia
  match a,b,hb,hab,pa,pb,q1,q2 with
  | [],d::b,_,hab,_,_,_,_=>cases hab
  | c'::a,d::b,_,_,pa,pb,q1,q2=>
   obtain ⟨x,y,rfl⟩:=pa.1 c' List.mem_cons_self
   obtain ⟨u,v,rfl⟩:=pb.1 d List.mem_cons_self
   walk_at "rd"
   refine bS rfl rfl (cB (xs:=([u,v]::b).map eT) (j:=0) rfl) ?_
   walk_at "rd"
   refine bS rfl rfl (cB (xs:=([x,y]::a).map eT) (j:=0) rfl) ?_
   walk_at "rd"
   refine bS rfl rfl (cB (xs:=([u,v]::b).map eT) (j:=0) rfl) ?_
   walk_at "rd"
   refine bS rfl rfl (cB (xs:=([x,y]::a).map eT) (j:=0) rfl) ?_
   walk_at "rd"
   refine comp_map (xs:=[x,y]::a) (en:=eT) (f:=fun m=>eT (mvd ([x,y]::a) ([u,v]::b) m)) (by have:=pa.2;lia) (fun m hm A B hA=>?_) ?_
   ·obtain ⟨x',y',rfl⟩:=pa.1 m hm
    dsimp only [bA,List.replicate,List.map_cons,List.map_nil,List.cons_append,List.nil_append]
    walk_at "rd"
    exact hA _ rfl
   ·rw [show ([x,y]::a).map (fun m=>eT (mvd ([x,y]::a) ([u,v]::b) m))=(([x,y]::a).map (mvd ([x,y]::a) ([u,v]::b))).map eT by rw [List.map_map];rfl]
    walk_at "rd"
    change gH true (eL (([x,y]::a).map (mvd ([x,y]::a) ([u,v]::b)))) (eL ([u,v]::b)) _
    by_cases h2:([x,y]::a).map (mvd ([x,y]::a) ([u,v]::b))=[u,v]::b
    ·refine sm cX h2 ?_
     walk_at "rc"
     exact q1 h2
    ·refine DD cX h2 ?_
     walk_at "rc"
     exact q2 h2
theorem lI (S:Src K mg "_law_turnings" fx) (T:Txt mg) (e8_:Has P w K mg base 1 "_law_steps" ["_law_kind"] (spP K oi)) (e1_:Has P w K mg base 1 "_law_turned" ["_law_live","_law_turning"] (spP K eW)):Has P w K mg base 2 "_law_turnings" ["_law_kind"] (spP K uS):=by
 refine bz S bU (by walk_at "1") (fun ds R zq1=>by obtain ⟨_,e,_⟩:=zq1;rw [e];rfl) fun f cdv A outer s H E hr=>⟨_,_,(ai (aB (i:=1) bU.nd rfl (Or.inl rfl) (aY e8_ hr (aa (ae 0 (pv 0)) ah)))
  (ai (fP (fun _ h=>ck (i:=2) bU.nd rfl (Or.inl rfl) h) (ba ah))
  (ai (bP PassesOwn.never rfl (bg rfl (ae 1 (pv 1))) (au (aq (i:=3) bU.nd rfl (Or.inl rfl) (Or.inl rfl))) (ao (bP PassesOwn.never rfl (bg rfl (ae 1 (pv 1))) (au (aq (i:=4) bU.nd rfl (Or.inl rfl) (Or.inl rfl))) (ai (aB (i:=5) bU.nd rfl (Or.inl rfl) (aj (aa (aI rfl (ae 3 (pv 3)) af (fun _ _=>rfl)) (aa (aI rfl (ae 4 (pv 4)) af (fun _ _=>rfl)) (aa (aI rfl (ae 3 (pv 3)) af (fun _ _=>rfl)) (aa (aI rfl (ae 4 (pv 4)) af (fun _ _=>rfl)) ah))))))
  (ao (aW (aO (i7 (K:=K) rfl hr.units) gX (aY e1_ hr (aa (ae 1 (pv 1)) (aa (ae 5 (pv 5)) ah))) (ae 1 (pv 1)) (aK _)) (ao (eM (rB 2 rfl (pv 2) (aP (ae 5 (pv 5)))))) aG))))))
  (ao (aA (aJ (de rfl rfl (by rfl) T.sorted_ cA (aa (ae 2 (pv 2)) ah)))))))),?_⟩
 rintro ds R ⟨k,rfl,hk,q⟩
 walk_at "sl"
 walk_at "rd"
 refine ⟨k,rfl,hk,?_⟩
 walk_at "rd"
 have nl:=jx hk
 have pn:Pc (nr k):=⟨fun m hm=>mT hk hm,by lia⟩
 refine dq (fun i S=>∃s3 s4 s5,S=[.val (.int k),.val (eL (nr k)),.own ((tgO k i).map eT),s3,s4,s5]/\(tgO k i).length<=8*i) ⟨_,_,_,rfl,by simp [tgO]⟩ ?_ ?_
 ·rintro i d S2 e ⟨s3,s4,s5,rfl,li⟩
  obtain ⟨a,h1,rfl,hm,ht⟩:=aT e
  have hi:i < (nr k).length:=(List.getElem?_eq_some_iff.mp h1).1
  obtain ⟨ax,ay,rfl,ha⟩:=gi hk hm
  walk_at "rd"
  refine dq (fun j S=>∃s4 s5,S=[.val (.int k),.val (eL (nr k)),.own ((tgO k i++tgI k [ax,ay] j).map eT),.val (eT [ax,ay]),s4,s5]/\(tgI k [ax,ay] j).length<=j) ⟨_,_,(by rw [show tgI k [ax,ay] 0=[] from rfl,List.append_nil] <;> rfl),by simp [tgI]⟩ ?_ ?_
  ·rintro j d S3 e' ⟨s4,s5,rfl,lj⟩
   obtain ⟨b,h2,rfl,hm',ht'⟩:=aT e'
   have hj:j < (nr k).length:=(List.getElem?_eq_some_iff.mp h2).1
   obtain ⟨bx,by_,rfl,hb⟩:=gi hk hm'
   walk_at "rd"
   refine ⟨nr k,tq [ax,ay] [bx,by_],rfl,pn,⟨ax,bx,ay,by_,rfl,⟨ha.1,ha.2.1⟩,⟨hb.1,hb.2.1⟩,⟨ha.2.2.1,ha.2.2.2⟩,⟨hb.2.2.1,hb.2.2.2⟩⟩,?_⟩
   walk_at "rd"
   have st:tgI k [ax,ay] (j+1)=tgI k [ax,ay] j++if ((nr k).map fun s=>led s (tq [ax,ay] [bx,by_])).Perm (nr k) then [tq [ax,ay] [bx,by_]] else []:=by
    unfold tgI
    rw [ht',List.filter_append,List.map_append]
    congr 1
    by_cases h:((nr k).map fun s=>led s (tq [ax,ay] [bx,by_])).Perm (nr k)
    ·rw [if_pos h];simp [List.filter_cons,h]
    ·rw [if_neg h];simp [List.filter_cons,h]
   change gH false (eL (aL (tq [ax,ay] [bx,by_]) (nr k))) (eL (nr k)) _
   by_cases h:aL (tq [ax,ay] [bx,by_]) (nr k)=nr k
   ·refine mz cX h ?_
    rw [if_pos ((uZ hk).mp h)] at st
    walk_at "rc"
    refine ⟨_,_,by rw [st,<- List.append_assoc,List.map_append (l₂:=[tq [ax,ay] [bx,by_]])];rfl,by rw [st,List.length_append,List.length_singleton];lia⟩
   ·refine sj cX h ?_
    rw [if_neg (fun z=>h ((uZ hk).mpr z)),List.append_nil] at st
    walk_at "rc"
    exact ⟨_,_,congrArg (fun z=>[_,_,Sl.own ((tgO k i++z).map eT),_,_,_]) st.symm,by rw [st];lia⟩
  ·rintro S3 ⟨s4,s5,rfl,lj⟩
   rw [List.length_map] at lj ⊢
   have eo:tgO k (i+1)=tgO k i++tgI k [ax,ay] (nr k).length:=by unfold tgO;rw [ht,List.flatMap_append];simp
   exact ⟨_,_,_,congrArg (fun z=>[_,_,Sl.own (z.map eT),_,_,_]) eo.symm,by rw [eo,List.length_append];lia⟩
 ·rintro S2 ⟨s3,s4,s5,rfl,li⟩
  rw [List.length_map,show tgO k (nr k).length=tgs k by unfold tgO tgI tgs;rw [List.take_length]]
  walk_at "rd"
  refine b9 (mss:=tgs k) rfl (fun m hm=>?_) ?_
  ·obtain ⟨a,_,h2⟩:=List.mem_flatMap.mp hm
   obtain ⟨b,_,rfl⟩:=List.mem_map.mp h2
   simp [tq]
  ·rw [BU hk]
   walk_at "rd"
   exact q
end
end My
namespace My
open PySem L2 VL
noncomputable def gE (xs ys:List (List Int)) (m:Nat) (t:List Int):D:=.tup [.int m,eT t,eT (mvb (aL t xs) ys)]
noncomputable def glD (k:Int) (bo st:List Int) (xs:List (List Int)) (T:Nat):D:=match gl k bo st xs T with
 | none=>.non
 | some (m,t)=>gE xs (aft k bo st m xs) m t
noncomputable def u5:List D->(D->Prop)->Prop:=fun ds R=>∃k bo st xs,∃T:Nat,ds=[rl k bo st,eL xs,.int T]/\Kd k/\0∉bo/\T<=60/\Fit k bo st T xs/\(xs=[]->R .non)/\(xs≠[]->R (glD k bo st xs T))
noncomputable def fa (xs:List (List Int)) (t:List Int):D:=.tup [eT t,eL (aL t xs)]
noncomputable def fb (xs:List (List Int)) (t:List Int):D:=.tup [eT t,eL (aL t xs),eL (aC (aL t xs))]
section
variable {P:Program} {w:World} {K:PySem.W.Frag} {mg:Str->Option Value} {base:Heap}
theorem u6 (S:Src K mg "glide" fw) (T:Txt mg) (e2_:Has P w K mg base 2 "refuse_loud" ["rule"] (spP K pH)) (e22_:Has P w K mg base 1 "turned" ["picture","turning"] (spP K eW)) (e14_:Has P w K mg base 1 "turnings" ["kind"] (spP K uS)) (e3_:Has P w K mg base 2 "at_nought" ["picture"] (spP K lD)) (e7_:Has P w K mg base 4 "next_turn" ["rule","picture"] (spP K pNx)) (e6_:Has P w K mg base 1 "move_between" ["one","other"] (spP K pMB)):Has P w K mg base 5 "glide" ["rule","picture","most"] (spP K u5):=by
 refine bz S cf (by walk_at "3") (fun ds R zq1=>by obtain ⟨_,_,_,_,_,e,_⟩:=zq1;rw [e];rfl) fun f cdv A outer s H E hr=>⟨_,_,(ai (eM (aY e2_ hr (aa (ae 0 (pv 0)) ah)))
  (ai (aW (cw (nI rfl (ae 1 (pv 1)))) (ao (aA bX)) aG)
  (ai (i4 (ii:=3) (tg:=["turning"]) (cs:=["picture"]) (ix:=[1]) cf.nd rfl (Or.inl rfl) (Or.inl rfl) (aS (ak fw) ["rule","picture","most","faces","laid","now","many","sought","turning","face","at_start"] (by decide +kernel)) rfl (bK (by decide)) (by decide) (bg rfl (aY e14_ hr (aa (aI rfl (ae 0 (pv 0)) af (fun _ _=>rfl)) ah))) (fun _ _ _ _=>(au (aq (i:=0) (show (["turning","picture"]:List Str).Nodup by decide +kernel) rfl (Or.inl rfl) (by first | exact Or.inl rfl | exact Or.inr rfl)))) (fun _ _ _ _=>bZ) (fun _ _ _ _=>(aj (aa (aP (ae 0 (pv 0))) (aa (aY e22_ hr (aa (ae 1 (pv 1)) (aa (ae 0 (pv 0)) ah))) ah)))))
  (ai (uh (ii:=4) (tg:=["turning","face"]) (cs:=[]) (ix:=[]) cf.nd rfl (Or.inl rfl) (Or.inl rfl) (aS (ak fw) ["rule","picture","most","faces","laid","now","many","sought","turning","face","at_start"] (by decide +kernel)) rfl (bM (by decide) (by decide)) (by decide) (bg rfl (ae 3 (pv 3))) (fun _ _ _ _=>(bG (n:=2) rfl rfl (aw (au (aq (i:=0) (show (["turning","face"]:List Str).Nodup by decide +kernel) rfl (Or.inl rfl) (by first | exact Or.inl rfl | exact Or.inr rfl))) (aw (au (aq (i:=1) (show (["turning","face"]:List Str).Nodup by decide +kernel) rfl (Or.inl rfl) (by first | exact Or.inl rfl | exact Or.inr rfl))) br)))) (fun _ _ _ _=>bZ) (fun _ _ _ _=>(aj (aa (ae 0 (pv 0)) (aa (ae 1 (pv 1)) (aa (aY e3_ hr (aa (ae 1 (pv 1)) ah)) ah))))))
  (ai (aB (i:=5) cf.nd rfl (Or.inl rfl) (ae 1 (pv 1)))
  (ai (bP PassesOwn.never rfl (gG rfl T.range (aa af (aa (az aU aM (ae 2 (pv 2)) af) ah))) (au (aq (i:=6) cf.nd rfl (Or.inl rfl) (Or.inl rfl))) (ai (aB (i:=5) cf.nd rfl (Or.inl rfl) (aY e7_ hr (aa (ae 0 (pv 0)) (aa (ae 5 (pv 5)) ah))))
  (ai (aB (i:=7) cf.nd rfl (Or.inl rfl) (aY e3_ hr (aa (ae 5 (pv 5)) ah)))
  (ao (bP PassesOwn.never rfl (bg rfl (ae 4 (pv 4))) (bG (n:=3) rfl rfl (aw (au (aq (i:=8) cf.nd rfl (Or.inl rfl) (Or.inl rfl))) (aw (au (aq (i:=9) cf.nd rfl (Or.inl rfl) (Or.inl rfl))) (aw (au (aq (i:=10) cf.nd rfl (Or.inl rfl) (Or.inl rfl))) br)))) (ao (aW (aO (i7 (K:=K) rfl hr.units) gX (ae 10 (pv 10)) (ae 7 (pv 7)) (aK _)) (ao (aA (aj (aa (aP (ae 6 (pv 6))) (aa (aP (ae 8 (pv 8))) (aa (aY e6_ hr (aa (ae 9 (pv 9)) (aa (ae 5 (pv 5)) ah))) ah)))))) aG)))))))
  (ao (aA bX)))))))),?_⟩
 rintro ds R ⟨k,bo,st,xs,T',rfl,hk,h0,hT,fit,q1,q2⟩
 walk_at "sl"
 walk_at "rd"
 refine ⟨k,bo,st,rfl,h0,?_⟩
 walk_at "rd"
 by_cases he:xs=[]
 ·refine gJ (d:=eL xs) (b:=false) rfl (by rw [he];rfl) ?_
  walk_at "rc"
  exact q1 he
 ·refine gJ (d:=eL xs) (b:=true) rfl (by cases hc:xs with | nil=>exact absurd hc he | cons a r=>rfl) ?_
  have px:Pc xs:=fit 0 (Nat.zero_le _)
  walk_at "rc"
  refine ⟨k,rfl,hk,?_⟩
  walk_at "rd"
  have tl:=oe hk
  refine comp_map (xs:=tgK k) (en:=eT) (f:=fa xs) (by lia) (fun t ht A B hA=>?_) ?_
  ·dsimp only [bA,List.replicate,List.map_cons,List.map_nil,List.cons_append,List.nil_append]
   walk_at "rd"
   refine ⟨xs,t,rfl,px,cN hk ht,?_⟩
   walk_at "rd"
   exact hA _ rfl
  walk_at "rd"
  refine comp_map (xs:=tgK k) (en:=fa xs) (f:=fb xs) (by lia) (fun t ht A B hA=>?_) ?_
  ·dsimp only [bA,List.replicate,List.map_cons,List.map_nil,List.cons_append,List.nil_append]
   unfold fa
   walk_at "rd"
   refine ⟨_,rfl,iE (cN hk ht) px,?_⟩
   walk_at "rd"
   exact hA _ rfl
  walk_at "rd"
  refine eP (fun i S=>gl k bo st xs i=none/\∃v6 v7 v8 v9 v10,S=[.val (rl k bo st),.val (eL xs),.val (.int T'),.val (.lst ((tgK k).map (fa xs))),.val (.lst ((tgK k).map (fb xs))),.val (eL (aft k bo st i xs)),v6,v7,v8,v9,v10]) ⟨rfl,_,_,_,_,_,rfl⟩ ?_ ?_
  ·rintro i S2 hi ⟨gn,v6,v7,v8,v9,v10,rfl⟩
   have hi':i+1<=T':=by lia
   have p0:=fit i (by lia)
   have p1:=fit (i+1) hi'
   walk_at "rd"
   refine ⟨k,bo,st,_,rfl,hk,h0,p0.1,p0.2,?_⟩
   rw [show My.nx k bo st (aft k bo st i xs)=aft k bo st (i+1) xs from rfl]
   walk_at "rd"
   refine ⟨_,rfl,p1,?_⟩
   walk_at "rd"
   refine dq (fun j S=>(∀t∈(tgK k).take j,aC (aL t xs)≠aC (aft k bo st (i+1) xs))/\∃v8 v9 v10,S=[.val (rl k bo st),.val (eL xs),.val (.int T'),.val (.lst ((tgK k).map (fa xs))),.val (.lst ((tgK k).map (fb xs))),.val (eL (aft k bo st (i+1) xs)),.val (.int (1+(i:Int))),.val (eL (aC (aft k bo st (i+1) xs))),v8,v9,v10]) ⟨by simp,_,_,_,rfl⟩ ?_ ?_
   ·rintro j d S3 e ⟨gj,v8,v9,v10,rfl⟩
    obtain ⟨t,h1,rfl,hm,ht⟩:=aT e
    have pl:=iE (cN hk hm) px
    unfold fb
    walk_at "rd"
    by_cases h:aC (aL t xs)=aC (aft k bo st (i+1) xs)
    ·have n1:aL t xs≠[]:=fun z=>he (List.eq_nil_of_length_eq_zero (by rw [<- lE t xs,z];rfl))
     have n2:aft k bo st (i+1) xs≠[]:=fun z=>n1 (List.eq_nil_of_length_eq_zero (by rw [<- fA,h,z];rfl))
     have q:=q2 he
     unfold glD at q
     rw [mZ gn hi' gj h1 h] at q
     refine mz cX h ?_
     walk_at "rc"
     refine ⟨_,_,rfl,n1,n2,pl,p1,?_⟩
     walk_at "rc"
     rw [show (1+(i:Int))=((i+1:Nat):Int) by lia]
     exact q
    ·refine sj cX h ?_
     walk_at "rc"
     refine ⟨fun u hu=>?_,_,_,_,rfl⟩
     rw [ht] at hu
     rcases List.mem_append.mp hu with hu | hu
     ·exact gj u hu
     ·cases List.mem_singleton.mp hu;exact h
   ·rintro S3 ⟨gj,v8,v9,v10,rfl⟩
    rw [List.length_map,List.take_length] at gj
    exact ⟨lF gn gj,_,_,_,_,_,rfl⟩
  ·rintro S2 ⟨gn,v6,v7,v8,v9,v10,rfl⟩
   rw [show ((T':Int)+1-1).toNat=T' by lia] at gn
   have q:=q2 he
   unfold glD at q
   rw [gn] at q
   walk_at "rd"
   exact q
theorem qF {c_Loud:Addr} (S:Src K mg "glide" fw) (T:Txt mg) (EX_refuse_loud:nQ P w K mg base 2 "refuse_loud" ["rule"] (xK c_Loud)):nQ P w K mg base 5 "glide" ["rule","picture","most"] (Ep c_Loud):=by
 refine yN S cf (by walk_at "3") (fun ds C h=>by obtain ⟨_,_,_,e,_⟩:=h;rw [e];rfl) fun f cdv A outer s H E hr TH=>⟨_,_,(wM TH EX_refuse_loud rfl hr (aa (ae 0 (pv 0)) ah)),?_⟩
 rintro ds C ⟨r,p1,p2,rfl,h⟩
 walk_at "sl"
 walk_at "rd"
 exact ⟨_,C,rfl,h,rfl⟩
end
end My
namespace My
open PySem L2 VL
noncomputable def dueD (k:Int) (bo st:List Int) (xs:List (List Int)) (T:Nat):D:=if xs=[] then .non else glD k bo st xs T
noncomputable def eG (p:Int×List Int×List Int):D:=.tup [.int p.1,eT p.2.1,eT p.2.2]
theorem BV:Enc 2 eG where
 ty:=fun p=>by show (noTy (.int p.1)&&(noTy (eT p.2.1)&&(noTy (eT p.2.2)&&true)))=true;rw [cW.ty p.2.1,cW.ty p.2.2];rfl
 lay:=fun p=>by show PyData.canLay0 (.tuple [.int p.1,pd (eT p.2.1),pd (eT p.2.2)])=true;simp only [PyData.canLay0,PyData.canLayAll0,cW.lay p.2.1,cW.lay p.2.2];decide +kernel
 dep:=fun p=>by
  have a:=cW.dep p.2.1
  have b:=cW.dep p.2.2
  show PyData.depth (.tuple [.int p.1,pd (eT p.2.1),pd (eT p.2.2)])<=2
  simp [PyData.depth,PyData.depthAll]
  lia
 eq:=fun p q=>by
  obtain ⟨a,b,c⟩:=p
  obtain ⟨d,e,f⟩:=q
  show PyData.eqv (.tuple [.int a,pd (eT b),pd (eT c)]) (.tuple [.int d,pd (eT e),pd (eT f)])=true↔_
  simp [PyData.eqv,PyData.eqvAll,cW.eq b e,cW.eq c f]
noncomputable def okG (d:D):Prop:=d=.non\/∃m a b c e x y:Int,d=.tup [.int m,eT [a,b,c,e],eT [x,y]]
theorem BW {k:Int} (hk:Kd k) {bo st:List Int} {xs:List (List Int)} {T:Nat}:okG (glD k bo st xs T):=by
 unfold glD
 cases hc:gl k bo st xs T with
 | none=>exact .inl rfl
 | some r=>
  obtain ⟨m,t⟩:=r
  obtain ⟨a,b,c,e,rfl,_⟩:=cN hk (lG hc).2.2.1
  exact .inr ⟨m,a,b,c,e,_,_,rfl⟩
theorem xZ {k:Int} (hk:Kd k) {bo st:List Int} {xs:List (List Int)} {T:Nat}:okG (dueD k bo st xs T):=by
 unfold dueD
 split
 ·exact .inl rfl
 ·exact BW hk
theorem u7 {k:Int} (hk:Kd k) {bo st:List Int} {xs:List (List Int)} {T:Nat} (h:Pic 8 xs) (hT:T<=20):∀m,m<=T->(∀p∈aft k bo st m xs,Pr p)/\(aft k bo st m xs).length<=10000:=fun m hm=>
 ⟨(Pic.aft hk h m).pr,uV (Pic.aft hk h m) (by lia)⟩
noncomputable def Et:List D->(D->Prop)->Prop:=fun ds R=>∃k bo st xs,∃T:Nat,ds=[rl k bo st,eL xs,.int T]/\Kd k/\T<=20/\Pic 8 xs/\R (dueD k bo st xs T)
noncomputable def pIg:List D->(D->Prop)->Prop:=fun ds R=>∃d,ds=[d,d]/\okG d/\R (.bl true)
noncomputable def u9:List D->(D->Prop)->Prop:=fun ds R=>∃k bo st xs,∃T:Nat,ds=[rl k bo st,eL xs,.int T]/\Kd k/\0∉bo/\T<=20/\Pic 8 xs/\srt xs=xs/\R (.bl true)
section
variable {P:Program} {w:World} {K:PySem.W.Frag} {mg:Str->Option Value} {base:Heap}
theorem vf {c_CellError c_Folded c_Loud c_NoLine c_NoName c_NoNumber c_NoRest c_NoRule c_NoSize c_NoText c_NoThing c_Outside c_TooWide:Addr} (S:Src K mg "_law_is_refused" eF) (T:Txt mg) (EX_glide:nQ P w K mg base 5 "glide" ["rule","picture","most"] (Ep c_Loud))
  (g_CellError:mg "CellError"=some (.ref c_CellError)) (g_ValueError:mg "ValueError"=none) (g_Folded:mg "Folded"=some (.ref c_Folded)) (g_Loud:mg "Loud"=some (.ref c_Loud)) (g_NoLine:mg "NoLine"=some (.ref c_NoLine)) (g_NoName:mg "NoName"=some (.ref c_NoName)) (g_NoNumber:mg "NoNumber"=some (.ref c_NoNumber))
  (g_NoRest:mg "NoRest"=some (.ref c_NoRest)) (g_NoRule:mg "NoRule"=some (.ref c_NoRule)) (g_NoSize:mg "NoSize"=some (.ref c_NoSize)) (g_NoText:mg "NoText"=some (.ref c_NoText)) (g_NoThing:mg "NoThing"=some (.ref c_NoThing)) (g_Outside:mg "Outside"=some (.ref c_Outside)) (g_TooWide:mg "TooWide"=some (.ref c_TooWide))
  (y1:PySem.W.exmOne K (.ref c_Loud) (.ref c_CellError)=some true) (y2:dW K c_Loud=true) (y3:PySem.W.kitOne K (.ref c_Loud) (.ref c_Loud)=some true) (y4:PySem.W.kitOne K (.ref c_Loud) (.type "ValueError")=some true)
  (y5:PySem.W.kitAny K (.ref c_Loud) [.ref c_Folded,.ref c_NoLine,.ref c_NoName,.ref c_NoNumber,.ref c_NoRest,.ref c_NoRule,.ref c_NoSize,.ref c_NoText,.ref c_NoThing,.ref c_Outside]=some false) (y6:PySem.W.kitOne K (.ref c_Loud) (.ref c_TooWide)=some false):Has P w K mg base 6 "_law_is_refused" ["_law_told","_law_live","_law_most"] (spP K (zg c_Loud)):=by
 refine bz S cg (by walk_at "3") (fun ds R zq1=>by obtain ⟨_,_,_,e,_⟩:=zq1;rw [e];rfl) fun f cdv A outer s H E hr=>⟨_,_,(ai (aB (i:=3) cg.nd rfl (Or.inl rfl) (aj ah))
  (ai (A9 (i:=4) EX_glide rfl hr (aa (ae 0 (pv 0)) (aa (ae 1 (pv 1)) (aa (ae 2 (pv 2)) ah))) g_CellError (fun y=>(ai (aB (i:=5) cg.nd rfl (Or.inl rfl) (wL (i:=4) rfl (cE g_Folded (cE g_NoLine (cE g_NoName (cE g_NoNumber (cE g_NoRest (cE g_NoRule (cE g_NoSize (cE g_NoText (cE g_NoThing (cE g_Outside sN)))))))))) (by simp) rfl (Or.inl rfl) (by rfl) T.isinstance_))
  (ao (aB (i:=3) cg.nd rfl (Or.inl rfl) (aj (aa (kU (i:=4) (c:=.ref c_Loud) rfl rfl (eI (by rfl) g_Loud rfl) rfl (Or.inl rfl) (by rfl) T.isinstance_) (aa (kU (i:=4) (c:=.type "ValueError") rfl rfl (eJ (by rfl) g_ValueError PyProof.Rows.Boot.«ValueError» rfl) rfl (Or.inl rfl) (by rfl) T.isinstance_) (aa (Ct (ae 5 (pv 5)) (ny (kU (i:=4) (c:=.ref c_TooWide) rfl rfl (eI (by rfl) g_TooWide rfl) rfl (Or.inl rfl) (by rfl) T.isinstance_))) ah)))))))) (fun _ _ h=>h) rfl rfl rfl cg.nd rfl rfl)
  (ao (aA (cU (i7 (K:=K) rfl hr.units) gX (ae 3 (pv 3)) (aj (aa dU (aa dU (aa dU ah)))) (aK _)))))),?_⟩
 rintro ds R ⟨r,p1,p2,rfl,h,q⟩
 walk_at "sl"
 walk_at "rd"
 unfold DQ
 walk_at "rd"
 refine ⟨Nat.le_of_ble_eq_true rfl,[r,p1,p2],c_Loud,rfl,⟨_,_,_,rfl,h⟩,y1,?_⟩
 dsimp only [List.set]
 walk_at "rd"
 refine Ba rfl y2 y5 ?_
 walk_at "rc"
 refine nR rfl y2 y3 ?_
 walk_at "rc"
 refine nR rfl y2 y4 ?_
 walk_at "rc"
 refine nR rfl y2 y6 ?_
 walk_at "rc"
 refine ⟨Nat.le_of_ble_eq_true rfl,?_⟩
 dsimp only [List.set]
 walk_at "rd"
 refine mz xP (x:=[true,true,false]) (y:=[true,true,false]) rfl ?_
 walk_at "rc"
 exact q
theorem x4 {xs:List Int} {s0 s1 s2:Sl} {Q:VR->List Sl->Prop} (hl:xs.length<=10) (h:Q (.d (.bl true)) [s0,s1,s2]):gZ 1 [] (vgN 0) (vOr (Ac (fM (vCB vS (e7 (lX 0) (e7 (vC (D.ty "int")) nA))))) (fM (vCB vS (e7 (lX 0) (e7 (vC (D.ty "bool")) nA))))) (oN (lX 0)) (AH (k2a (gH false) (p7 (Ae nA)) Q)) (xs.map .int) [s0,s1,s2]:=by
 refine dh (xs:=xs) (en:=D.int) (f:=D.int) (p:=fun _=>false) (by lia) (fun n hn A B hA hB=>?_) ?_
 ·dsimp only [bA,List.replicate,List.map_cons,List.map_nil,List.cons_append,List.nil_append]
  walk_at "rc"
  exact hB _ rfl rfl
 ·rw [show xs.filter (fun _=>false)=[] by simp]
  walk_at "rd"
  change gH false (eL []) (eL []) _
  refine mz cX (x:=[]) (y:=[]) rfl ?_
  exact h
theorem BX (S:Src K mg "_law_due" uk) (T:Txt mg) (e4_:Has P w K mg base 2 "_law_turnings" ["_law_kind"] (spP K uS)) (e1_:Has P w K mg base 1 "_law_turned" ["_law_live","_law_turning"] (spP K eW)) (e13_:Has P w K mg base 2 "_law_next" ["_law_told","_law_live"] (spP K uN)) (e23_:Has P w K mg base 2 "_law_move" ["_law_one","_law_other"] (spP K zi)):Has P w K mg base 3 "_law_due" ["_law_told","_law_live","_law_most"] (spP K Et):=by
 refine bz S fy (by walk_at "3") (fun ds R zq1=>by obtain ⟨_,_,_,_,_,e,_⟩:=zq1;rw [e];rfl) fun f cdv A outer s H E hr=>⟨_,_,(ai (aW (aO (i7 (K:=K) rfl hr.units) gX (ae 1 (pv 1)) (aJ (ba ah)) (aK _)) (ao (aA bX)) aG)
  (ai (aB (i:=3) fy.nd rfl (Or.inl rfl) (aY e4_ hr (aa (aI rfl (ae 0 (pv 0)) af (fun _ _=>rfl)) ah)))
  (ai (aB (i:=4) fy.nd rfl (Or.inl rfl) (ae 1 (pv 1)))
  (ai (bP PassesOwn.never rfl (gG rfl T.range (aa af (aa (az aU aM (ae 2 (pv 2)) af) ah))) (au (aq (i:=5) fy.nd rfl (Or.inl rfl) (Or.inl rfl))) (ai (aB (i:=4) fy.nd rfl (Or.inl rfl) (aY e13_ hr (aa (ae 0 (pv 0)) (aa (ae 4 (pv 4)) ah))))
  (ai (aW (aO yf Cq (bh (gY (K:=K) rfl) gW (by rfl) T.len_ dZ (aa (ae 4 (pv 4)) ah)) (bh (gY (K:=K) rfl) gW (by rfl) T.len_ dZ (aa (ae 1 (pv 1)) ah)) (aK _)) (ao vT) aG)
  (ao (bP PassesOwn.never rfl (bg rfl (ae 3 (pv 3))) (au (aq (i:=6) fy.nd rfl (Or.inl rfl) (Or.inl rfl))) (ai (aB (i:=7) fy.nd rfl (Or.inl rfl) (aY e23_ hr (aa (aY e1_ hr (aa (ae 1 (pv 1)) (aa (ae 6 (pv 6)) ah))) (aa (ae 4 (pv 4)) ah))))
  (ao (aW (aO oA rj (ae 7 (pv 7)) bX (aK _)) (ao (aA (aj (aa (aP (ae 5 (pv 5))) (aa (aP (ae 6 (pv 6))) (aa (aP (ae 7 (pv 7))) ah)))))) aG))))))))
  (ao (aA bX)))))),?_⟩
 rintro ds R ⟨k,bo,st,xs,T',rfl,hk,hT,hpi,q⟩
 have fit:=u7 (bo:=bo) (st:=st) hk hpi hT
 have px:Pc xs:=⟨(fit 0 (Nat.zero_le _)).1,by have:=(fit 0 (Nat.zero_le _)).2;show xs.length<=_;have e:aft k bo st 0 xs=xs:=rfl;rw [e] at this;lia⟩
 walk_at "sl"
 walk_at "rd"
 change gH false (eL xs) (eL []) _
 by_cases he:xs=[]
 ·refine mz cX he ?_
  have e:dueD k bo st xs T'=.non:=if_pos he
  rw [e] at q
  walk_at "rc"
  exact q
 ·refine sj cX he ?_
  have e:dueD k bo st xs T'=glD k bo st xs T':=if_neg he
  rw [e] at q
  walk_at "rc"
  refine ⟨k,rfl,hk,?_⟩
  walk_at "rd"
  have tl:=oe hk
  refine eP (fun i S=>gl k bo st xs i=none/\∃v5 v6 v7,S=[.val (rl k bo st),.val (eL xs),.val (.int T'),.val (eL (tgK k)),.val (eL (aft k bo st i xs)),v5,v6,v7]) ⟨rfl,_,_,_,rfl⟩ ?_ ?_
  ·rintro i S2 hi ⟨gn,v5,v6,v7,rfl⟩
   have hi':i+1<=T':=by lia
   have p0:=fit i (by lia)
   have p1:=fit (i+1) hi'
   walk_at "rd"
   refine ⟨k,bo,st,_,rfl,hk,p0.1,by lia,?_⟩
   rw [show My.nx k bo st (aft k bo st i xs)=aft k bo st (i+1) xs from rfl]
   walk_at "rd"
   refine rN (fun c=>?_) (fun c=>?_)
   ·refine ⟨lF gn fun t ht z=>c ?_,_,_,_,rfl⟩
    have:=congrArg List.length z
    rw [fA,fA,lE] at this
    rw [List.length_map,List.length_map,this]
   ·rw [List.length_map,List.length_map] at c
    have n2:aft k bo st (i+1) xs≠[]:=fun z=>he (List.eq_nil_of_length_eq_zero (by rw [z,List.length_nil] at c;lia))
    have pc1:Pc (aft k bo st (i+1) xs):=⟨p1.1,by lia⟩
    walk_at "rd"
    refine dq (fun j S=>(∀t∈(tgK k).take j,aC (aL t xs)≠aC (aft k bo st (i+1) xs))/\∃v6 v7,S=[.val (rl k bo st),.val (eL xs),.val (.int T'),.val (eL (tgK k)),.val (eL (aft k bo st (i+1) xs)),.val (.int (1+(i:Int))),v6,v7]) ⟨by simp,_,_,rfl⟩ ?_ ?_
    ·rintro j d S3 e ⟨gj,v6,v7,rfl⟩
     obtain ⟨t,h1,rfl,hm,ht⟩:=aT e
     have tn:=cN hk hm
     have pl:=iE tn px
     have n1:aL t xs≠[]:=fun z=>he (List.eq_nil_of_length_eq_zero (by rw [<- lE t xs,z];rfl))
     walk_at "rd"
     refine ⟨xs,t,rfl,px,tn,?_⟩
     walk_at "rd"
     refine ⟨_,_,rfl,n2,pl,pc1,fun h=>?_,fun h=>?_⟩
     ·have h:=(pN pl.1 p1.1 n1).mpr h
      unfold glD at q
      rw [mZ gn hi' gj h1 h] at q
      walk_at "rc"
      rw [show (1+(i:Int))=((i+1:Nat):Int) by lia]
      exact q
     ·walk_at "rc"
      refine ⟨fun u hu=>?_,_,_,rfl⟩
      rw [ht] at hu
      rcases List.mem_append.mp hu with hu | hu
      ·exact gj u hu
      ·cases List.mem_singleton.mp hu;exact fun z=>h ((pN pl.1 p1.1 n1).mp z)
    ·rintro S3 ⟨gj,v6,v7,rfl⟩
     rw [List.length_map,List.take_length] at gj
     exact ⟨lF gn gj,_,_,_,rfl⟩
  ·rintro S2 ⟨gn,v5,v6,v7,rfl⟩
   rw [show ((T':Int)+1-1).toNat=T' by lia] at gn
   unfold glD at q
   rw [gn] at q
   walk_at "rd"
   exact q
theorem Eu (S:Src K mg "_law_is_glide" eU) (T:Txt mg):Has P w K mg base 1 "_law_is_glide" ["_law_found","_law_due_here"] (spP K pIg):=by
 refine bz S jw (by walk_at "2") (fun ds R zq1=>by obtain ⟨_,e,_⟩:=zq1;rw [e];rfl) fun f cdv A outer s H E hr=>⟨_,_,(ai (aW (iX (jS (aO iO lZ (ae 0 (pv 0)) bX (aK _)) (gB (aO iO lZ (ae 1 (pv 1)) bX (aK _))))) (ao (aA (rm (cU iO lZ (ae 0 (pv 0)) bX (aK _)) (ny (cU iO lZ (ae 1 (pv 1)) bX (aK _)))))) aG)
  (ai (aW (iX (jS (cw (cu (bh (mx (K:=K) rfl) mh (by rfl) T.isinstance_ bw (aa (ae 0 (pv 0)) (aa (iW (eJ (v:=.ty "tuple") (by rfl) T.tuple_ fF rfl) (fun _ _=>.ty _)) ah))))) (gB (aO (nF (K:=K) rfl hr.units) gX (ae 0 (pv 0)) (ae 1 (pv 1)) (aK _))))) (ao (aA dU)) aG)
  (ai (aW (iX (jS (cw (cu (bh (mx (K:=K) rfl) mh (by rfl) T.isinstance_ bw (aa (aI rfl (ae 0 (pv 0)) af (fun _ _=>rfl)) (aa (iW (eJ (v:=.ty "tuple") (by rfl) T.tuple_ fF rfl) (fun _ _=>.ty _)) ah))))) (gB (cw (cu (bh (mx (K:=K) rfl) mh (by rfl) T.isinstance_ bw (aa (aI rfl (ae 0 (pv 0)) af (fun _ _=>rfl)) (aa (iW (eJ (v:=.ty "tuple") (by rfl) T.tuple_ fF rfl) (fun _ _=>.ty _)) ah)))))))) (ao (aA dU)) aG)
  (ai (aB (i:=2) jw.nd rfl (Or.inl rfl) (aJ (oZ (oZ (ba (aa (aP (aI rfl (ae 0 (pv 0)) af (fun _ _=>rfl))) ah)) (fN rfl (by rfl) T.list_ (aa (aI rfl (ae 0 (pv 0)) af (fun _ _=>rfl)) ah))) (fN rfl (by rfl) T.list_ (aa (aI rfl (ae 0 (pv 0)) af (fun _ _=>rfl)) ah)))))
  (ao (aA (cU (i7 (K:=K) rfl hr.units) gX (aJ (bN (tg:=["_law_n"]) (cs:=[]) (ix:=[]) (aS (ak eU) ["_law_found","_law_due_here","_law_numbers"] (by decide +kernel)) rfl (bK (by decide)) (by decide) (bg rfl (ae 2 (pv 2))) (fun _ _ _ _=>(au (aq (i:=0) (show (["_law_n"]:List Str).Nodup by decide +kernel) rfl (Or.inl rfl) (by first | exact Or.inl rfl | exact Or.inr rfl)))) (fun _ _ _ _=>(eN (iX (jS (cw (cu (bh (mx (K:=K) rfl) mh (by rfl) T.isinstance_ bw (aa (ae 0 (pv 0)) (aa (iW (eJ (v:=.ty "int") (by rfl) T.int_ ng rfl) (fun _ _=>.ty _)) ah))))) (gB (cu (bh (mx (K:=K) rfl) mh (by rfl) T.isinstance_ bw (aa (ae 0 (pv 0)) (aa (iW (eJ (v:=.ty "bool") (by rfl) T.bool_ vH rfl) (fun _ _=>.ty _)) ah))))))))) (fun _ _ _ _=>(aP (ae 0 (pv 0)))))) (aJ (ba ah)) (aK _)))))))),?_⟩
 rintro ds R ⟨d,rfl,ok,q⟩
 walk_at "sl"
 rcases ok with rfl | ⟨m,a,b,c,e,x,y,rfl⟩
 ·walk_at "rc"
  exact q
 ·walk_at "rc"
  change kIf _ _ _ (!(pd (eG (m,[a,b,c,e],[x,y]))).eqv (pd (eG (m,[a,b,c,e],[x,y])))) _
  rw [BV.eqv,decide_eq_true rfl]
  walk_at "rc"
  refine d8 (ds:=[.int a,.int b,.int c,.int e]) rfl rfl ?_
  walk_at "rc"
  refine yP (Nat.le_of_ble_eq_true rfl) ?_
  walk_at "rc"
  refine d8 (ds:=[.int x,.int y]) rfl rfl ?_
  walk_at "rc"
  refine yP (Nat.le_of_ble_eq_true rfl) ?_
  walk_at "rc"
  refine x4 (xs:=[m,a,b,c,e,x,y]) (by simp) ?_
  walk_at "rc"
  exact q
theorem vj (S:Src K mg "_law_right" lA) (T:Txt mg) (e26_:Has P w K mg base 3 "_law_due" ["_law_told","_law_live","_law_most"] (spP K Et)) (e9_:Has P w K mg base 5 "glide" ["rule","picture","most"] (spP K u5)) (e12_:Has P w K mg base 1 "_law_is_glide" ["_law_found","_law_due_here"] (spP K pIg)) (e28_:Has P w K mg base 5 "fate" ["rule","picture","most"] (spP K zh)):Has P w K mg base 6 "_law_right" ["_law_told","_law_live","_law_most"] (spP K u9):=by
 refine bz S eH (by walk_at "3") (fun ds R zq1=>by obtain ⟨_,_,_,_,_,e,_⟩:=zq1;rw [e];rfl) fun f cdv A outer s H E hr=>⟨_,_,(ai (aB (i:=3) eH.nd rfl (Or.inl rfl) (aY e26_ hr (aa (ae 0 (pv 0)) (aa (ae 1 (pv 1)) (aa (ae 2 (pv 2)) ah)))))
  (ai (aB (i:=4) eH.nd rfl (Or.inl rfl) (aJ (fN rfl (by rfl) T.list_ (aa (ae 1 (pv 1)) ah))))
  (ai (bP PassesOwn.never rfl (cy rfl T.range (aa (az aU aM af (jT jI yk (by rfl) T.int_ ng (aa (cU qQ aM (ae 2 (pv 2)) af (aK _)) ah))) ah)) (au (aq (i:=5) eH.nd rfl (Or.inl rfl) (Or.inl rfl))) (ao (aW (iX (jS (cw (cu (aY e12_ hr (aa (aY e9_ hr (aa (ae 0 (pv 0)) (aa (ae 4 (pv 4)) (aa (ae 2 (pv 2)) ah)))) (aa (ae 3 (pv 3)) ah))))) (gB (aO (nF (K:=K) rfl hr.units) gX (ae 4 (pv 4)) (ae 1 (pv 1)) (aK _))))) (ao (aA dU)) aG)))
  (ai (aB (i:=6) eH.nd rfl (Or.inl rfl) (aY e28_ hr (aa (ae 0 (pv 0)) (aa (ae 4 (pv 4)) (aa (ae 2 (pv 2)) ah)))))
  (ai (aW (iX (Ad (aO cj dX (aI rfl (ae 6 (pv 6)) af (fun _ _=>rfl)) kF (aK _)) (vR (aO cj dX (aI rfl (ae 6 (pv 6)) af (fun _ _=>rfl)) af (aK _))))) (ao (aA (rm (cU oA rj (ae 3 (pv 3)) bX (aK _)) (ny (cU cj dX (az cR bI (aI rfl (ae 6 (pv 6)) af (fun _ _=>rfl)) (aI rfl (ae 3 (pv 3)) af (fun _ _=>rfl))) af (aK _)))))) aG)
  (ao (aA dU))))))),?_⟩
 rintro ds R ⟨k,bo,st,xs,T',rfl,hk,h0,hT,hpi,hs,q⟩
 have fit:=u7 (bo:=bo) (st:=st) hk hpi hT
 have fit2:Fit k bo st T' xs:=fun m hm=>⟨(fit m hm).1,by have:=(fit m hm).2;lia⟩
 have px:Pc xs:=fit2 0 (Nat.zero_le _)
 have ok:=xZ hk (bo:=bo) (st:=st) (xs:=xs) (T:=T')
 walk_at "sl"
 walk_at "rd"
 refine ⟨k,bo,st,xs,T',rfl,hk,hT,hpi,?_⟩
 walk_at "rd"
 refine rY rfl (cV _) ?_
 walk_at "rd"
 refine .inr ⟨_,rfl,?_⟩
 walk_at "rd"
 refine eP (fun i S=>∃v5 v6,S=[.val (rl k bo st),.val (eL xs),.val (.int T'),.val (dueD k bo st xs T'),.val (eL xs),v5,v6]) ⟨_,_,rfl⟩ ?_ ?_
 ·rintro i S2 hi ⟨v5,v6,rfl⟩
  walk_at "rd"
  refine ⟨k,bo,st,xs,T',rfl,hk,h0,by lia,fit2,fun he=>?_,fun he=>?_⟩
  ·have e:dueD k bo st xs T'=.non:=if_pos he
   rw [e] at ok ⊢
   walk_at "rd"
   refine ⟨_,rfl,ok,?_⟩
   walk_at "rc"
   refine sm cX (x:=xs) (y:=xs) rfl ?_
   walk_at "rc"
   exact ⟨_,_,rfl⟩
  ·have e:dueD k bo st xs T'=glD k bo st xs T':=if_neg he
   rw [e] at ok ⊢
   walk_at "rd"
   refine ⟨_,rfl,ok,?_⟩
   walk_at "rc"
   refine sm cX (x:=xs) (y:=xs) rfl ?_
   walk_at "rc"
   exact ⟨_,_,rfl⟩
 ·rintro S2 ⟨v5,v6,rfl⟩
  walk_at "rd"
  refine ⟨k,bo,st,xs,T',rfl,hk,h0,by lia,fit2,fun t ht un et=>?_,fun t m ht hm un et en=>?_,fun un=>?_⟩
  ·unfold fE
   walk_at "rc"
   exact q
  ·unfold fE
   walk_at "rc"
   refine bE (fun c=>?_) (fun c=>?_)
   ·obtain rfl:m=0:=by lia
    have a:Alk k bo st xs t:=⟨[1,0,0,1],uw hk,by rw [jB px.1,hs];exact en⟩
    cases hc:gl k bo st xs T' with
    | none=>exact absurd a (gl_none hc t (by lia) ht)
    | some r=>
     obtain ⟨n,s⟩:=r
     obtain ⟨d1,d2,d3,d4,d5⟩:=lG hc
     have dv:=xW hk px.1 hs d1 ⟨s,d3,d4⟩ d5 t a
     have he:xs≠[]:=un.1 0 hm
     have e:dueD k bo st xs T'=gE xs (aft k bo st n xs) n s:=by unfold dueD glD;rw [if_neg he,hc]
     rw [e]
     unfold gE
     walk_at "rc"
     rw [show decide (((t:Int)-((0:Nat):Int))%(n:Int)=0)=true from decide_eq_true (by lia)]
     walk_at "rc"
     exact q
   ·walk_at "rc"
    exact q
  ·unfold fE
   walk_at "rc"
   exact q
end
end My
namespace My
open PySem L2 VL
section
variable {P:Program} {w:World} {K:PySem.W.Frag} {mg:Str->Option Value} {base:Heap}
theorem BY {c_Loud:Addr} (S:Src K mg "law" xG) (T:Txt mg) (e29_:Has P w K mg base 1 "_law_pen" ["_law_script","_law_k"] (spP K Ee)) (e27_:Has P w K mg base 2 "_law_rule" ["_law_pen_here"] (spI K 0 zf)) (e25_:Has P w K mg base 2 "_law_cells" ["_law_pen_here"] (spI K 0 uL)) (e0_:Has P w K mg base 1 "_law_draw" ["_law_pen_here","_law_many"] (spI K 0 g9)) (e18_:Has P w K mg base 2 "_law_known" ["_law_pen_here"] (spI K 0 uM)) (e4_:Has P w K mg base 2 "_law_turnings" ["_law_kind"] (spP K uS)) (e1_:Has P w K mg base 1 "_law_turned" ["_law_live","_law_turning"] (spP K eW)) (e11_:Has P w K mg base 2 "_law_number" ["_law_pen_here"] (spI K 0 pM)) (e19_:Has P w K mg base 6 "_law_right" ["_law_told","_law_live","_law_most"] (spP K u9)) (e10_:Has P w K mg base 6 "_law_is_refused" ["_law_told","_law_live","_law_most"] (spP K (zg c_Loud))):Has P w K mg base 7 "law" ["_law_script"] (spP K xH):=by
 refine bz S dm (by walk_at "1") (fun ds R zq1=>by obtain ⟨_,e,_⟩:=zq1;rw [e];rfl) fun f cdv A outer s H E hr=>⟨_,_,(ai (bP PassesOwn.never rfl (cy rfl T.range (aa af ah)) (au (aq (i:=1) dm.nd rfl (Or.inl rfl) (Or.inl rfl))) (ai (vU (fun _ h=>ck (i:=2) dm.nd rfl (Or.inl rfl) h) (Cz e29_ hr (aa (ae 0 (pv 0)) (aa (ae 1 (pv 1)) ah))))
  (ai (aB (i:=3) dm.nd rfl (Or.inl rfl) (bf e27_ hr (aa (ae 2 (pv 2)) ah)))
  (ai (aB (i:=4) dm.nd rfl (Or.inl rfl) (bf e25_ hr (aa (ae 2 (pv 2)) ah)))
  (ai (aB (i:=5) dm.nd rfl (Or.inl rfl) (az aU aM af (bf e0_ hr (aa (ae 2 (pv 2)) (aa af ah)))))
  (ai (aW (aO cj dX (bf e0_ hr (aa (ae 2 (pv 2)) (aa af ah))) af (aK _)) (ai (gC (bf e18_ hr (aa (ae 2 (pv 2)) ah)) (bG (n:=2) rfl rfl (aw (au (aq (i:=3) dm.nd rfl (Or.inl rfl) (Or.inl rfl))) (aw (au (aq (i:=4) dm.nd rfl (Or.inl rfl) (Or.inl rfl))) br))))
  (ao (aB (i:=5) dm.nd rfl (Or.inl rfl) (az aU aM (ae 5 (pv 5)) (aI rfl (aJ (ba (aa af (aa af (aa af (aa af ah)))))) (bf e0_ hr (aa (ae 2 (pv 2)) (aa af ah))) (fun _ _=>rfl)))))) aG)
  (ai (aB (i:=6) dm.nd rfl (Or.inl rfl) (aY e4_ hr (aa (aI rfl (ae 3 (pv 3)) af (fun _ _=>rfl)) ah)))
  (ai (aB (i:=4) dm.nd rfl (Or.inl rfl) (aY e1_ hr (aa (ae 4 (pv 4)) (aa (aI rfl (ae 6 (pv 6)) (bf e0_ hr (aa (ae 2 (pv 2)) (aa (bh (gY (K:=K) rfl) gW (by rfl) T.len_ dZ (aa (ae 6 (pv 6)) ah)) ah))) (fun _ _=>rfl)) ah))))
  (ai (aB (i:=7) dm.nd rfl (Or.inr rfl) (bf e11_ hr (aa (ae 2 (pv 2)) ah)))
  (ai (aB (i:=8) dm.nd rfl (Or.inr rfl) (bf e11_ hr (aa (ae 2 (pv 2)) ah)))
  (ai (aW (cw (cu (aY e19_ hr (aa (ae 3 (pv 3)) (aa (aJ (bN (tg:=["_law_x","_law_y"]) (cs:=["_law_dx","_law_dy"]) (ix:=[7,8]) (aS (ak xG) ["_law_script","_law_k","_law_pen_here","_law_told","_law_cells_here","_law_most","_law_some","_law_dx","_law_dy","_law_loud"] (by decide +kernel)) rfl (bM (by decide) (by decide)) (by decide) (bg rfl (ae 4 (pv 4))) (fun _ _ _ _=>(bG (n:=2) rfl rfl (aw (au (aq (i:=0) (show (["_law_x","_law_y","_law_dx","_law_dy"]:List Str).Nodup by decide +kernel) rfl (Or.inl rfl) (by first | exact Or.inl rfl | exact Or.inr rfl))) (aw (au (aq (i:=1) (show (["_law_x","_law_y","_law_dx","_law_dy"]:List Str).Nodup by decide +kernel) rfl (Or.inl rfl) (by first | exact Or.inl rfl | exact Or.inr rfl))) br)))) (fun _ _ _ _=>bZ) (fun _ _ _ _=>(aj (aa (az aU aM (ae 0 (pv 0)) (ae 2 (pv 2))) (aa (az aU aM (ae 1 (pv 1)) (ae 3 (pv 3))) ah)))))) (aa (ae 5 (pv 5)) ah)))))) (ao (aA dU)) aG)
  (ai (aB (i:=9) dm.nd rfl (Or.inl rfl) (aj (aa (aI rfl (ae 3 (pv 3)) af (fun _ _=>rfl)) (aa (xt rfl (aj (aa af ah)) (aI rfl (ae 3 (pv 3)) af (fun _ _=>rfl))) (aa (aI rfl (ae 3 (pv 3)) af (fun _ _=>rfl)) ah)))))
  (ao (aW (iX (jS (cw (cu (aY e10_ hr (aa (ae 9 (pv 9)) (aa (ae 4 (pv 4)) (aa af ah)))))) (gB (cw (cu (aY e10_ hr (aa (ae 9 (pv 9)) (aa (aJ (ba ah)) (aa af ah))))))))) (ao (aA dU)) aG))))))))))))))
  (ao (aA dU))),?_⟩
 rintro ds R ⟨ns,rfl,hn,q⟩
 walk_at "sl"
 walk_at "rd"
 refine eP (fun i S=>∃v1 v2 v3 v4 v5 v6 v7 v8 v9,S=[.val (.lst (ns.map .int)),v1,v2,v3,v4,v5,v6,v7,v8,v9]) ⟨_,_,_,_,_,_,_,_,_,rfl⟩ ?_ ?_
 ·rintro i S2 hi ⟨v1,v2,v3,v4,v5,v6,v7,v8,v9,rfl⟩
  have hi':i < 2:=hi
  walk_at "rd"
  rw [Int.zero_add]
  refine ⟨ns,i,rfl,by lia,fun x y=>⟨_,rfl,rfl,?_⟩⟩
  refine oQ (ns:=[x,y,0]) rfl ?_
  walk_at "rd"
  refine ⟨0,rfl,⟨_,_,_,rfl,by lia,by lia⟩,by lia,fun k bo sy pn' hk h0 hbl h1=>?_⟩
  walk_at "rd"
  refine ⟨40,rfl,h1.le (by lia),by lia,fun mss pn' hp hl h2=>?_⟩
  walk_at "rd"
  refine ⟨100,5,rfl,h2.le (by lia),by lia,by lia,by lia,fun pn3 r3 h3 r3a r3b=>?_⟩
  walk_at "rd"
  refine ⟨101,3,rfl,h3.le (by lia),by lia,by lia,by lia,fun pn4 r4 h4 r4a r4b=>?_⟩
  walk_at "rd"
  dsimp only [List.set_cons_zero,List.set_cons_succ]
  refine oV (fun S'=>∃(k:Int) (bo sy:List Int) (mss:List (List Int)) (T':Nat) (pn':List Int),Kd k/\0∉bo/\bo.length<=20/\Pic 3 mss/\mss.length<=11/\T'<=20/\Pn 110 pn'/\S'=[.val (.lst (ns.map .int)),.val (.int i),.pen none pn',.val (rl k bo sy),.val (eL mss),.val (.int T'),v6,v7,v8,v9]) ?_ ?_ ?_
  ·clear hk h0 hbl hp hl h1 h2 h3 h4
   rintro S' ⟨k,bo,sy,mss,T',pn1,hk,h0,hbl,hp,hl,hT,h1,rfl⟩
   unfold rl
   walk_at "rd"
   refine ⟨k,rfl,hk,?_⟩
   walk_at "rd"
   have tl:=oe hk
   rw [List.length_map]
   refine ⟨110,((tgK k).length:Int),rfl,h1,by lia,by lia,by lia,fun pn2 r2 h2 r2a r2b=>?_⟩
   obtain ⟨j,rfl⟩:∃j:Nat,r2=(j:Int):=⟨r2.toNat,by lia⟩
   have hj:j < (tgK k).length:=by lia
   have ht:(tgK k)[j]∈tgK k:=List.getElem_mem hj
   have ej:(tgK k)[j]?=some (tgK k)[j]:=List.getElem?_eq_getElem hj
   generalize (tgK k)[j]=t at ht ej
   walk_at "rd"
   refine bS rfl rfl (cB (xs:=(tgK k).map eT) (j:=j) (by rw [List.getElem?_map,ej];rfl)) ?_
   walk_at "rd"
   have pm:Pc mss:=⟨hp.pr,by lia⟩
   have tn:=cN hk ht
   refine ⟨mss,t,rfl,pm,tn,?_⟩
   walk_at "rd"
   refine ⟨_,rfl,h2,by lia,fun dx pn3 h3=>?_⟩
   walk_at "rd"
   refine ⟨_,rfl,h3,by lia,fun dy pn4 h4=>?_⟩
   walk_at "rd"
   have pl:=iE tn pm
   refine comp_map (xs:=aL t mss) (en:=eT) (f:=fun m=>eT (mv dx dy m)) (by have:=pl.2;lia) (fun m hm A B hA=>?_) ?_
   ·obtain ⟨x,y,rfl⟩:=pl.1 m hm
    dsimp only [bA,List.replicate,List.map_cons,List.map_nil,List.cons_append,List.nil_append]
    walk_at "rd"
    exact hA _ rfl
   rw [show (aL t mss).map (fun m=>eT (mv dx dy m))=(GG t dx dy mss).map eT by unfold GG;rw [List.map_map];rfl]
   walk_at "rd"
   refine ⟨k,bo,sy,GG t dx dy mss,T',rfl,hk,h0,hT,xX hk ht hp,qD tn hp.pr,?_⟩
   walk_at "rc"
   refine t6 (by simp) (by rw [List.length_map];show 1+_<=_;lia) ?_
   walk_at "rd"
   refine ⟨_,_,_,rfl,⟨rfl,k,0::bo,sy,rfl,List.mem_cons_self⟩,?_⟩
   walk_at "rc"
   refine ⟨_,_,_,rfl,⟨rfl,k,0::bo,sy,rfl,List.mem_cons_self⟩,?_⟩
   walk_at "rc"
   exact ⟨_,_,_,_,_,_,_,_,_,rfl⟩
  ·intro nx hnx c1
   walk_at "rd"
   refine ⟨102,rfl,h4.le (by lia),by lia,fun k bo sy mss pn5 hk h0 hbl hp hl h5=>?_⟩
   walk_at "rd"
   refine ⟨103,4,rfl,h5.le (by lia),by lia,by lia,by lia,fun pn6 r6 h6 r6a r6b=>?_⟩
   obtain ⟨e,he,e6⟩:∃e:Nat,e<=10/\atI [D.int 0,.int 10,.int 0,.int 2] r6=some (.int e):=by
    rcases (by lia:r6=0\/r6=1\/r6=2\/r6=3) with e | e | e | e <;> rw [e]
    ·exact ⟨0,by lia,rfl⟩
    ·exact ⟨10,by lia,rfl⟩
    ·exact ⟨0,by lia,rfl⟩
    ·exact ⟨2,by lia,rfl⟩
   walk_at "rd"
   refine bS rfl rfl e6 ?_
   walk_at "rd"
   refine hnx _ ⟨k,bo,sy,mss,(1+r3+e).toNat,_,hk,h0,hbl,hp,hl,by lia,h6.le (by lia),?_⟩
   rw [show (((1+r3+(e:Int)).toNat:Nat):Int)=1+r3+e by lia]
  ·intro nx hnx c1
   walk_at "rd"
   refine hnx _ ⟨k,bo,sy,mss,(1+r3).toNat,_,hk,h0,hbl,hp,hl,by lia,h4.le (by lia),?_⟩
   rw [show (((1+r3).toNat:Nat):Int)=1+r3 by lia]
 ·rintro S2 ⟨v1,v2,v3,v4,v5,v6,v7,v8,v9,rfl⟩
  walk_at "rd"
  exact q
end
end My
namespace My
open PySem L2 VL
theorem BZ {l:PySem.W.OpenLaw} {w:World} {h:Heap} {mg:Str->Option Value} {fa:Addr} {a_OFFSETS:Addr} {a_SQUARE_TURNINGS:Addr} {a_SIX_TURNINGS:Addr} {c_Loud:Addr}  {c_CellError:Addr}  {c_Folded:Addr}  {c_NoLine:Addr}  {c_NoName:Addr}  {c_NoNumber:Addr}  {c_NoRest:Addr}  {c_NoRule:Addr}  {c_NoSize:Addr}  {c_NoText:Addr}  {c_NoThing:Addr}  {c_Outside:Addr}  {c_TooWide:Addr} (X:K.In h) (G:h.Ns mainGlobals mg) (hfa:mg "law"=some (.ref fa))
  (S0:Src K mg "_law_pen" uj) (S1:Src K mg "_law_draw" n8) (S2:Src K mg "offsets" jr) (S3:Src K mg "turnings" gN) (S4:Src K mg "turned" iz) (S5:Src K mg "comes" nZ) (S6:Src K mg "is_quiet" js) (S7:Src K mg "refuse_loud" cI) (S8:Src K mg "refuse_loud" cI) (S9:Src K mg "counts" lr) (S10:Src K mg "watched" jt) (S11:Src K mg "living_next" cK) (S12:Src K mg "next_turn" gP) (S13:Src K mg "moved" lh) (S14:Src K mg "box_of" jo) (S15:Src K mg "at_nought" gM) (S16:Src K mg "move_between" dP) (S17:Src K mg "key_of" n6) (S18:Src K mg "fate" ui) (S19:Src K mg "glide" fw) (S20:Src K mg "glide" fw) (S21:Src K mg "_law_number" ju) (S22:Src K mg "_law_rule" jv) (S23:Src K mg "_law_known" iB) (S24:Src K mg "_law_cells" iC) (S25:Src K mg "_law_steps" lw) (S26:Src K mg "_law_turned" gh) (S27:Src K mg "_law_turnings" fx) (S28:Src K mg "_law_next" ly) (S29:Src K mg "_law_move" lz) (S30:Src K mg "_law_due" uk) (S31:Src K mg "_law_is_glide" eU) (S32:Src K mg "_law_is_refused" eF) (S33:Src K mg "_law_right" lA) (S34:Src K mg "law" xG)
  (n_OFFSETS:PySem.W.nsIn K mainGlobals "OFFSETS"=some (some (.ref a_OFFSETS))) (k_OFFSETS:okD K a_OFFSETS rows=true) (n_SQUARE_TURNINGS:PySem.W.nsIn K mainGlobals "SQUARE_TURNINGS"=some (some (.ref a_SQUARE_TURNINGS))) (k_SQUARE_TURNINGS:kE K (.ref a_SQUARE_TURNINGS) sq=true) (n_SIX_TURNINGS:PySem.W.nsIn K mainGlobals "SIX_TURNINGS"=some (some (.ref a_SIX_TURNINGS))) (k_SIX_TURNINGS:kE K (.ref a_SIX_TURNINGS) six=true) (h_Loud:PySem.W.nsIn K mainGlobals "Loud"=some (some (.ref c_Loud)))  (h_CellError:PySem.W.nsIn K mainGlobals "CellError"=some (some (.ref c_CellError)))  (h_Folded:PySem.W.nsIn K mainGlobals "Folded"=some (some (.ref c_Folded)))  (h_NoLine:PySem.W.nsIn K mainGlobals "NoLine"=some (some (.ref c_NoLine)))  (h_NoName:PySem.W.nsIn K mainGlobals "NoName"=some (some (.ref c_NoName)))  (h_NoNumber:PySem.W.nsIn K mainGlobals "NoNumber"=some (some (.ref c_NoNumber)))  (h_NoRest:PySem.W.nsIn K mainGlobals "NoRest"=some (some (.ref c_NoRest)))  (h_NoRule:PySem.W.nsIn K mainGlobals "NoRule"=some (some (.ref c_NoRule)))  (h_NoSize:PySem.W.nsIn K mainGlobals "NoSize"=some (some (.ref c_NoSize)))  (h_NoText:PySem.W.nsIn K mainGlobals "NoText"=some (some (.ref c_NoText)))  (h_NoThing:PySem.W.nsIn K mainGlobals "NoThing"=some (some (.ref c_NoThing)))  (h_Outside:PySem.W.nsIn K mainGlobals "Outside"=some (some (.ref c_Outside)))  (h_TooWide:PySem.W.nsIn K mainGlobals "TooWide"=some (some (.ref c_TooWide))) (y0:PySem.W.nsIn K mainGlobals "ValueError"=some none) (y1:PySem.W.excIn K c_Loud [.type "ValueError",.type "Exception",.type "BaseException",.type "object"] "ValueError.__new__"=true) (y2:PySem.W.exmOne K (.ref c_Loud) (.ref c_CellError)=some true) (y3:dW K c_Loud=true) (y4:PySem.W.kitOne K (.ref c_Loud) (.ref c_Loud)=some true) (y5:PySem.W.kitOne K (.ref c_Loud) (.type "ValueError")=some true) (y6:PySem.W.kitAny K (.ref c_Loud) [.ref c_Folded,.ref c_NoLine,.ref c_NoName,.ref c_NoNumber,.ref c_NoRest,.ref c_NoRule,.ref c_NoSize,.ref c_NoText,.ref c_NoThing,.ref c_Outside]=some false) (y7:PySem.W.kitOne K (.ref c_Loud) (.ref c_TooWide)=some false)
  (z0:PySem.W.nsIn K mainGlobals "len"=some none) (z1:PySem.W.nsIn K mainGlobals "range"=some none) (z2:PySem.W.nsIn K mainGlobals "abs"=some none) (z3:PySem.W.nsIn K mainGlobals "isinstance"=some none) (z4:PySem.W.nsIn K mainGlobals "int"=some none) (z5:PySem.W.nsIn K mainGlobals "bool"=some none) (z6:PySem.W.nsIn K mainGlobals "list"=some none) (z7:PySem.W.nsIn K mainGlobals "tuple"=some none) (z8:PySem.W.nsIn K mainGlobals "sorted"=some none) (z9:PySem.W.nsIn K mainGlobals "max"=some none) (z10:PySem.W.nsIn K mainGlobals "min"=some none) (z11:PySem.W.nsIn K mainGlobals "all"=some none) (z12:PySem.W.nsIn K mainGlobals "any"=some none) (z13:PySem.W.nsIn K mainGlobals "set"=some none) (z14:PySem.W.nsIn K mainGlobals "sum"=some none) (z15:PySem.W.nsIn K mainGlobals "str"=some none) :
  ∃fd:FuncData,(∀(s:Shared) (v:Value),BindsTo s fd ⟨[v],[]⟩ [("_law_script",v)])/\∀base:Heap,K.In base->base.Ns mainGlobals mg->hW l.prog w K mg base CX0 7 fa fd ["_law_script"] (spP K xH):=by
 have no:=fun {n:Str} (z:PySem.W.nsIn K mainGlobals n=some none)=>PySem.W.mg_none_of X G z
 have T:Txt mg:=⟨no z0,no z1,no z2,no z3,no z4,no z5,no z6,no z7,no z8,no z9,no z10,no z11,no z12,no z13,no z14,no z15⟩
 refine vJ S34 hfa (fun _ _ _ _ _ _ _=>rfl) fun base=>?_
 have e29_:=BI (P:=l.prog) (w:=w) (base:=base) S0 T
 have e0_:=xJ (P:=l.prog) (w:=w) (base:=base) S1 T
 have e15_:=BM (P:=l.prog) (w:=w) (base:=base) S2 T  (PySem.W.mg_of X G n_OFFSETS) k_OFFSETS
 have e14_:=mY (P:=l.prog) (w:=w) (base:=base) S3 T  (PySem.W.mg_of X G n_SQUARE_TURNINGS) (PySem.W.mg_of X G n_SIX_TURNINGS) k_SQUARE_TURNINGS k_SIX_TURNINGS
 have e22_:=qC (P:=l.prog) (w:=w) (base:=base) S4 T
 have e21_:=uG (P:=l.prog) (w:=w) (base:=base) S5 T
 have e5_:=uH (P:=l.prog) (w:=w) (base:=base) S6 T
 have e2_:=xM (P:=l.prog) (w:=w) (base:=base) S7 T e5_
 have e32_:=uI (P:=l.prog) (w:=w) (base:=base) S8 T e5_ (PySem.W.mg_of X G h_Loud) y1
 have e31_:=qy (P:=l.prog) (w:=w) (base:=base) S9 T e15_
 have e16_:=oh (P:=l.prog) (w:=w) (base:=base) S10 T e31_
 have e20_:=Ek (P:=l.prog) (w:=w) (base:=base) S11 T e21_
 have e7_:=El (P:=l.prog) (w:=w) (base:=base) S12 T e2_ e20_ e16_
 have e17_:=uR (P:=l.prog) (w:=w) (base:=base) S13 T
 have e30_:=BO (P:=l.prog) (w:=w) (base:=base) S14 T
 have e3_:=qB (P:=l.prog) (w:=w) (base:=base) S15 T e30_ e17_
 have e6_:=Er (P:=l.prog) (w:=w) (base:=base) S16 T
 have e24_:=BP (P:=l.prog) (w:=w) (base:=base) S17 T e3_
 have e28_:=xT (P:=l.prog) (w:=w) (base:=base) S18 T e2_ e7_ e24_ e6_
 have e9_:=u6 (P:=l.prog) (w:=w) (base:=base) S19 T e2_ e22_ e14_ e3_ e7_ e6_
 have e33_:=qF (P:=l.prog) (w:=w) (base:=base) S20 T e32_
 have e11_:=qE (P:=l.prog) (w:=w) (base:=base) S21 T e0_
 have e27_:=xY (P:=l.prog) (w:=w) (base:=base) S22 T e0_
 have e18_:=uY (P:=l.prog) (w:=w) (base:=base) S23 T e0_
 have e25_:=uX (P:=l.prog) (w:=w) (base:=base) S24 T e0_
 have e8_:=u0 (P:=l.prog) (w:=w) (base:=base) S25 T
 have e1_:=om (P:=l.prog) (w:=w) (base:=base) S26 T
 have e4_:=lI (P:=l.prog) (w:=w) (base:=base) S27 T e8_ e1_
 have e13_:=u4 (P:=l.prog) (w:=w) (base:=base) S28 T e8_
 have e23_:=Es (P:=l.prog) (w:=w) (base:=base) S29 T
 have e26_:=BX (P:=l.prog) (w:=w) (base:=base) S30 T e4_ e1_ e13_ e23_
 have e12_:=Eu (P:=l.prog) (w:=w) (base:=base) S31 T
 have e10_:=vf (P:=l.prog) (w:=w) (base:=base) S32 T e33_ (PySem.W.mg_of X G h_CellError) (no y0) (PySem.W.mg_of X G h_Folded) (PySem.W.mg_of X G h_Loud) (PySem.W.mg_of X G h_NoLine) (PySem.W.mg_of X G h_NoName) (PySem.W.mg_of X G h_NoNumber) (PySem.W.mg_of X G h_NoRest) (PySem.W.mg_of X G h_NoRule) (PySem.W.mg_of X G h_NoSize) (PySem.W.mg_of X G h_NoText) (PySem.W.mg_of X G h_NoThing) (PySem.W.mg_of X G h_Outside) (PySem.W.mg_of X G h_TooWide) y2 y3 y4 y5 y6 y7
 have e19_:=vj (P:=l.prog) (w:=w) (base:=base) S33 T e26_ e9_ e12_ e28_
 exact BY (P:=l.prog) (w:=w) (base:=base) S34 T e29_ e27_ e25_ e0_ e18_ e4_ e1_ e11_ e19_ e10_
theorem walk {l:PySem.W.OpenLaw} {q:Program} {loose:List Str} {XP:(Str->Option Value)->Heap->Prop} {YP:World->Heap->Prop} {d:DefRec} {K:Params->PySem.W.Frag} (hn:l.most=some 63) (hdf:d.params.defaults=[])
  (hY:∀(w:World) (h:Heap),YP w h->(K w.params).In h)
  (F:∀(w:World) (mg:Str->Option Value) (fa:Addr) (h:Heap),(K w.params).In h->h.Ns mainGlobals mg->mg d.name=some (.ref fa) ->
   ∃fd:FuncData,(∀(s:Shared) (u:Value),BindsTo s fd ⟨[u],[]⟩ [("_law_script",u)])/\∀base:Heap,(K w.params).In base->base.Ns mainGlobals mg->hW l.prog w (K w.params) mg base CX0 7 fa fd ["_law_script"] (spP (K w.params) xH)) :
  PySem.W.WalkO q loose XP YP l.row.toRowW d [] (fun f vs=>PySem.call f vs):=
 L2.vG (n:=63) (k:=7) (x:="_law_script") (CX:=fun _=>CX0) (sp:=fun w=>spP (K w.params) xH) hn (by decide) hdf ⟨rfl,by decide,by decide,rfl⟩ hY F
  (fun _ _ a ns hl _ hS=>⟨_,fun d=>d=.bl true,.cons (Rep.of_sqL hS trivial (fun _=>trivial) Reps.ints) .nil,⟨ns,rfl,hl,rfl⟩,fun d v H' e _ r=>by subst e;cases r;rfl⟩) fun _ _ _ _ _ z=>z
end My
def PySem.W.Fast.tw11555380737910753501:Unit:=()
def PySem.W.Fast.tw11591988959030154206:Unit:=()
def PySem.W.Fast.tw17959831515280220080:Unit:=()
def PySem.W.Fast.tw9122344321652896869:Unit:=()
def PySem.W.Fast.tw5613849441778505507:Unit:=()
def PySem.W.Fast.tw2725344975756647673:Unit:=()
def PySem.W.Fast.tw2004399630890906777:Unit:=()
def PySem.W.Fast.tw14026298350484160253:Unit:=()
def PySem.W.Fast.tw6933914659565065833:Unit:=()
def PySem.W.Fast.tw15416712279951908300:Unit:=()
def PySem.W.Fast.tw11675610940463549489:Unit:=()
def PySem.W.Fast.tw8058330981055660833:Unit:=()
def PySem.W.Fast.tw16702999161456676840:Unit:=()
def PySem.W.Fast.tw9214189020725157430:Unit:=()
def PySem.W.Fast.tw15683703774386500313:Unit:=()
def PySem.W.Fast.tw15070886815662375523:Unit:=()
def PySem.W.Fast.tw17967126733788059681:Unit:=()
def PySem.W.Fast.tw10385105426697990103:Unit:=()
def PySem.W.Fast.tw14103001359020122627:Unit:=()
def PySem.W.Fast.tw7615062306474317148:Unit:=()
def PySem.W.Fast.tw17074015650671372950:Unit:=()
def PySem.W.Fast.tw5681956325009277524:Unit:=()
open PySem PySem.W PyProof.Rows
set_option maxRecDepth 100000 in
set_option maxHeartbeats 0 in
theorem PySem.Challenge.cw_cellships_k24_glides_holds : PySem.Challenge.rw_cellships_k24_glides.Holds := by
 w_on;o_law;k_head;(case hw=>w_witness2)
 k_fill
 refine My.walk (l:=PySem.Challenge.rw_cellships_k24_glides) rfl rfl (fun w h Y=>PySem.W.kIn_of Y) ?F
 case F=>
  intro w mg fa h KX G hmg
  refine' My.BZ KX G hmg (L2.aR KX G ?a0 ?l0 ?c0 ?k0) (L2.aR KX G ?a1 ?l1 ?c1 ?k1) (L2.aR KX G ?a2 ?l2 ?c2 ?k2) (L2.aR KX G ?a3 ?l3 ?c3 ?k3) (L2.aR KX G ?a4 ?l4 ?c4 ?k4) (L2.aR KX G ?a5 ?l5 ?c5 ?k5) (L2.aR KX G ?a6 ?l6 ?c6 ?k6) (L2.aR KX G ?a7 ?l7 ?c7 ?k7) (L2.aR KX G ?a8 ?l8 ?c8 ?k8) (L2.aR KX G ?a9 ?l9 ?c9 ?k9) (L2.aR KX G ?a10 ?l10 ?c10 ?k10) (L2.aR KX G ?a11 ?l11 ?c11 ?k11) (L2.aR KX G ?a12 ?l12 ?c12 ?k12) (L2.aR KX G ?a13 ?l13 ?c13 ?k13) (L2.aR KX G ?a14 ?l14 ?c14 ?k14) (L2.aR KX G ?a15 ?l15 ?c15 ?k15) (L2.aR KX G ?a16 ?l16 ?c16 ?k16) (L2.aR KX G ?a17 ?l17 ?c17 ?k17) (L2.aR KX G ?a18 ?l18 ?c18 ?k18) (L2.aR KX G ?a19 ?l19 ?c19 ?k19) (L2.aR KX G ?a20 ?l20 ?c20 ?k20) (L2.aR KX G ?a21 ?l21 ?c21 ?k21) (L2.aR KX G ?a22 ?l22 ?c22 ?k22) (L2.aR KX G ?a23 ?l23 ?c23 ?k23) (L2.aR KX G ?a24 ?l24 ?c24 ?k24) (L2.aR KX G ?a25 ?l25 ?c25 ?k25) (L2.aR KX G ?a26 ?l26 ?c26 ?k26) (L2.aR KX G ?a27 ?l27 ?c27 ?k27) (L2.aR KX G ?a28 ?l28 ?c28 ?k28) (L2.aR KX G ?a29 ?l29 ?c29 ?k29) (L2.aR KX G ?a30 ?l30 ?c30 ?k30) (L2.aR KX G ?a31 ?l31 ?c31 ?k31) (L2.aR KX G ?a32 ?l32 ?c32 ?k32) (L2.aR KX G ?a33 ?l33 ?c33 ?k33) (L2.aR KX G ?a34 ?l34 ?c34 ?k34) ?n0 ?m0 ?n1 ?m1 ?n2 ?m2 ?h0 ?h1 ?h2 ?h3 ?h4 ?h5 ?h6 ?h7 ?h8 ?h9 ?h10 ?h11 ?h12 ?y0 ?y1 ?y2 ?y3 ?y4 ?y5 ?y6 ?y7 ?z0 ?z1 ?z2 ?z3 ?z4 ?z5 ?z6 ?z7 ?z8 ?z9 ?z10 ?z11 ?z12 ?z13 ?z14 ?z15
  (case a0 | l0 | c0 | k0 | a1 | l1 | c1 | k1 | a2 | l2 | c2 | k2 | a3 | l3 | c3 | k3 | a4 | l4 | c4 | k4 | a5 | l5 | c5 | k5 | a6 | l6 | c6 | k6 | a7 | l7 | c7 | k7 | a8 | l8 | c8 | k8 | a9 | l9 | c9 | k9 | a10 | l10 | c10 | k10 | a11 | l11 | c11 | k11 | a12 | l12 | c12 | k12 | a13 | l13 | c13 | k13 | a14 | l14 | c14 | k14 | a15 | l15 | c15 | k15 | a16 | l16 | c16 | k16 | a17 | l17 | c17 | k17 | a18 | l18 | c18 | k18 | a19 | l19 | c19 | k19 | a20 | l20 | c20 | k20 | a21 | l21 | c21 | k21 | a22 | l22 | c22 | k22 | a23 | l23 | c23 | k23 | a24 | l24 | c24 | k24 | a25 | l25 | c25 | k25 | a26 | l26 | c26 | k26 | a27 | l27 | c27 | k27 | a28 | l28 | c28 | k28 | a29 | l29 | c29 | k29 | a30 | l30 | c30 | k30 | a31 | l31 | c31 | k31 | a32 | l32 | c32 | k32 | a33 | l33 | c33 | k33 | a34 | l34 | c34 | k34 | n0=>k_is)
  (case m0=>kernel_rfl)
  (case n1=>k_is)
  (case m1=>kernel_rfl)
  (case n2=>k_is)
  (case m2=>kernel_rfl)
  (case h0 | h1 | h2 | h3 | h4 | h5 | h6 | h7 | h8 | h9 | h10 | h11 | h12=>k_is)
  (case y0 | y1 | y2 | y3 | y4 | y5 | y6 | y7=>first | kernel_rfl | k_is)
  (case z0 | z1 | z2 | z3 | z4 | z5 | z6 | z7 | z8 | z9 | z10 | z11 | z12 | z13 | z14 | z15=>k_is)
#print axioms PySem.Challenge.cw_cellships_k24_glides_holds
