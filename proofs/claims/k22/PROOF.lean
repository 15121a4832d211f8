import PyProof.Rows.All
import Wide.All
import OpenK.AllK
import Wide.FinOn
import Lean
import PyProof.EqAt
import PyProof.EqKinds
import PyProof.TupleCall
import PyProof.NeData
import PyProof.P3In
import PyProof.ListRange
import PyProof.TupleOfStr
import PyProof.Rows.SumAny
import PyProof.Rows.Range3
import PyProof.StrCalls
import PyProof.Rows.SetFrom
import PyProof.WalksMore
import PyProof.TupleOfSeq
import KE.KRevSl
import KE.KLam
import KE.KSortKey
import KE.KNestM
import OpenK.KOwn
import KE.KIsNot
import KE.KTryMore
import PyProof.DictTable
import PyProof.Rows.TupDisplay
import PyProof.ReprLen
import PyProof.ReprRoads
import KE.KDictOf
import PyProof.AttrMissHeap
import PyProof.NeKinds
import PyProof.ZipIter
import PyProof.DictCompW
import PyProof.DictItems
import PyProof.DictWalks
import PyProof.DictDisplay
import PyProof.ExcAttrAll.ValueError
import PyProof.TupleKey
import PyProof.IsRules
import KE.KDictList
import KE.KDictSum
import PyProof.FactsAll.set_1
import PyProof.FactsAll.set_2
import PySem.Challenge.RW_cellships_k22_papers_refused
set_option Elab.async false
set_option linter.all false
set_option bootstrap.genMatcherCode false
set_option genSizeOf false
set_option maxRecDepth 100000
set_option maxHeartbeats 4000000
namespace L2
open PySem PySem.Spec PyProof.Rows
noncomputable abbrev Key:=Sum Int Str
noncomputable def yF:Key->Value->Bool
 | .inl k,v=>Value.isInt k v
 | .inr x,v=>Value.isStrOf x v
noncomputable def Fp (w:World):Key->Int
 | .inl k=>hashInt k
 | .inr x=>hashStr w x
theorem br:∀{k:Key} {v:Value},yF k v=true->(∃i t,k=Sum.inl i/\v=Value.int i t)\/(∃x t,k=Sum.inr x/\v=Value.str x t)
 | .inl i,v,h=>by
  obtain ⟨t,e⟩:=Value.isInt_shape (k:=i) (v:=v) h
  exact .inl ⟨i,t,rfl,e⟩
 | .inr x,v,h=>by
  obtain ⟨t,e⟩:=Value.isStrOf_shape (x:=x) (v:=v) h
  exact .inr ⟨x,t,rfl,e⟩
theorem zN (a b:Int):decide ((Sum.inl a:Key)=Sum.inl b)=(a==b):=by
 by_cases e:a=b
 ·subst e;simp
 ·have h:¬ (Sum.inl a:Key)=Sum.inl b:=fun q=>e (Sum.inl.inj q)
  rw [decide_eq_false h]
  exact (beq_eq_false_iff_ne.mpr e).symm
theorem zO (a b:Str):decide ((Sum.inr a:Key)=Sum.inr b)=decide (a=b):=by
 by_cases e:a=b
 ·subst e;simp
 ·have h:¬ (Sum.inr a:Key)=Sum.inr b:=fun q=>e (Sum.inr.inj q)
  rw [decide_eq_false h,decide_eq_false e]
theorem zP (a:Int) (b:Str):decide ((Sum.inl a:Key)=Sum.inr b)=false:=decide_eq_false (fun q=>nomatch q)
theorem zQ (a:Str) (b:Int):decide ((Sum.inr a:Key)=Sum.inl b)=false:=decide_eq_false (fun q=>nomatch q)
noncomputable def ko (prog:Program) (w:World):PySem.KeyKind prog w Key where
 is:=yF
 hash:=Fp w
 inj:=fun v a b ha hb=>by
  rcases br ha with ⟨i,t,rfl,rfl⟩ | ⟨x,t,rfl,rfl⟩
  ·rcases br hb with ⟨j,u,rfl,e⟩ | ⟨y,u,rfl,e⟩
   ·injection e with e1 _;rw [e1]
   ·exact nomatch e
  ·rcases br hb with ⟨j,u,rfl,e⟩ | ⟨y,u,rfl,e⟩
   ·exact nomatch e
   ·injection e with e1 _;rw [e1]
 byValue:=fun k v h=>by
  rcases br h with ⟨i,t,rfl,rfl⟩ | ⟨x,t,rfl,rfl⟩ <;> rfl
 pyHash:=fun hv h=>by
  rcases br hv with ⟨i,t,rfl,rfl⟩ | ⟨x,t,rfl,rfl⟩
  ·exact wpAny_pyHash_int h
  ·exact wpAny_pyHash_str h
 eqBool:=fun hu hv h=>by
  rcases br hu with ⟨i,t,rfl,rfl⟩ | ⟨x,t,rfl,rfl⟩
  ·rcases br hv with ⟨j,u,rfl,rfl⟩ | ⟨y,u,rfl,rfl⟩
   ·rw [zN] at h;exact wpAny_eqBool_int h
   ·rw [zP] at h;exact SeqAt.EqAt.int_str i t y u _ _ _ _ h
  ·rcases br hv with ⟨j,u,rfl,rfl⟩ | ⟨y,u,rfl,rfl⟩
   ·rw [zQ] at h;exact SeqAt.EqAt.str_int x t j u _ _ _ _ h
   ·rw [zO] at h;exact wpAny_eqBool_str h
 «strs»:=fun k x t v h=>by
  rcases br h with ⟨i,u,rfl,e⟩ | ⟨y,u,rfl,e⟩
  ·exact nomatch e
  ·injection e with e1 _
   subst e1
   cases v <;> rfl
end L2
namespace L2
open PySem PySem.Spec PyProof.Rows
inductive V where
 | non | bl (b:Bool) | int (i:Int) | str (x:Str) | byt (b:Array UInt8) | flt (b:UInt64) | ref (a:Addr) | ty (n:String)
 deriving DecidableEq
noncomputable def RelV:V->Value->Prop
 | .non,u=>u=Value.none
 | .bl b,u=>u=Value.bool b
 | .int i,u=>∃t,u=Value.int i t
 | .str x,u=>∃t,u=Value.str x t
 | .byt b,u=>∃t,u=Value.bytes b t
 | .flt b,u=>∃t,u=Value.float b t
 | .ref a,u=>u=Value.ref a
 | .ty n,u=>u=Value.type n
noncomputable abbrev Vals:List V->List Value->Prop:=Paired RelV
theorem Vals.length {xs:List V} {us:List Value} (r:Vals xs us):xs.length=us.length:=Paired.length r
theorem Vals.get:∀{xs:List V} {us:List Value} {i:Nat} {x:V},Vals xs us->xs[i]?=some x->∃u,us[i]?=some u/\RelV x u
 | _,_,_,_,.nil,e=>by simp at e
 | _,_,0,_,.cons r _,e=>by simp at e;subst e;exact ⟨_,rfl,r⟩
 | _,_,i+1,x,.cons _ t,e=>by
  obtain ⟨u,h1,h2⟩:=Vals.get (i:=i) (x:=x) t (by simpa using e)
  exact ⟨u,by simpa using h1,h2⟩
theorem Vals.set {x:V} {u:Value} (r:RelV x u):∀{xs:List V} {us:List Value} (i:Nat),Vals xs us->Vals (xs.set i x) (us.set i u)
 | _,_,_,.nil=>.nil
 | _,_,0,.cons _ t=>.cons r t
 | _,_,i+1,.cons q t=>.cons q (Vals.set r i t)
theorem Vals.append:∀{xs ys:List V} {us ws:List Value},Vals xs us->Vals ys ws->Vals (xs++ys) (us++ws)
 | _,_,_,_,.nil,s=>s
 | _,_,_,_,.cons r t,s=>.cons r (Vals.append t s)
theorem Vals.take:∀{xs:List V} {us:List Value} (n:Nat),Vals xs us->Vals (xs.take n) (us.take n)
 | _,_,0,_=>.nil
 | _,_,_+1,.nil=>.nil
 | _,_,n+1,.cons r t=>.cons r (Vals.take n t)
theorem Vals.drop:∀{xs:List V} {us:List Value} (n:Nat),Vals xs us->Vals (xs.drop n) (us.drop n)
 | _,_,0,r=>r
 | _,_,_+1,.nil=>.nil
 | _,_,n+1,.cons _ t=>Vals.drop n t
noncomputable def RelO:Option V->Option Value->Prop
 | some v,some u=>RelV v u
 | none,none=>True
 | _,_=>False
noncomputable def KV {κ:Type}:List (κ×V)->List (κ×Value)->Prop:=Paired fun (p:κ×V) (q:κ×Value)=>p.1=q.1/\RelV p.2 q.2
noncomputable def kV:Key->V
 | .inl i=>.int i
 | .inr x=>.str x
inductive HO where
 /-- a list -/
 | lst (xs:List V)
 /-- a tuple (never changes) -/
 | tup (xs:List V)
 /-- a dict whose keys are ints and texts;one whose keys are tuples of ints and texts (the empty one is both) -/
 | dK (kvs:List (Key×V)) | dT (kvs:List (List Key×V))
 /-- a set of ints: its members,its size -/
 | set (S:Int->Bool) (n:Nat)
 /-- an instance of the class at C,its dict at dx,its attributes -/
 | ins (C dx:Addr) (fs:List (Str×V))
 /-- the dict of the instance at x -/
 | own (x:Addr)
 /-- the dict of an exception -/
 | xd (fs:List (Str×V))
 /-- a bound method,f of x -/
 | met (f x:Addr)
 /-- a range object lo,lo+1,.. below hi -/
 | rng (lo hi:Int)
 /-- a thing that is known to the object (the script;a dict while a loop walks it): read,never written while it is so -/
 | frz (o:Obj) (u:HO)
 /-- a code object's table -/
 | tbl (ps:Array Value)
 /-- any other thing,by what is true of its one object (a def of one's own: SetO a S n:=HO.ext fun h=>..) -/
 | ext (φ:Heap->Prop)
noncomputable abbrev Hp:=Addr->Option HO
noncomputable def upd (H:Hp) (a:Addr) (o:HO):Hp:=fun b=>if b=a then some o else H b
theorem aK {H:Hp} {a:Addr} {o:HO}:upd H a o a=some o:=by unfold upd;rw [if_pos rfl]
theorem aL {H:Hp} {a b:Addr} {o:HO} (h:b≠a):upd H a o b=H b:=by unfold upd;rw [if_neg h]
theorem aZ {H:Hp} {a b:Addr} {o:HO} (h:H a=some o) (h':H b=none):a≠b:=by
 intro e;subst e;rw [h] at h';cases h'
section
variable (P:Program) (w:World)
noncomputable def bF (H:Hp) (h:Heap) (a:Addr):HO->Prop
 | .lst xs=>xs.length<=sizeLine/\∃(its:List Value) (n:Nat),Vals xs its/\h.get? a=some { cls:=.type "list",data:=.seq its.toArray n }
 | .tup xs=>xs.length<=sizeLine/\∃its:List Value,Vals xs its/\IsTup h a its.toArray
 | .dK kvs=>kvs.length<=sizeLine/\(a==sysModules)=false/\∃vs,KV kvs vs/\h.DictOf (ko P w) a vs
 | .dT kvs=>kvs.length<=sizeLine/\(a==sysModules)=false/\∃xs:List (List Key×Addr×Value),
   Paired (fun (p:List Key×V) (q:List Key×Addr×Value)=>p.1=q.1/\H q.2.1=some (.tup (p.1.map kV))/\RelV p.2 q.2.2) kvs xs /\
   ∃o es ep,h.get? a=some o/\o.ExactDict/\o.data=.dict es ep/\es.toList=xs.map (entryOfKey (tupleKind (ko P w)))/\(xs.map (·.1)).Nodup
 | .set S n=>h.SetOf (intKind P w) a S n
 | .ins C dx fs=>H dx=some (.own a)/\fs.length<=1000/\dx≠a/\h.get? a=some (PySem.W.instObj C dx) /\
   ∃mA,h.Ns1 dx mA/\(∀f,RelO (fs.lookup f) (mA f))/\PySem.Within mA (fs.map (·.1))
 | .own _=>∃o,h.get? a=some o
 | .xd fs=>∃mA,h.Ns1 a mA/\∀f,RelO (fs.lookup f) (mA f)
 | .rng lo hi=>∃t u v,h.get? a=some { cls:=.type "range",data:=.fields #[.int lo t,.int hi u,.int 1 v] }
 | .frz o u=>h.get? a=some o/\bF H h a u
 | .tbl ps=>∃qs,h.get? a=some { cls:=.none,data:=.fields qs }/\TriplesOk qs.toList/\∀pos cv,codeAmong pos qs.toList=some cv->∃c q t,cv=.ref c/\H c=some (.own a)/\ps[0]?=some (.str q t)/\h.CodeRec cv q
 | .met f x=>h.get? a=some (PySem.W.methodObj (.ref f) (.ref x))
 | .ext φ=>φ h/\(∃o,h.get? a=some o)/\∀h1 h2:Heap,φ h1->(∀o,h1.get? a=some o->h2.get? a=some o)->φ h2
noncomputable def HOk (H:Hp) (h:Heap):Prop:=∀a o,H a=some o->bF P w H h a o
end
section
variable {P:Program} {w:World} {H H':Hp} {h h':Heap} {a:Addr} {o:HO}
theorem bF.lt (x:bF P w H h a o):a < h.objs.size:=by
 cases o with
 | lst xs=>obtain ⟨_,_,_,_,e⟩:=x;exact Heap.lt_size e
 | tup xs=>obtain ⟨_,_,_,p⟩:=x;exact p.lt
 | dK kvs=>obtain ⟨_,_,_,_,o,_,_,e,_⟩:=x;exact Heap.lt_size e
 | dT kvs=>obtain ⟨_,_,_,_,o,_,_,e,_⟩:=x;exact Heap.lt_size e
 | set S n=>obtain ⟨o,_,_,_,e,_⟩:=x;exact Heap.lt_size e
 | ins C dx fs=>obtain ⟨_,_,_,e,_⟩:=x;exact Heap.lt_size e
 | own y=>obtain ⟨_,e⟩:=x;exact Heap.lt_size e
 | xd fs=>obtain ⟨_,⟨_,_,_,e,_⟩,_⟩:=x;exact Heap.lt_size e
 | rng lo hi=>obtain ⟨_,_,_,e⟩:=x;exact Heap.lt_size e
 | frz ob u=>obtain ⟨e,_⟩:=x;exact Heap.lt_size e
 | tbl ps=>obtain ⟨_,e,_⟩:=x;exact Heap.lt_size e
 | met f y=>exact Heap.lt_size (show h.get? a=some _ from x)
 | ext φ=>obtain ⟨_,⟨_,e⟩,_⟩:=x;exact Heap.lt_size e
theorem Paired.mapP {α β:Type} {F G:α->β->Prop}:∀{l₁:List α} {l₂:List β},Paired F l₁ l₂->(∀a b,F a b->G a b)->Paired G l₁ l₂
 | _,_,.nil,_=>.nil
 | _,_,.cons r t,f=>.cons (f _ _ r) (Paired.mapP t f)
theorem bF.stay (x:bF P w H h a o) (k:∀b u,(b=a\/H b=some (.own a))->h.get? b=some u->h'.get? b=some u)
  (ho:∀b,H b=some (.own a)->H' b=some (.own a)) (ht:∀b xs,H b=some (.tup xs)->H' b=some (.tup xs)):bF P w H' h' a o:=by
 induction o with
 | lst xs=>obtain ⟨z,its,n,r,e⟩:=x;exact ⟨z,its,n,r,k _ _ (.inl rfl) e⟩
 | tup xs=>obtain ⟨z,its,r,ob,e,c⟩:=x;exact ⟨z,its,r,ob,k _ _ (.inl rfl) e,c⟩
 | dK kvs=>obtain ⟨z,y,vs,r,ob,es,ep,e,c⟩:=x;exact ⟨z,y,vs,r,ob,es,ep,k _ _ (.inl rfl) e,c⟩
 | dT kvs=>
  obtain ⟨z,y,xs,r,ob,es,ep,e,c⟩:=x
  exact ⟨z,y,xs,Paired.mapP r fun p q z=>⟨z.1,ht _ _ z.2.1,z.2.2⟩,ob,es,ep,k _ _ (.inl rfl) e,c⟩
 | set S n=>obtain ⟨ob,es,ep,t,e,c⟩:=x;exact ⟨ob,es,ep,t,k _ _ (.inl rfl) e,c⟩
 | ins C dx fs=>
  obtain ⟨d,z,ne,e,mA,⟨od,es,ep,e2,c⟩,r⟩:=x
  exact ⟨ho _ d,z,ne,k _ _ (.inl rfl) e,mA,⟨od,es,ep,k _ _ (.inr d) e2,c⟩,r⟩
 | own y=>obtain ⟨ob,e⟩:=x;exact ⟨ob,k _ _ (.inl rfl) e⟩
 | xd fs=>obtain ⟨mA,⟨od,es,ep,e,c⟩,r⟩:=x;exact ⟨mA,⟨od,es,ep,k _ _ (.inl rfl) e,c⟩,r⟩
 | rng lo hi=>obtain ⟨t,u,v,e⟩:=x;exact ⟨t,u,v,k _ _ (.inl rfl) e⟩
 | frz ob u ih=>obtain ⟨e,q⟩:=x;exact ⟨k _ _ (.inl rfl) e,ih q⟩
 | tbl ps=>
  obtain ⟨qs,e,t,f⟩:=x
  refine ⟨qs,k _ _ (.inl rfl) e,t,fun pos cv hc=>?_⟩
  obtain ⟨c,q,tk,rfl,ho',hq,c2,oc,vs,tq,ec,e1,r⟩:=f pos cv hc
  cases ec
  exact ⟨c,q,tk,rfl,ho _ ho',hq,c,oc,vs,tq,rfl,k _ _ (.inr ho') e1,r⟩
 | met f y=>
  have e:h.get? a=some (PySem.W.methodObj (.ref f) (.ref y)):=x
  show h'.get? a=some (PySem.W.methodObj (.ref f) (.ref y))
  exact k a _ (.inl rfl) e
 | ext φ=>obtain ⟨p,⟨o,e⟩,st⟩:=x;exact ⟨st _ _ p fun o q=>k _ _ (.inl rfl) q,⟨o,k _ _ (.inl rfl) e⟩,st⟩
theorem HOk.lt (x:HOk P w H h) (e:H a=some o):a < h.objs.size:=(x a o e).lt
theorem HOk.fresh (x:HOk P w H h) (e:h.objs.size<=a):H a=none:=by
 cases q:H a with
 | none=>rfl
 | some u=>exact absurd (Nat.lt_of_lt_of_le (x.lt q) e) (Nat.lt_irrefl _)
theorem HOk.kept (x:HOk P w H h) (k:∀b u,h.get? b=some u->h'.get? b=some u):HOk P w H h':=fun a o e=>
 (x a o e).stay (fun b u _ q=>k b u q) (fun _ q=>q) fun _ _ q=>q
theorem HOk.laid (x:HOk P w H h) (k:∀b u,h.get? b=some u->h'.get? b=some u) (hp:h.objs.size<=a) (new:bF P w (upd H a o) h' a o):HOk P w (upd H a o) h':=fun b u e=>by
 have hn:=x.fresh hp
 by_cases hb:b=a
 ·subst hb;rw [aK] at e;cases e;exact new
 ·rw [aL hb] at e
  exact (x b u e).stay (fun c v _ q=>k c v q) (fun c q=>by rw [aL (aZ q hn)];exact q) fun c xs q=>by rw [aL (aZ q hn)];exact q
end
noncomputable def Rd (H:Hp) (a:Addr) (u:HO):Prop:=H a=some u\/∃o,H a=some (.frz o u)
theorem Rd.ok {P:Program} {w:World} {H:Hp} {h:Heap} {a:Addr} {u:HO} (r:Rd H a u) (x:HOk P w H h):bF P w H h a u:=by
 rcases r with r | ⟨o,r⟩
 ·exact x a u r
 ·obtain ⟨_,q⟩:=x a _ r
  exact q
noncomputable def Mut:Option HO->Prop
 | some (.lst _)=>True
 | some (.dK _)=>True
 | some (.dT _)=>True
 | some (.set _ _)=>True
 | some (.ins _ _ _)=>True
 | some (.ext _)=>True
 | _=>False
section
variable {P:Program} {w:World} {H:Hp} {h h':Heap} {x e:Addr} {o':HO}
theorem HOk.write (ok:HOk P w H h) (mu:Mut (H x)) (he:e=x\/H e=some (.own x)) (k:∀b u,b≠e->h.get? b=some u->h'.get? b=some u) (heo:∃u,h'.get? e=some u)
  (new:bF P w (upd H x o') h' x o'):HOk P w (upd H x o') h':=fun b u q=>by
 have nown:∀c y,H c=some (.own y)->c≠x:=fun c y r z=>by subst z;rw [r] at mu;exact mu
 have ntup:∀c xs,H c=some (.tup xs)->c≠x:=fun c xs r z=>by subst z;rw [r] at mu;exact mu
 by_cases hb:b=x
 ·subst hb;rw [aK] at q;cases q;exact new
 ·rw [aL hb] at q
  by_cases hbe:b=e
  ·have q':H b=some (.own x):=by
    rcases he with z | z
    ·exact absurd (hbe.trans z) hb
    ·rw [hbe];exact z
   rw [q] at q';cases q'
   obtain ⟨v,hv⟩:=heo
   exact ⟨v,by rw [hbe];exact hv⟩
  ·refine (ok b u q).stay (fun c v hc r=>k c v ?_ r) (fun c r=>by rw [aL (nown c b r)];exact r) fun c xs r=>by rw [aL (ntup c xs r)];exact r
   rcases hc with rfl | hc
   ·exact hbe
   ·rintro rfl
    rcases he with z | z
    ·exact nown c b hc z
    ·rw [hc] at z;cases z;exact hb rfl
end
structure Un (fs ex:List Addr) (H H':Hp) (h h':Heap):Prop where
 keep:∀b o,h.get? b=some o->H b=none->b∉fs->b∉ex->h'.get? b=some o
 slot:∀b o,h.get? b=some o->H b=none->b∈fs->b∉ex->∃sl,h'.get? b=some { o with slots:=sl }
 free:∀b o,h.get? b=some o->H b=none->b∉ex->H' b=none
 there:∀b o,h.get? b=some o->b∉ex->∃o',h'.get? b=some o'
 tups:∀b xs,H b=some (.tup xs)->H' b=some (.tup xs)
 frzs:∀b o u,H b=some (.frz o u)->H' b=some (.frz o u)
 tbls:∀b ps,H b=some (.tbl ps)->∃more,H' b=some (.tbl (ps++more))
section
variable {fs fs' ex ex':List Addr} {H H1 H2:Hp} {h h1 h2 h':Heap} {a x e:Addr} {o:HO}
theorem Un.any (u:Un fs ex H H1 h h1) {b:Addr} {ob:Obj} (q:h.get? b=some ob) (n:H b=none) (hx:b∉ex):∃sl,h1.get? b=some { ob with slots:=sl }:=by
 by_cases hb:b∈fs
 ·exact u.slot b ob q n hb hx
 ·exact ⟨ob.slots,u.keep b ob q n hb hx⟩
theorem Un.kept (k:∀b u,h.get? b=some u->h'.get? b=some u):Un fs ex H H h h':=
 ⟨fun b ob q _ _ _=>k b ob q,fun b ob q _ _ _=>⟨ob.slots,k b ob q⟩,fun _ _ _ n _=>n,fun b ob q _=>⟨ob,k b ob q⟩,fun _ _ q=>q,fun _ _ _ q=>q,fun _ ps q=>⟨#[],by rw [q];simp⟩⟩
theorem Un.refl:Un fs ex H H h h:=Un.kept fun _ _ q=>q
theorem Un.laid (k:∀b u,h.get? b=some u->h'.get? b=some u) (hp:h.objs.size<=a) (hn:H a=none):Un fs ex H (upd H a o) h h' where
 keep:=fun b u q _ _ _=>k b u q
 slot:=fun b u q _ _ _=>⟨u.slots,k b u q⟩
 free:=fun b u q n _=>by rw [aL (Nat.ne_of_lt (Nat.lt_of_lt_of_le (Heap.lt_size q) hp))];exact n
 there:=fun b u q _=>⟨u,k b u q⟩
 tups:=fun b xs q=>by rw [aL (aZ q hn)];exact q
 frzs:=fun b u xs q=>by rw [aL (aZ q hn)];exact q
 tbls:=fun b ps q=>⟨#[],by rw [aL (aZ q hn),q];simp⟩
theorem Un.write (mu:Mut (H x)) (he:e=x\/H e=some (.own x)) (k:∀b u,b≠e->h.get? b=some u->h'.get? b=some u) (heo:∃u,h'.get? e=some u):Un fs ex H (upd H x o) h h':=by
 have hx:∀b,H b=none->b≠x:=fun b n z=>by subst z;rw [n] at mu;exact mu
 have hb:∀b,H b=none->b≠e:=fun b n z=>by
  subst z
  rcases he with r | r
  ·exact hx b n r
  ·rw [n] at r;cases r
 have hm:∀b u,H b=some u->¬ Mut (some u)->b≠x:=fun b u q nm z=>by subst z;rw [q] at mu;exact nm mu
 refine ⟨fun b u q n _ _=>k b u (hb b n) q,fun b u q n _ _=>⟨u.slots,k b u (hb b n) q⟩,fun b u q n _=>by rw [aL (hx b n)];exact n,fun b u q _=>?_,
  fun b xs q=>by rw [aL (hm b _ q fun z=>z)];exact q,fun b u xs q=>by rw [aL (hm b _ q fun z=>z)];exact q,fun b ps q=>⟨#[],by rw [aL (hm b _ q fun z=>z),q];simp⟩⟩
 by_cases hbe:b=e
 ·subst hbe;exact heo
 ·exact ⟨u,k b u hbe q⟩
end
noncomputable def trk (h:Heap) (H:Hp):List Addr:=(List.range h.objs.size).filter fun a=>(H a).isSome
noncomputable def kq (h:Heap) (H:Hp):Heap:=PySem.W.hideAll h (trk h H)
theorem pS (h:Heap) (H:Hp):(kq h H).objs.size=h.objs.size:=PySem.W.hideAll_size _ _
theorem qP {h:Heap} {H:Hp} {b:Addr} {o:Obj} (e:h.get? b=some o) (n:H b=none):(kq h H).get? b=some o:=
 PySem.W.hideAll_get _ e fun hm=>by
  have q:(H b).isSome=true:=(List.mem_filter.mp hm).2
  rw [n] at q;simp at q
theorem vA {h:Heap} {H:Hp} {b:Addr} {o:Obj} (e:(kq h H).get? b=some o):h.get? b=some o/\H b=none:=by
 have e':h.get? b=some o:=PySem.W.of_hideAll (trk h H) e
 refine ⟨e',?_⟩
 cases q:H b with
 | none=>rfl
 | some x=>
  have hm:b∈trk h H:=List.mem_filter.mpr ⟨List.mem_range.mpr (Heap.lt_size e'),by simp [q]⟩
  have z:(kq h H).get? b=none:=PySem.W.hideAll_none (trk h H) hm
  rw [z] at e;cases e
noncomputable def fu (g h:Heap) (L:Addr):List (Addr×Obj):=(List.range h.objs.size).filterMap fun a=>if a=L\/(g.get? a).isSome=true then none else (h.get? a).map fun o=>(a,o)
theorem lF {g h:Heap} {L a:Addr} {o:Obj} (h1:a≠L) (h2:g.get? a=none) (h3:h.get? a=some o):(a,o)∈fu g h L:=
 List.mem_filterMap.mpr ⟨a,List.mem_range.mpr (Heap.lt_size h3),by simp [h1,h2,h3]⟩
theorem iD {g h:Heap} {L:Addr} {p:Addr×Obj} (hp:p∈fu g h L):p.1≠L/\g.get? p.1=none/\h.get? p.1=some p.2:=by
 obtain ⟨b,_,e⟩:=List.mem_filterMap.mp hp
 split at e
 ·cases e
 ·rename_i hn
  cases q:h.get? b with
  | none=>rw [q] at e;simp at e
  | some u=>
   rw [q] at e
   simp only [Option.map_some,Option.some.injEq] at e
   subst e
   refine ⟨fun z=>hn (.inl z),?_,q⟩
   show g.get? b=none
   cases r:g.get? b with
   | none=>rfl
   | some v=>exact (hn (.inr (by simp [r]))).elim
theorem lG {g h:Heap} {L:Addr}:News g L h (fu g h L):=fun p hp=>let ⟨a,b,c⟩:=iD hp;⟨c,a,b⟩
end L2
namespace L2
open PySem PySem.Spec PyProof.Rows
structure Mod (K:PySem.W.Frag) (mg:Str->Option Value) (base:Heap):Prop where
 kin:K.In base
 glob:base.Ns mainGlobals mg
 blt:∃mb,base.Ns builtinsNs mb/\∀x:Str,x≠"__name__"->mb x=bootBuiltins x
 nolimit:base.NoLimit
structure Cx where
 prog:Program
 w:World
 K:PySem.W.Frag
 mg:Str->Option Value
 base:Heap
 A:Around
 N:List Str
 s₀:Shared
 H₀:Hp
 env:Env
 outer:List Env
 stack:List Env
 ex:List Addr
 fn:Str->Bool
 calm:Bool
 pn:List (Addr×Obj)
 xe:Value->Shared->Prop
noncomputable def frs (l:List Env):List Addr:=l.filterMap (·.frame)
noncomputable abbrev Cx.fs (X:Cx):List Addr:=frs X.outer
noncomputable def Vis (sc:Scope) (x:Str):Prop:=sc.names.lookup x=some .local\/sc.names.lookup x=some .cell\/sc.names.lookup x=some .free
noncomputable def Loc (sc:Scope) (x:Str):Prop:=sc.names.lookup x=some .local\/sc.names.lookup x=some .cell
noncomputable def Look (env:Env) (h:Heap) (m:Str->Option Value) (x:Str) (u:Value):Prop:=
 (env.kindOf x=some .local/\m x=some u)\/((env.kindOf x=some .cell\/env.kindOf x=some .free)/\∃c,env.cells.lookup x=some c/\h.IsCell c (some u))
structure Cx.Ok (X:Cx):Prop where
 mod:Mod X.K X.mg X.base
 kind:X.env.scope.kind=.function
 glob:X.env.globals=mainGlobals
 blt:X.env.builtins=builtinsNs
 above:X.s₀.heap.objs.size<=X.env.locals
 inj:∀x y c,X.env.cells.lookup x=some c->X.env.cells.lookup y=some c->x=y
 has:∀x,(X.env.kindOf x=some .cell\/X.env.kindOf x=some .free)->∃c,X.env.cells.lookup x=some c
 cab:∀x c,X.fn x=true->X.env.cells.lookup x=some c->X.s₀.heap.objs.size<=c
 hd:X.calm=true->X.A.handled=none
 frames:X.A.frames=some X.stack
 stk:X.stack=X.outer\/(X.stack=X.env::X.outer/\X.env.frame=some X.env.locals)
 exf:∀b∈X.ex,b≠X.env.locals/\∀x c,X.env.cells.lookup x=some c->c≠b
 bs:∀b o,X.base.get? b=some o->X.s₀.heap.get? b=some o/\X.H₀ b=none
 bsz:X.base.objs.size<=X.s₀.heap.objs.size
 noex:∀b o,X.base.get? b=some o->b∉X.ex
 exfs:∀b∈X.ex,b∉X.fs
 funs:X.s₀.heap.FunFrames X.base X.outer
 frf:∀b∈X.fs,X.H₀ b=none
structure Inv (X:Cx) (pins:List (Addr×Obj)) (σ:List (Option V)) (H:Hp) (s:Shared):Prop where
 ok:X.Ok
 os:s.os=X.s₀.os
 bare:AllBare s.gens
 base:Un X.fs X.ex X.H₀ H X.s₀.heap s.heap
 loc:∃m,s.heap.Ns X.env.locals m/\∀(i:Nat) (x:Str) (v:V),X.N[i]?=some x->σ[i]?=some (some v)->Vis X.env.scope x->∃u,RelV v u/\Look X.env s.heap m x u
 cell:∀x c,X.env.cells.lookup x=some c->∃v,s.heap.IsCell c v
 free:H X.env.locals=none
 freeC:∀x c,X.env.cells.lookup x=some c->H c=none
 pin:∀p∈X.pn++pins,s.heap.get? p.1=some p.2/\H p.1=none/\p.1≠X.env.locals/\p.1∉X.fs/\∀v,p.2.data≠.cell v
 hok:HOk X.prog X.w H s.heap
 len:σ.length=X.N.length
section
variable {X:Cx} {pins:List (Addr×Obj)} {σ:List (Option V)} {H H':Hp} {s:Shared} {h':Heap}
theorem Cx.Ok.nofr (ok:X.Ok) {b:Addr} {o:Obj} (e:X.base.get? b=some o):b∉X.fs:=fun hb=>by
 have:=(ok.funs.mem hb).1
 rw [e] at this;cases this
theorem Inv.bs (I:Inv X pins σ H s):∀b o,X.base.get? b=some o->s.heap.get? b=some o/\H b=none:=fun b o e=>
 ⟨I.base.keep b o (I.ok.bs b o e).1 (I.ok.bs b o e).2 (I.ok.nofr e) (I.ok.noex b o e),I.base.free b o (I.ok.bs b o e).1 (I.ok.bs b o e).2 (I.ok.noex b o e)⟩
theorem Inv.bk (I:Inv X pins σ H s):∀b o,X.base.get? b=some o->s.heap.get? b=some o:=fun b o e=>(I.bs b o e).1
theorem Inv.mod (I:Inv X pins σ H s):Mod X.K X.mg X.base:=I.ok.mod
theorem Inv.kIn (I:Inv X pins σ H s):X.K.In s.heap:=I.ok.mod.kin.keeps I.bk
theorem Inv.fr (I:Inv X pins σ H s):∃m,Fr X.base X.env.locals s.heap m:=
 let ⟨m,hn,_⟩:=I.loc
 ⟨m,hn,I.bk,Nat.le_trans I.ok.bsz I.ok.above⟩
theorem Inv.lt (I:Inv X pins σ H s):X.env.locals < s.heap.objs.size:=let ⟨_,hn,_⟩:=I.loc;hn.lt
theorem Inv.sz (I:Inv X pins σ H s):X.s₀.heap.objs.size<=s.heap.objs.size:=Nat.le_trans I.ok.above (Nat.le_of_lt I.lt)
theorem Inv.nofs (I:Inv X pins σ H s) {a:Addr} (h:s.heap.objs.size<=a):a∉X.fs:=fun hb=>by
 obtain ⟨_,o,ho,_⟩:=I.ok.funs.mem hb
 exact absurd (Nat.lt_of_lt_of_le (Heap.lt_size ho) (Nat.le_trans I.sz h)) (Nat.lt_irrefl _)
theorem Inv.cne (I:Inv X pins σ H s):∀x c,X.env.cells.lookup x=some c->c≠X.env.locals:=fun x c e z=>by
 obtain ⟨v,o,ho,hd⟩:=I.cell x c e
 obtain ⟨m,⟨o',es,ep,ho',hd',_⟩,_⟩:=I.loc
 rw [z,ho'] at ho;cases ho;rw [hd'] at hd;cases hd
theorem Inv.funs (I:Inv X pins σ H s):s.heap.FunFrames X.base X.outer:=by
 have all:∀(l:List Env),(∀b∈frs l,b∈X.fs)->X.s₀.heap.FunFrames X.base l->s.heap.FunFrames X.base l:=by
  intro l
  induction l with
  | nil=>intro _ _;trivial
  | cons env r ih=>
   intro hs hl
   obtain ⟨hk,⟨L,o,hf,hn,ho,hd⟩,hr⟩:=hl
   have hL:L∈X.fs:=hs L (by unfold frs;rw [List.filterMap_cons,hf];exact List.mem_cons_self)
   obtain ⟨sl,e⟩:=I.base.slot L o ho (I.ok.frf L hL) hL fun z=>I.ok.exfs L z hL
   exact ⟨hk,⟨L,_,hf,hn,e,hd⟩,ih (fun b hb=>hs b (by unfold frs;rw [List.filterMap_cons,hf];exact List.mem_cons_of_mem _ hb)) hr⟩
 exact all X.outer (fun _ hb=>hb) I.ok.funs
theorem Inv.stack (I:Inv X pins σ H s):s.heap.FunFrames X.base X.stack:=by
 rcases I.ok.stk with e | ⟨e,hf⟩
 ·rw [e];exact I.funs
 ·rw [e]
  obtain ⟨m,hn,_⟩:=I.loc
  refine .cons (by rw [I.ok.kind];decide) hf hn ?_ I.funs
  exact Heap.get?_none_of_le (Nat.le_trans I.ok.bsz I.ok.above)
theorem Inv.stkSub (I:Inv X pins σ H s):∀b∈frs X.stack,b∈X.env.locals::X.fs:=fun b hb=>by
 rcases I.ok.stk with e | ⟨e,hf⟩
 ·rw [e] at hb;exact List.mem_cons_of_mem _ hb
 ·rw [e] at hb
  unfold frs at hb
  rw [List.filterMap_cons,hf] at hb
  exact hb
theorem Inv.stkFree (I:Inv X pins σ H s):∀b∈frs X.stack,H b=none:=fun b hb=>by
 rcases List.mem_cons.mp (I.stkSub b hb) with e | hb
 ·rw [e];exact I.free
 ·obtain ⟨_,o,ho,_⟩:=I.ok.funs.mem hb
  exact I.base.free b o ho (I.ok.frf b hb) fun z=>I.ok.exfs b z hb
theorem Inv.step {g':Array GenState} {t':Nat} {d':Drawn} {ch:List Addr} (I:Inv X pins σ H s)
  (hch:∀b∈ch,(b∈X.ex\/X.s₀.heap.objs.size<=b)/\b≠X.env.locals/\(∀x c,X.env.cells.lookup x=some c->c≠b)/\∀p∈X.pn++pins,p.1≠b)
  (keep:∀b o,b≠X.env.locals->b∉X.fs->b∉ch->s.heap.get? b=some o->H b=none->h'.get? b=some o)
  (slot:∀b o,b≠X.env.locals->b∈X.fs->b∉ch->s.heap.get? b=some o->H b=none->∃sl,h'.get? b=some { o with slots:=sl }) (free:∀b o,b∉ch->s.heap.get? b=some o->H b=none->H' b=none)
  (there:∀b o,b∉ch->s.heap.get? b=some o->∃o',h'.get? b=some o')
  (tups:∀b xs,H b=some (.tup xs)->H' b=some (.tup xs)) (frzs:∀b o u,H b=some (.frz o u)->H' b=some (.frz o u)) (tbls:∀b ps,H b=some (.tbl ps)->∃more,H' b=some (.tbl (ps++more)))
  (ns:∀m,s.heap.Ns X.env.locals m->h'.Ns X.env.locals m) (hok:HOk X.prog X.w H' h') (hg:AllBare g') :
  Inv X pins σ H' { s with heap:=h',gens:=g',drawn:=d',toks:=t' }:=by
 have neL:∀b o,X.s₀.heap.get? b=some o->b≠X.env.locals:=fun b o e=>Nat.ne_of_lt (Nat.lt_of_lt_of_le (Heap.lt_size e) I.ok.above)
 have neC:∀b o,X.s₀.heap.get? b=some o->b∉X.ex->b∉ch:=fun b o e hx hb=>by
  rcases (hch b hb).1 with z | z
  ·exact hx z
  ·exact absurd (Nat.lt_of_lt_of_le (Heap.lt_size e) z) (Nat.lt_irrefl _)
 have cellK:∀x c,X.env.cells.lookup x=some c->∀v,s.heap.IsCell c v->h'.IsCell c v:=fun x c e v ⟨o,ho,hd⟩=>by
  have nch:c∉ch:=fun z=>(hch c z).2.2.1 x c e rfl
  by_cases hc:c∈X.fs
  ·obtain ⟨sl,q⟩:=slot c o (I.cne x c e) hc nch ho (I.freeC x c e)
   exact ⟨_,q,hd⟩
  ·exact ⟨o,keep c o (I.cne x c e) hc nch ho (I.freeC x c e),hd⟩
 refine ⟨I.ok,I.os,hg,⟨fun b o e n hb hx=>?_,fun b o e n hb hx=>?_,fun b o e n hx=>?_,fun b o e hx=>?_,fun b xs e=>tups b xs (I.base.tups b xs e),fun b o xs e=>frzs b o xs (I.base.frzs b o xs e),fun b ps e=>?_⟩,?_,fun x c e=>?_,?_,fun x c e=>?_,fun p hp=>?_,hok,I.len⟩
 ·exact keep b o (neL b o e) hb (neC b o e hx) (I.base.keep b o e n hb hx) (I.base.free b o e n hx)
 ·obtain ⟨sl,e1⟩:=I.base.slot b o e n hb hx
  obtain ⟨sl',e2⟩:=slot b _ (neL b o e) hb (neC b o e hx) e1 (I.base.free b o e n hx)
  exact ⟨sl',e2⟩
 ·obtain ⟨o',e1⟩:=I.base.there b o e hx
  exact free b o' (neC b o e hx) e1 (I.base.free b o e n hx)
 ·obtain ⟨o',e1⟩:=I.base.there b o e hx
  exact there b o' (neC b o e hx) e1
 ·obtain ⟨m1,e1⟩:=I.base.tbls b ps e
  obtain ⟨m2,e2⟩:=tbls b _ e1
  exact ⟨m1++m2,by rw [e2,Array.append_assoc]⟩
 ·obtain ⟨m,hn,hl⟩:=I.loc
  refine ⟨m,ns m hn,fun i x v e1 e2 e3=>?_⟩
  obtain ⟨u,r,l⟩:=hl i x v e1 e2 e3
  refine ⟨u,r,?_⟩
  rcases l with l | ⟨k,c,e,z⟩
  ·exact .inl l
  ·exact .inr ⟨k,c,e,cellK x c e _ z⟩
 ·obtain ⟨v,z⟩:=I.cell x c e
  exact ⟨v,cellK x c e v z⟩
 ·obtain ⟨m,⟨o,_,_,ho,_⟩,_⟩:=I.loc
  exact free _ o (fun z=>(hch _ z).2.1 rfl) ho I.free
 ·obtain ⟨v,o,ho,hd⟩:=I.cell x c e
  exact free c o (fun z=>(hch c z).2.2.1 x c e rfl) ho (I.freeC x c e)
 ·obtain ⟨e,n,ne,nf,d⟩:=I.pin p hp
  have nch:p.1∉ch:=fun z=>(hch p.1 z).2.2.2 p hp rfl
  exact ⟨keep p.1 p.2 ne nf nch e n,free p.1 p.2 nch e n,ne,nf,d⟩
theorem Inv.un {t':Nat} (I:Inv X pins σ H s) (u:Un X.fs [] H H' s.heap h') (hok:HOk X.prog X.w H' h'):Inv X pins σ H' { s with heap:=h',toks:=t' }:=by
 obtain ⟨m,⟨o,es,ep,ho,r⟩,_⟩:=id I.loc
 obtain ⟨sl,hL⟩:=u.any ho I.free (by simp)
 exact I.step (g':=s.gens) (d':=s.drawn) (ch:=[]) (fun _ z=>nomatch z) (fun b o _ hb _ e n=>u.keep b o e n hb (by simp)) (fun b o _ hb _ e n=>u.slot b o e n hb (by simp)) (fun b o _ e n=>u.free b o e n (by simp)) (fun b o _ e=>u.there b o e (by simp)) u.tups u.frzs u.tbls (fun m' hm=>by
  obtain ⟨o',es',ep',ho',r'⟩:=hm
  rw [ho] at ho';cases ho'
  exact ⟨_,es',ep',hL,r'⟩) hok I.bare
theorem Inv.call {g':Array GenState} {t':Nat} {d':Drawn} {ch:List Addr} (I:Inv X pins σ H s) (u:Un (frs X.stack) ch H H' s.heap h') (hok:HOk X.prog X.w H' h') (hg:AllBare g')
  (hch:∀b∈ch,(b∈X.ex\/X.s₀.heap.objs.size<=b)/\b≠X.env.locals/\(∀x c,X.env.cells.lookup x=some c->c≠b)/\∀p∈X.pn++pins,p.1≠b) :
  Inv X pins σ H' { s with heap:=h',gens:=g',drawn:=d',toks:=t' }:=by
 obtain ⟨m,⟨o,es,ep,ho,r⟩,_⟩:=id I.loc
 obtain ⟨sl,hL⟩:=u.any ho I.free fun z=>(hch _ z).2.1 rfl
 exact I.step (ch:=ch) hch (fun b o hL hb hc e n=>u.keep b o e n (fun z=>(List.mem_cons.mp (I.stkSub b z)).elim hL hb) hc) (fun b o _ _ hc e n=>u.any e n hc) (fun b o hc e n=>u.free b o e n hc) (fun b o hc e=>u.there b o e hc) u.tups u.frzs u.tbls (fun m' hm=>by
  obtain ⟨o',es',ep',ho',r'⟩:=hm
  rw [ho] at ho';cases ho'
  exact ⟨_,es',ep',hL,r'⟩) hok hg
theorem Inv.turned {t':Nat} {it:Addr} (I:Inv X pins σ H s) (k:∀b o,b≠it->s.heap.get? b=some o->h'.get? b=some o) (hn:H it=none) (hL:it≠X.env.locals)
  (h1:it∈X.ex\/X.s₀.heap.objs.size<=it) (h2:∀x c,X.env.cells.lookup x=some c->c≠it) (h3:∀p∈X.pn++pins,p.1≠it):Inv X pins σ H { s with heap:=h',toks:=t' }:=by
 have nit:∀b u,H b=some u->b≠it:=fun b u e z=>by rw [z,hn] at e;cases e
 refine I.step (g':=s.gens) (d':=s.drawn) (ch:=[it]) (fun b hb=>?_) (fun b o _ _ hc e _=>k b o (fun z=>hc (by simp [z])) e) (fun b o _ _ hc e _=>⟨o.slots,k b o (fun z=>hc (by simp [z])) e⟩) (fun _ _ _ _ n=>n)
  (fun b o hc e=>⟨o,k b o (fun z=>hc (by simp [z])) e⟩) (fun _ _ e=>e) (fun _ _ _ e=>e) (fun b ps e=>⟨#[],by rw [e];simp⟩) (fun m hm=>?_) (fun b u e=>?_) I.bare
 ·have e:b=it:=by simpa using hb
  subst e
  exact ⟨h1,hL,h2,h3⟩
 ·obtain ⟨o,es,ep,ho,r⟩:=hm
  exact ⟨o,es,ep,k _ o (Ne.symm hL) ho,r⟩
 ·refine (I.hok b u e).stay (fun c v hc q=>k c v ?_ q) (fun _ q=>q) fun _ _ q=>q
  rcases hc with z | z
  ·rw [z];exact nit b u e
  ·exact nit c _ z
theorem Inv.tok (I:Inv X pins σ H s) (t:Nat):Inv X pins σ H { s with toks:=t }:=I.un (h':=s.heap) (t':=t) Un.refl I.hok
theorem Inv.kept {t':Nat} (I:Inv X pins σ H s) (k:∀b u,s.heap.get? b=some u->h'.get? b=some u):Inv X pins σ H { s with heap:=h',toks:=t' }:=I.un (Un.kept k) (I.hok.kept k)
theorem Inv.laid {a:Addr} {o:HO} {t':Nat} (I:Inv X pins σ H s) (k:∀b u,s.heap.get? b=some u->h'.get? b=some u) (hp:s.heap.objs.size<=a) (new:bF X.prog X.w (upd H a o) h' a o) :
  Inv X pins σ (upd H a o) { s with heap:=h',toks:=t' }:=I.un (Un.laid k hp (I.hok.fresh hp)) (I.hok.laid k hp new)
theorem Inv.write {x e:Addr} {o:HO} {t':Nat} (I:Inv X pins σ H s) (mu:Mut (H x)) (he:e=x\/H e=some (.own x)) (k:∀b u,b≠e->s.heap.get? b=some u->h'.get? b=some u) (heo:∃u,h'.get? e=some u)
  (new:bF X.prog X.w (upd H x o) h' x o):Inv X pins σ (upd H x o) { s with heap:=h',toks:=t' }:=I.un (Un.write mu he k heo) (I.hok.write mu he k heo new)
theorem Inv.weak {σ':List (Option V)} (I:Inv X pins σ H s) (hl:σ'.length=σ.length) (w:∀(i:Nat) v,σ'[i]?=some (some v)->σ[i]?=some (some v)):Inv X pins σ' H s:=
 ⟨I.ok,I.os,I.bare,I.base,let ⟨m,hn,hl'⟩:=I.loc;⟨m,hn,fun i x v e1 e2 e3=>hl' i x v e1 (w i v e2) e3⟩,I.cell,I.free,I.freeC,I.pin,I.hok,hl.trans I.len⟩
theorem Inv.pins_of {pins':List (Addr×Obj)} (I:Inv X pins σ H s) (h:∀p∈pins',s.heap.get? p.1=some p.2/\H p.1=none/\p.1≠X.env.locals/\p.1∉X.fs/\∀v,p.2.data≠.cell v):Inv X pins' σ H s:=
 ⟨I.ok,I.os,I.bare,I.base,I.loc,I.cell,I.free,I.freeC,fun p hp=>(List.mem_append.mp hp).elim (fun z=>I.pin p (List.mem_append_left _ z)) (h p),I.hok,I.len⟩
theorem lH {N:List Str} (hN:N.Nodup) {i j:Nat} {x:Str} (a:N[i]?=some x) (b:N[j]?=some x):i=j:=by
 obtain ⟨h1,e1⟩:=List.getElem?_eq_some_iff.mp a
 obtain ⟨h2,e2⟩:=List.getElem?_eq_some_iff.mp b
 exact (List.getElem_inj hN).mp (e1.trans e2.symm)
theorem jD {M:Model} {A:Around} {E:Value->Shared->Prop} {i:Nat} {x:Str} {v:V} {u:Value} {Q:Unit->Shared->Prop} (I:Inv X pins σ H s) (hN:X.N.Nodup) (hi:X.N[i]?=some x) (hx:Loc X.env.scope x) (r:RelV v u)
  (h:∀s',Inv X pins (σ.set i (some v)) H s'->(∃a,Heap.SameBut a s.heap s'.heap/\(a=X.env.locals\/X.env.cells.lookup x=some a))->Q () s') (hf:X.fn x=true\/X.env.scope.names.lookup x=some .local:=by first | exact .inl rfl | exact .inr rfl | assumption):wpAny M A (storeName X.env x u) Q E s:=by
 obtain ⟨m,hn,hl⟩:=id I.loc
 have hcls:(X.env.scope.kind==.class||(X.env.scope.kind==.module&&X.env.locals != X.env.globals))=false:=by rw [I.ok.kind];rfl
 have hiσ:i < σ.length:=by rw [I.len];exact (List.getElem?_eq_some_iff.mp hi).1
 have cne:=I.cne
 have tracked:∀{a:Addr} {h':Heap},(∃o,s.heap.get? a=some o/\H a=none)->Heap.SameBut a s.heap h'->HOk X.prog X.w H h':=fun {a h'} ha hs b ob e=>by
  obtain ⟨_,_,hfree⟩:=ha
  refine (I.hok b ob e).stay (fun c w' hc q=>(hs.2 c ?_).trans q) (fun _ q=>q) fun _ _ q=>q
  rintro rfl
  rcases hc with rfl | hc
  ·rw [hfree] at e;cases e
  ·rw [hfree] at hc;cases hc
 rcases hx with hk | hk
 ·refine wpAny_storeName_local hk hn (fun h' hn' hs=>?_) hcls
  obtain ⟨oL,_,_,hoL,_⟩:=id hn
  refine h _ ⟨I.ok,I.os,I.bare,⟨fun b o e n hb hx=>?_,fun b o e n hb hx=>?_,I.base.free,fun b o e hx=>?_,I.base.tups,I.base.frzs,I.base.tbls⟩,⟨_,hn',fun j y v' e1 e2 e3=>?_⟩,fun y c e=>?_,I.free,I.freeC,fun p hp=>?_,tracked ⟨oL,hoL,I.free⟩ hs,by simpa using I.len⟩ ⟨_,hs,.inl rfl⟩
  ·exact (hs.2 b (Nat.ne_of_lt (Nat.lt_of_lt_of_le (Heap.lt_size e) I.ok.above))).trans (I.base.keep b o e n hb hx)
  ·obtain ⟨sl,e1⟩:=I.base.slot b o e n hb hx
   exact ⟨sl,(hs.2 b (Nat.ne_of_lt (Nat.lt_of_lt_of_le (Heap.lt_size e) I.ok.above))).trans e1⟩
  ·obtain ⟨o',e1⟩:=I.base.there b o e hx
   exact ⟨o',(hs.2 b (Nat.ne_of_lt (Nat.lt_of_lt_of_le (Heap.lt_size e) I.ok.above))).trans e1⟩
  ·by_cases hj:j=i
   ·subst hj
    rw [hi] at e1;cases e1
    rw [List.getElem?_set_self hiσ] at e2
    cases e2
    exact ⟨u,r,.inl ⟨hk,by simp⟩⟩
   ·rw [List.getElem?_set_ne (Ne.symm hj)] at e2
    obtain ⟨u',r',q⟩:=hl j y v' e1 e2 e3
    refine ⟨u',r',?_⟩
    rcases q with ⟨k,e⟩ | ⟨k,c,e,z⟩
    ·refine .inl ⟨k,?_⟩
     have:y≠x:=fun e=>hj (lH hN e1 (e▸hi))
     simp [this,e]
    ·exact .inr ⟨k,c,e,z.sameBut hs (cne y c e)⟩
  ·obtain ⟨w',z⟩:=I.cell y c e
   exact ⟨w',z.sameBut hs (cne y c e)⟩
  ·obtain ⟨e,n,ne,nf,d⟩:=I.pin p hp
   exact ⟨(hs.2 p.1 ne).trans e,n,ne,nf,d⟩
 ·have hfn:X.fn x=true:=by
   rcases hf with z | z
   ·exact z
   ·rw [z] at hk;cases hk
  obtain ⟨c,hc⟩:=I.ok.has x (.inl hk)
  obtain ⟨w',z⟩:=I.cell x c hc
  refine wpAny_storeName_cell I.ok.kind hk hc z (fun h' hc' hs=>?_)
  obtain ⟨oc,hoc,hocd⟩:=id z
  refine h { s with heap:=h' } ⟨I.ok,I.os,I.bare,⟨fun b o e n hb hx=>?_,fun b o e n hb hx=>?_,I.base.free,fun b o e hx=>?_,I.base.tups,I.base.frzs,I.base.tbls⟩,⟨m,hn.sameBut hs (Ne.symm (cne x c hc)),fun j y v' e1 e2 e3=>?_⟩,fun y c' e=>?_,I.free,I.freeC,fun p hp=>?_,tracked ⟨oc,hoc,I.freeC x c hc⟩ hs,by simpa using I.len⟩ ⟨c,hs,.inr hc⟩
  ·exact (hs.2 b (Nat.ne_of_lt (Nat.lt_of_lt_of_le (Heap.lt_size e) (I.ok.cab x c hfn hc)))).trans (I.base.keep b o e n hb hx)
  ·obtain ⟨sl,e1⟩:=I.base.slot b o e n hb hx
   exact ⟨sl,(hs.2 b (Nat.ne_of_lt (Nat.lt_of_lt_of_le (Heap.lt_size e) (I.ok.cab x c hfn hc)))).trans e1⟩
  ·obtain ⟨o',e1⟩:=I.base.there b o e hx
   exact ⟨o',(hs.2 b (Nat.ne_of_lt (Nat.lt_of_lt_of_le (Heap.lt_size e) (I.ok.cab x c hfn hc)))).trans e1⟩
  ·by_cases hj:j=i
   ·subst hj
    rw [hi] at e1;cases e1
    rw [List.getElem?_set_self hiσ] at e2
    cases e2
    exact ⟨u,r,.inr ⟨.inl hk,c,hc,hc'⟩⟩
   ·rw [List.getElem?_set_ne (Ne.symm hj)] at e2
    obtain ⟨u',r',q⟩:=hl j y v' e1 e2 e3
    refine ⟨u',r',?_⟩
    rcases q with q | ⟨k,c',e,z'⟩
    ·exact .inl q
    ·refine .inr ⟨k,c',e,z'.sameBut hs ?_⟩
     rintro rfl
     exact hj (lH hN e1 (I.ok.inj _ _ _ e hc▸hi))
  ·by_cases hcc:c'=c
   ·subst hcc;exact ⟨_,hc'⟩
   ·obtain ⟨w2,z2⟩:=I.cell y c' e
    exact ⟨w2,z2.sameBut hs hcc⟩
  ·obtain ⟨e,n,ne,nf,d⟩:=I.pin p hp
   refine ⟨(hs.2 p.1 ?_).trans e,n,ne,nf,d⟩
   intro q
   rw [q,hoc] at e
   have q':oc=p.2:=Option.some.inj e
   exact d w' (by rw [<- q'];exact hocd)
theorem fv {M:Model} {A:Around} {E:Value->Shared->Prop} {i:Nat} {x:Str} {v:V} {u:Value} {Q:Unit->Shared->Prop} (I:Inv X pins σ H s) (hN:X.N.Nodup) (hi:X.N[i]?=some x) (hx:Loc X.env.scope x) (r:RelV v u)
  (h:∀s',Inv X pins (σ.set i (some v)) H s'->Q () s') (hf:X.fn x=true\/X.env.scope.names.lookup x=some .local:=by first | exact .inl rfl | exact .inr rfl | assumption):wpAny M A (storeName X.env x u) Q E s:=
 jD I hN hi hx r (fun s' I' _=>h s' I') hf
theorem Inv.call' {s':Shared} {ch:List Addr} (I:Inv X pins σ H s) (ho:s'.os=s.os) (u:Un (frs X.stack) ch H H' s.heap s'.heap) (hok:HOk X.prog X.w H' s'.heap) (hg:AllBare s'.gens)
  (hch:∀b∈ch,(b∈X.ex\/X.s₀.heap.objs.size<=b)/\b≠X.env.locals/\(∀x c,X.env.cells.lookup x=some c->c≠b)/\∀p∈X.pn++pins,p.1≠b):Inv X pins σ H' s':=by
 obtain ⟨h',g',d',t',o'⟩:=s'
 have e:o'=s.os:=ho
 subst e
 exact I.call (g':=g') (t':=t') (d':=d') u hok hg hch
end
noncomputable abbrev XK:=Value->Option Addr->Hp->Prop
noncomputable abbrev St:=List (Option V)
noncomputable abbrev VK:=V->Hp->Prop
noncomputable abbrev TE:=St->Hp->VK->Prop
noncomputable abbrev TT:=St->Hp->(Bool->Hp->Prop)->Prop
noncomputable abbrev TA:=St->Hp->(List V->Hp->Prop)->Prop
structure Ends where
 nx:St->Hp->Prop
 rt:VK
 bk:St->Hp->Prop:=fun _ _=>False
 ct:St->Hp->Prop:=fun _ _=>False
noncomputable abbrev TS:=Ends->St->Hp->Prop
noncomputable def EP (X:Cx) (pins:List (Addr×Obj)) (σ:St) (Q:VK) (u:Value) (s':Shared):Prop:=∃v H',Inv X pins σ H' s'/\RelV v u/\Q v H'
noncomputable def TP (X:Cx) (pins:List (Addr×Obj)) (σ:St) (Q:Bool->Hp->Prop) (b:Bool) (s':Shared):Prop:=∃H',Inv X pins σ H' s'/\Q b H'
noncomputable def AP (X:Cx) (pins:List (Addr×Obj)) (σ:St) (Q:List V->Hp->Prop) (us:List Value) (s':Shared):Prop:=∃vs H',Inv X pins σ H' s'/\Vals vs us/\Q vs H'
noncomputable def SP (X:Cx) (pins:List (Addr×Obj)) (D:Ends) (f:Flow) (s':Shared):Prop:=
 match f with
 | .next=>∃ σ' H',Inv X pins σ' H' s'/\D.nx σ' H'
 | .brk=>∃ σ' H',Inv X pins σ' H' s'/\D.bk σ' H'
 | .cont=>∃ σ' H',Inv X pins σ' H' s'/\D.ct σ' H'
 | .ret u=>∃v σ' H',Inv X pins σ' H' s'/\RelV v u/\D.rt v H'
noncomputable def PE (X:Cx) (e:Expr) (t:TE):Prop:=
 ∀(pins:List (Addr×Obj)) (s:Shared) (σ:St) (H:Hp) (Q:VK),Inv X pins σ H s->t σ H Q->wpAny (model X.prog X.w) X.A (eval e X.env) (EP X pins σ Q) X.xe s
noncomputable def PT (X:Cx) (e:Expr) (t:TT):Prop:=
 ∀(pins:List (Addr×Obj)) (s:Shared) (σ:St) (H:Hp) (Q:Bool->Hp->Prop),Inv X pins σ H s->t σ H Q->wpAny (model X.prog X.w) X.A (isTrue e X.env (eval e X.env)) (TP X pins σ Q) X.xe s
noncomputable def PW (X:Cx) (e:Expr) (t:TT):Prop:=
 ∀(whole:Sem Value) (pins:List (Addr×Obj)) (s:Shared) (σ:St) (H:Hp) (Q:Bool->Hp->Prop),Inv X pins σ H s->t σ H Q->wpAny (model X.prog X.w) X.A (isTrue e X.env whole) (TP X pins σ Q) X.xe s
theorem PW.pt {X:Cx} {e:Expr} {t:TT} (h:PW X e t):PT X e t:=h _
noncomputable def PA (X:Cx) (es:List Expr) (t:TA):Prop:=
 ∀(pos:Pos) (pins:List (Addr×Obj)) (s:Shared) (σ:St) (H:Hp) (Q:List V->Hp->Prop),Inv X pins σ H s->t σ H Q->wpAny (model X.prog X.w) X.A (spliced (backTo pos (starEach es X.env))) (AP X pins σ Q) X.xe s
noncomputable def PS (X:Cx) (st:Stmt) (t:TS):Prop:=
 ∀(pins:List (Addr×Obj)) (s:Shared) (σ:St) (H:Hp) (D:Ends),Inv X pins σ H s->t D σ H->wpAny (model X.prog X.w) X.A (exec st X.env) (SP X pins D) X.xe s
noncomputable def PSs (X:Cx) (st:List Stmt) (t:TS):Prop:=
 ∀(pins:List (Addr×Obj)) (s:Shared) (σ:St) (H:Hp) (D:Ends),Inv X pins σ H s->t D σ H->wpAny (model X.prog X.w) X.A (execs st X.env) (SP X pins D) X.xe s
theorem thn {α:Type} {t:Sem α} {Q Q':α->Shared->Prop} {M:Model} {A:Around} {E:Value->Shared->Prop} {s:Shared} (h:wpAny M A t Q E s) (hQ:∀a s,Q a s->Q' a s):wpAny M A t Q' E s:=wpAny_mono h hQ fun _ _ x=>x
end L2
namespace L2
open PySem PySem.Spec PyProof.Rows
section
variable {X:Cx}
noncomputable def cT (i:Nat):TE:=fun σ H Q=>∃v,σ[i]?=some (some v)/\Q v H
noncomputable def tC (v:V):TE:=fun _ H Q=>Q v H
theorem zR {i:Nat} {x:Str} {pos:Pos} (hN:X.N[i]?=some x) (hv:Vis X.env.scope x) (hd:(x==("__debug__":Str))=false:=by decide) (hcd:(x==("__classdict__":Str))=false:=by decide):PE X (.Name x pos) (cT i):=by
 intro pins s σ H Q I h
 obtain ⟨v,e,h⟩:=h
 obtain ⟨m,hn,hl⟩:=I.loc
 obtain ⟨u,r,l⟩:=hl i x v hN e hv
 have fin:EP X pins σ Q u s:=⟨v,H,I,r,h⟩
 rcases l with ⟨hk,hm⟩ | ⟨hk,c,hc,hcell⟩
 ·exact wpAny_Name (wpAny_loadName_local I.ok.kind hk hn hm fin) hd
 ·rcases hk with hk | hk
  ·exact wpAny_Name (wpAny_loadName_cell I.ok.kind hk hc hcell fin) hd
  ·exact wpAny_Name (wpAny_loadName_free I.ok.kind hk hc hcell fin hcd) hd
theorem gh {i j pos}:PE X (.Constant (.int i) j pos) (tC (.int i)):=fun _ _ _ H _ I h=>wpAny_Constant_int ⟨.int i,H,I.tok _,⟨_,rfl⟩,h⟩
theorem CH {b j pos}:PE X (.Constant (.bool b) j pos) (tC (.bl b)):=fun _ _ _ H _ I h=>Constant_bool ⟨.bl b,H,I,rfl,h⟩
theorem zS {j pos}:PE X (.Constant .none j pos) (tC .non):=fun _ _ _ H _ I h=>Constant_none ⟨.non,H,I,rfl,h⟩
theorem zT {x j pos}:PE X (.Constant (.str x) j pos) (tC (.str x)):=fun _ _ _ H _ I h=>Calls.Constant_str ⟨.str x,H,I.tok _,⟨_,rfl⟩,h⟩
noncomputable def Gl (X:Cx) (x:Str):Prop:=X.env.kindOf x=some .globalImplicit
theorem oh {E:Value->Shared->Prop} {pins:List (Addr×Obj)} {s:Shared} {σ:St} {H:Hp} {x:Str} {u:Value} {pos:Pos} {Q:Value->Shared->Prop} (I:Inv X pins σ H s) (hg:Gl X x) (hm:X.mg x=some u) (h:Q u s)
  (hd:(x==("__debug__":Str))=false:=by decide):wpAny (model X.prog X.w) X.A (eval (.Name x pos) X.env) Q E s:=
 Calls.Name_function_global I.ok.kind hg (Calls.loadGlobal_global (by rw [I.ok.glob];exact I.mod.glob.keeps I.bk) hm h) hd
theorem gj {E:Value->Shared->Prop} {pins:List (Addr×Obj)} {s:Shared} {σ:St} {H:Hp} {x:Str} {u:Value} {pos:Pos} {Q:Value->Shared->Prop} (I:Inv X pins σ H s) (hg:Gl X x) (hm:X.mg x=none) (hv:bootBuiltins x=some u) (h:Q u s)
  (hn:x≠"__name__":=by decide) (hd:(x==("__debug__":Str))=false:=by decide):wpAny (model X.prog X.w) X.A (eval (.Name x pos) X.env) Q E s:=by
 obtain ⟨mb,h1,h2⟩:=I.mod.blt
 exact Calls.Name_function_global I.ok.kind hg (Calls.loadGlobal_builtin (by rw [I.ok.glob];exact I.mod.glob.keeps I.bk) hm (by rw [I.ok.blt];exact h1.keeps I.bk) ((h2 x hn).trans hv) h) hd
theorem vB {x:Str} {v:V} {u:Value} {pos:Pos} (hg:Gl X x) (hm:X.mg x=some u) (r:RelV v u) (hd:(x==("__debug__":Str))=false:=by decide):PE X (.Name x pos) (tC v):=
 fun _ _ _ H _ I h=>oh I hg hm ⟨v,H,I,r,h⟩ hd
theorem vD {x:Str} {v:V} {u:Value} {pos:Pos} (hg:Gl X x) (hm:X.mg x=none) (hv:bootBuiltins x=some u) (r:RelV v u) (hn:x≠"__name__":=by decide) (hd:(x==("__debug__":Str))=false:=by decide):PE X (.Name x pos) (tC v):=
 fun _ _ _ H _ I h=>gj I hg hm hv ⟨v,H,I,r,h⟩ hn hd
variable {a b:Expr} {ta tb:TE} {pos:Pos}
noncomputable def tB (t:TE):TT:=fun σ H Q=>t σ H fun x H1=>∃c,x=.bl c/\Q c H1
theorem zU {e:Expr} {t:TE} (h:PE X e t) (he:∀whole,isTrue e X.env whole=(do let v <- whole;standAt e.pos;holding [v] (truthy v)):=by intro _;rfl):PT X e (tB t):=by
 intro pins s σ H Q I hw
 refine isTrue_plain (thn (h pins s σ H _ I hw) fun v s1 zr1=>?_) (he _)
 obtain ⟨x,H1,I1,r1,q1⟩:=zr1
 obtain ⟨d,rfl,q⟩:=q1
 cases r1
 exact wpAny_truthy_bool ⟨H1,I1,q⟩
variable {tA tB':TT} {rest:List Expr}
noncomputable def CI (t u:TT):TT:=fun σ H Q=>t σ H fun c H1=>if c=true then u σ H1 Q else Q false H1
noncomputable def tOr (t u:TT):TT:=fun σ H Q=>t σ H fun c H1=>if c=true then Q true H1 else u σ H1 Q
noncomputable def CJ (t:TT):TT:=fun σ H Q=>t σ H fun c H1=>Q (!c) H1
theorem vE (ha:PT X a tA):PW X (.BoolOp .And [a] pos) tA:=by
 intro wh pins s σ H Q I h
 refine isTrue_and (thn (ha pins s σ H Q I h) fun c s1 e=>?_)
 cases c with
 | true=>exact isTrue_and_nil e
 | false=>exact e
theorem zV (ha:PT X a tA):PW X (.BoolOp .Or [a] pos) tA:=by
 intro wh pins s σ H Q I h
 refine isTrue_or (thn (ha pins s σ H Q I h) fun c s1 e=>?_)
 cases c with
 | false=>exact isTrue_or_nil e
 | true=>exact e
theorem zW (ha:PT X a tA) (hb:PW X (.BoolOp .And (b::rest) pos) tB'):PW X (.BoolOp .And (a::b::rest) pos) (CI tA tB'):=by
 intro wh pins s σ H Q I h
 refine isTrue_and (thn (ha pins s σ H _ I h) fun c s1 zr1=>?_)
 obtain ⟨H1,I1,q1⟩:=zr1
 cases c with
 | true=>exact hb wh pins s1 σ H1 Q I1 q1
 | false=>exact ⟨H1,I1,q1⟩
theorem CK (ha:PT X a tA) (hb:PW X (.BoolOp .Or (b::rest) pos) tB'):PW X (.BoolOp .Or (a::b::rest) pos) (tOr tA tB'):=by
 intro wh pins s σ H Q I h
 refine isTrue_or (thn (ha pins s σ H _ I h) fun c s1 zr1=>?_)
 obtain ⟨H1,I1,q1⟩:=zr1
 cases c with
 | true=>exact ⟨H1,I1,q1⟩
 | false=>exact hb wh pins s1 σ H1 Q I1 q1
theorem zX (ha:PT X a tA):PT X (.UnaryOp .Not a pos) (CJ tA):=by
 intro pins s σ H Q I h
 exact isTrue_not (ha pins s σ H (fun c H1=>Q (!c) H1) I h)
noncomputable def yG (ta tb:TE):TE:=fun σ H Q=>ta σ H fun x H1=>∃c,x=.bl c/\if c=true then tb σ H1 Q else Q (.bl false) H1
theorem zY {op} {t:TE} (h:PE X a t):PE X (.BoolOp op [a] pos) t:=fun pins s σ H Q I hw=>BoolOp_one (h pins s σ H Q I hw)
theorem zZ (ha:PE X a ta) (hb:PE X (.BoolOp .And (b::rest) pos) tb):PE X (.BoolOp .And (a::b::rest) pos) (yG ta tb):=by
 intro pins s σ H Q I h
 refine BoolOp_and (thn (ha pins s σ H _ I h) fun v s1 zr1=>?_)
 obtain ⟨x,H1,I1,r1,q1⟩:=zr1
 obtain ⟨c,rfl,q1⟩:=q1
 cases r1
 refine wpAny_truthy_bool ?_
 cases c with
 | true=>exact hb pins s1 σ H1 Q I1 q1
 | false=>exact ⟨.bl false,H1,I1,rfl,q1⟩
noncomputable def tIf (t:TT) (ta tb:TE):TE:=fun σ H Q=>t σ H fun c H1=>if c=true then ta σ H1 Q else tb σ H1 Q
theorem qQ {c:Expr} (hc:PT X c tA) (ha:PE X a ta) (hb:PE X b tb):PE X (.IfExp c a b pos) (tIf tA ta tb):=by
 intro pins s σ H Q I h
 refine wpAny_IfExp (thn (hc pins s σ H _ I h) fun d s1 zr1=>?_)
 obtain ⟨H1,I1,q1⟩:=zr1
 cases d with
 | true=>exact ha pins s1 σ H1 Q I1 q1
 | false=>exact hb pins s1 σ H1 Q I1 q1
end
end L2
namespace L2
open PySem PySem.Spec PyProof.Rows
noncomputable def SqL (K:PySem.W.Frag) (H:Hp) (a:Addr) (xs:List V):Prop:=
 Rd H a (.lst xs) \/
  ∃(o:Obj) (its:Array Value) (n:Nat),K.lookup a=some o/\o.cls=.type "list"/\o.dict=none/\o.data=.seq its n/\its.size<=sizeLine/\Vals xs its.toList
noncomputable def SqT (K:PySem.W.Frag) (H:Hp) (a:Addr) (xs:List V):Prop:=
 Rd H a (.tup xs) \/
  ∃(o:Obj) (its:Array Value) (n:Nat),K.lookup a=some o/\o.cls=.type "tuple"/\o.data=.seq its n/\its.size<=sizeLine/\Vals xs its.toList
noncomputable def Fq:Value->Option V
 | .none=>some .non
 | .bool b=>some (.bl b)
 | .int i _=>some (.int i)
 | .str x _=>some (.str x)
 | .bytes b _=>some (.byt b)
 | .float b _=>some (.flt b)
 | .ref a=>some (.ref a)
 | .type n=>some (.ty n)
 | _=>none
theorem RelV.abs {x:V} {u:Value} (r:RelV x u):Fq u=some x:=by
 cases x with
 | non=>cases r;rfl
 | bl _=>cases r;rfl
 | int _=>obtain ⟨t,rfl⟩:=r;rfl
 | str _=>obtain ⟨t,rfl⟩:=r;rfl
 | byt _=>obtain ⟨t,rfl⟩:=r;rfl
 | flt _=>obtain ⟨t,rfl⟩:=r;rfl
 | ref _=>cases r;rfl
 | ty _=>cases r;rfl
theorem RelV.inj {x y:V} {u:Value} (r:RelV x u) (q:RelV y u):x=y:=Option.some.inj (r.abs.symm.trans q.abs)
theorem Vals.inj:∀{xs ys:List V} {us:List Value},Vals xs us->Vals ys us->xs=ys
 | _,_,_,.nil,.nil=>rfl
 | _,_,_,.cons r t,.cons r' t'=>by rw [r.inj r',Vals.inj t t']
section
variable {X:Cx} {pins:List (Addr×Obj)} {σ:St} {H:Hp} {s:Shared} {a:Addr} {xs ys:List V}
theorem Inv.list (I:Inv X pins σ H s) (h:SqL X.K H a xs):∃its:List Value,Vals xs its/\PlainL s.heap a its.toArray/\xs.length<=sizeLine:=by
 rcases h with h | ⟨o,its,n,hk,hc,hd,hs,hz,r⟩
 ·obtain ⟨z,its,n,r,e⟩:=h.ok I.hok
  exact ⟨its,r,⟨_,n,e,rfl,rfl,rfl⟩,z⟩
 ·refine ⟨its.toList,r,⟨o,n,I.kIn a o hk,hc,hd,by simpa using hs⟩,?_⟩
  have e:=r.length
  simp only [Array.length_toList] at e
  omega
theorem Inv.tuple (I:Inv X pins σ H s) (h:SqT X.K H a xs):∃its:List Value,Vals xs its/\IsTup s.heap a its.toArray/\xs.length<=sizeLine:=by
 rcases h with h | ⟨o,its,n,hk,hc,hs,hz,r⟩
 ·obtain ⟨z,its,r,p⟩:=h.ok I.hok
  exact ⟨its,r,p,z⟩
 ·refine ⟨its.toList,r,⟨o,I.kIn a o hk,hc,n,by simpa using hs⟩,?_⟩
  have e:=r.length
  simp only [Array.length_toList] at e
  omega
theorem Inv.list_inj (I:Inv X pins σ H s) (h:SqL X.K H a xs) (h':SqL X.K H a ys):xs=ys:=by
 obtain ⟨its,r,⟨o,n,e,_,_,d⟩,_⟩:=I.list h
 obtain ⟨its',r',⟨o',n',e',_,_,d'⟩,_⟩:=I.list h'
 rw [e] at e';cases e'
 rw [d] at d'
 injection d' with d1 _
 have:its=its':=by simpa using congrArg Array.toList d1
 subst this
 exact r.inj r'
end
noncomputable abbrev Cx.wish (X:Cx) (E:Value->Shared->Prop):Cx:={ X with xe:=E }
noncomputable abbrev Cx.nox (X:Cx):Cx:=X.wish fun _ _=>False
theorem Cx.Ok.wish {X:Cx} (ok:X.Ok) (E:Value->Shared->Prop):(X.wish E).Ok:=
 ⟨ok.mod,ok.kind,ok.glob,ok.blt,ok.above,ok.inj,ok.has,ok.cab,ok.hd,ok.frames,ok.stk,ok.exf,ok.bs,ok.bsz,ok.noex,ok.exfs,ok.funs,ok.frf⟩
theorem Cx.Ok.unwish {X:Cx} {E:Value->Shared->Prop} (ok:(X.wish E).Ok):X.Ok:=
 ⟨ok.mod,ok.kind,ok.glob,ok.blt,ok.above,ok.inj,ok.has,ok.cab,ok.hd,ok.frames,ok.stk,ok.exf,ok.bs,ok.bsz,ok.noex,ok.exfs,ok.funs,ok.frf⟩
section
variable {X:Cx} {pins:List (Addr×Obj)} {σ:St} {H:Hp} {s:Shared} {E:Value->Shared->Prop}
theorem Inv.wish (I:Inv X pins σ H s) (E:Value->Shared->Prop):Inv (X.wish E) pins σ H s:=⟨I.ok.wish E,I.os,I.bare,I.base,I.loc,I.cell,I.free,I.freeC,I.pin,I.hok,I.len⟩
theorem Inv.unwish (I:Inv (X.wish E) pins σ H s):Inv X pins σ H s:=⟨I.ok.unwish,I.os,I.bare,I.base,I.loc,I.cell,I.free,I.freeC,I.pin,I.hok,I.len⟩
theorem SP.unwish {D:Ends} {f:Flow} {s':Shared} (h:SP (X.wish E) pins D f s'):SP X pins D f s':=by
 cases f with
 | next=>obtain ⟨σ',H',I,q⟩:=h;exact ⟨σ',H',I.unwish,q⟩
 | brk=>obtain ⟨σ',H',I,q⟩:=h;exact ⟨σ',H',I.unwish,q⟩
 | cont=>obtain ⟨σ',H',I,q⟩:=h;exact ⟨σ',H',I.unwish,q⟩
 | ret u=>obtain ⟨v,σ',H',I,r,q⟩:=h;exact ⟨v,σ',H',I.unwish,r,q⟩
theorem PSs.nox {st:List Stmt} {t:TS} (h:PSs X.nox st t):PSs X st t:=fun pins s σ H D I hw=>
 wpAny_mono (h pins s σ H D (I.wish _) hw) (fun _ _ q=>q.unwish) fun _ _ z=>False.elim z
end
section
variable {X:Cx} {st:Stmt} {rest:List Stmt} {t u:TS} {e:Expr} {te:TE} {pos:Pos}
noncomputable def yH:TS:=fun D σ H=>D.nx σ H
noncomputable def CL (t u:TS):TS:=fun D σ H=>t { D with nx:=u D } σ H
theorem vF:PSs X [] yH:=fun _ _ σ H _ I h=>wpAny_execs_nil ⟨σ,H,I,h⟩
theorem qR (h1:PS X st t) (h2:PSs X rest u):PSs X (st::rest) (CL t u):=by
 intro pins s σ H D I h
 refine wpAny_execs_cons (thn (h1 pins s σ H { D with nx:=u D } I h) fun f s1 q=>?_)
 cases f with
 | next=>
  obtain ⟨σ',H',I',q⟩:=q
  exact h2 pins s1 σ' H' D I' q
 | ret v=>exact q
 | brk=>exact q
 | cont=>exact q
theorem vG (h1:PS X st t):PSs X [st] t:=by
 intro pins s σ H D I h
 refine wpAny_execs_cons (thn (h1 pins s σ H D I h) fun f s1 q=>?_)
 cases f with
 | next=>exact wpAny_execs_nil q
 | ret v=>exact q
 | brk=>exact q
 | cont=>exact q
theorem Inv.quiet {pins:List (Addr×Obj)} {σ:St} {H:Hp} {s:Shared} (I:Inv X pins σ H s):interactive X.env=false:=by simp [interactive,I.ok.kind]
noncomputable def yI (te:TE):TS:=fun D σ H=>te σ H fun _ H1=>D.nx σ H1
theorem vH (he:PE X e te) (hs:swapsWith e none pos.line X.env=pure false:=by rfl):PS X (.Expr e pos) (yI te):=by
 intro pins s σ H D I h
 exact wpAny_Expr_any (thn (he pins s σ H _ I h) fun v s1 zt1=>by obtain ⟨x,H1,I1,r1,q1⟩:=zt1;exact ⟨σ,H1,I1,q1⟩) I.quiet hs
noncomputable def CM (te:TE):TS:=fun D σ H=>te σ H D.rt
theorem Aa (he:PE X e te):PS X (.Return (some e) pos) (CM te):=by
 intro pins s σ H D I h
 exact wpAny_Return_some (thn (he pins s σ H _ I h) fun v s1 zt1=>by obtain ⟨x,H1,I1,r1,q1⟩:=zt1;exact ⟨x,σ,H1,I1,r1,q1⟩)
noncomputable def CN (c:TT) (t u:TS):TS:=fun D σ H=>c σ H fun b H1=>if b=true then t D σ H1 else u D σ H1
theorem CO {c:Expr} {a b:List Stmt} {tc:TT} (hc:PT X c tc) (ha:PSs X a t) (hb:PSs X b u):PS X (.If c a b pos) (CN tc t u):=by
 intro pins s σ H D I h
 refine wpAny_If (thn (hc pins s σ H _ I h) fun d s1 zr1=>?_)
 obtain ⟨H1,I1,q1⟩:=zr1
 cases d with
 | true=>exact ha pins s1 σ H1 D I1 q1
 | false=>exact hb pins s1 σ H1 D I1 q1
noncomputable def qS:TS:=fun _ _ _=>False
theorem qT:PS X st qS:=fun _ _ _ _ _ _ h=>h.elim
end
noncomputable abbrev TG:=V->St->Hp->(St->Hp->Prop)->Prop
noncomputable abbrev TGs:=List V->St->Hp->(St->Hp->Prop)->Prop
noncomputable def PG (X:Cx) (target:Expr) (t:TG):Prop:=
 ∀(pins:List (Addr×Obj)) (s:Shared) (σ:St) (H:Hp) (v:V) (u:Value) (Q:St->Hp->Prop),Inv X pins σ H s->RelV v u->t v σ H Q ->
  wpAny (model X.prog X.w) X.A (assign target X.env u) (fun _ s'=>∃ σ' H',Inv X pins σ' H' s'/\Q σ' H') X.xe s
noncomputable def PGs (X:Cx) (ts:List Expr) (t:TGs):Prop:=
 ∀(pins:List (Addr×Obj)) (s:Shared) (σ:St) (H:Hp) (vs:List V) (us:List Value) (Q:St->Hp->Prop),Inv X pins σ H s->Vals vs us->t vs σ H Q ->
  wpAny (model X.prog X.w) X.A (assignInOrder ((assignEach ts X.env).map (·.2)) us) (fun _ s'=>∃ σ' H',Inv X pins σ' H' s'/\Q σ' H') X.xe s
noncomputable abbrev Ab:=V->V->V->Hp->(Hp->Prop)->Prop
noncomputable def CP (X:Cx) (t:Ab):Prop:=
 ∀(pins:List (Addr×Obj)) (s:Shared) (σ:St) (H:Hp) (o i v:V) (ov iv u:Value) (Q:Hp->Prop),Inv X pins σ H s->RelV o ov->RelV i iv->RelV v u->t o i v H Q ->
  wpAny (model X.prog X.w) X.A (setItem ov iv u) (fun _ s'=>∃H',Inv X pins σ H' s'/\Q H') X.xe s
section
variable {X:Cx} {pos:Pos}
noncomputable def bI (i:Nat):TG:=fun v σ H Q=>Q (σ.set i (some v)) H
theorem aA {i:Nat} {x:Str} (hN:X.N.Nodup) (hi:X.N[i]?=some x) (hx:Loc X.env.scope x) (hf:X.fn x=true\/X.env.scope.names.lookup x=some .local:=by first | exact .inl rfl | exact .inr rfl | assumption):PG X (.Name x pos) (bI i):=by
 intro pins s σ H v u Q I r h
 exact wpAny_assign_Name (fv I hN hi hx r (fun s' I'=>⟨_,H,I',h⟩) hf)
noncomputable def qU:TGs:=fun vs σ H Q=>vs=[]/\Q σ H
noncomputable def gR (t:TG) (u:TGs):TGs:=fun vs σ H Q=>∃v r,vs=v::r/\t v σ H fun σ' H'=>u r σ' H' Q
theorem vI:PGs X [] qU:=by
 intro pins s σ H vs us Q I r h
 obtain ⟨e,h⟩:=h
 subst e
 cases r
 exact assignInOrder_nil ⟨σ,H,I,h⟩
theorem qV {e:Expr} {es:List Expr} {t:TG} {u:TGs} (h1:PG X e t) (h2:PGs X es u)
  (hs:(assignEach (e::es) X.env).map (·.2)=assign e X.env::(assignEach es X.env).map (·.2):=by rfl):PGs X (e::es) (gR t u):=by
 intro pins s σ H vs us Q I r h
 obtain ⟨v,vr,e1,h⟩:=h
 subst e1
 cases r with
 | cons r rr=>
  rw [hs]
  refine assignInOrder_cons (thn (h1 pins s σ H _ _ _ I r h) fun _ s1 zr1=>?_)
  obtain ⟨σ1,H1,I1,q1⟩:=zr1
  exact h2 pins s1 σ1 H1 _ _ Q I1 rr q1
noncomputable def qW (K:PySem.W.Frag) (n:Nat) (t:TGs):TG:=fun v σ H Q=>∃a xs,v=.ref a/\SqT K H a xs/\xs.length=n/\t xs σ H Q
theorem Ac {es:List Expr} {k:Nat} {t:TGs} {n:Nat} (hc:X.calm=true) (h:PGs X es t)
  (hn:(assignEach es X.env).length=n:=by rfl) (hst:(assignEach es X.env).findIdx? (·.1)=none:=by rfl):PG X (.Tuple es k pos) (qW X.K n t):=by
 intro pins s σ H v u Q I r hw
 obtain ⟨a,xs,e1,hq,hl,hw⟩:=hw
 subst e1
 cases r
 obtain ⟨its,rv,ht,hz⟩:=I.tuple hq
 refine assign_Tuple_tuple (I.ok.hd hc) ht (by simp [hn,<- hl,rv.length]) hst fun h' hx=>?_
 have I1:Inv X pins σ H { s with heap:=h' }:=I.kept (t':=s.toks) fun b o e=>hx b o (Nat.ne_of_lt (Heap.lt_size e)) e
 exact h pins _ σ H xs _ Q I1 (by simpa using rv) hw
noncomputable def Ad (to ti:TE) (t:Ab):TG:=fun v σ H Q=>to σ H fun o H1=>ti σ H1 fun i H2=>t o i v H2 fun H3=>Q σ H3
theorem Ae {o i:Expr} {to ti:TE} {t:Ab} (ho:PE X o to) (hi:PE X i ti) (hs:CP X t)
  (ha:∀v,assign (.Subscript o i pos) X.env v=(do
   let ov <- holding [v] (eval o X.env)
   let iv <- holding [v,ov] (eval i X.env)
   standAt pos
   holding [v,ov,iv] (setItem ov iv v)
   release [v,ov,iv] []):=by intro _;rfl):PG X (.Subscript o i pos) (Ad to ti t):=by
 intro pins s σ H v u Q I r h
 rw [ha]
 refine wpAny_bind (wpAny_holding (thn (ho pins s σ H _ I h) fun ov s1 zr1=>?_))
 obtain ⟨x,H1,I1,r1,q1⟩:=zr1
 refine wpAny_bind (wpAny_holding (thn (hi pins s1 σ H1 _ I1 q1) fun iv s2 zr1=>?_))
 obtain ⟨y,H2,I2,r2,q2⟩:=zr1
 refine wpAny_bind (wpAny_standAt (wpAny_bind (wpAny_holding (thn (hs pins s2 σ H2 x y v ov iv u _ I2 r1 r2 r q2) fun _ s3 zr1=>?_))))
 obtain ⟨H3,I3,q3⟩:=zr1
 exact wpAny_release ⟨σ,H3,I3,q3⟩
noncomputable def dD (te:TE) (g:TG):TS:=fun D σ H=>te σ H fun x H1=>g x σ H1 D.nx
theorem mT {tg e:Expr} {te:TE} {g:TG} (he:PE X e te) (hg:PG X tg g) (hs:swapsWithSole [tg] e pos.line X.env=pure false:=by rfl) (hw:swappedStores [tg] e X.env=pure none:=by rfl)
  (h1:(assignEach [tg] X.env).map (·.2)=[assign tg X.env]:=by rfl):PS X (.Assign [tg] e pos) (dD te g):=by
 intro pins s σ H D I h
 refine wpAny_Assign_stores (thn (he pins s σ H _ I h) fun v s1 zr1=>?_) hs hw
 obtain ⟨x,H1,I1,r1,q1⟩:=zr1
 rw [h1]
 exact thn (hg pins s1 σ H1 x v _ I1 r1 q1) fun _ s2 q=>q
theorem bX {i:Nat} {x:Str} {e:Expr} {te:TE} {pos':Pos} (hN:X.N.Nodup) (hi:X.N[i]?=some x) (hx:Loc X.env.scope x) (he:PE X e te) (hs:swapsWith e (some (.Name x pos')) pos.line X.env=pure false:=by rfl) (hf:X.fn x=true\/X.env.scope.names.lookup x=some .local:=by first | exact .inl rfl | exact .inr rfl | assumption) :
  PS X (.Assign [.Name x pos'] e pos) (dD te (bI i)):=by
 intro pins s σ H D I h
 refine wpAny_Assign_Name (thn (he pins s σ H _ I h) fun v s1 zr1=>?_) hs
 obtain ⟨y,H1,I1,r1,q1⟩:=zr1
 exact fv I1 hN hi hx r1 (fun s2 I2=>⟨_,H1,I2,q1⟩) hf
noncomputable def qX (i j:Nat) (ta:TA):TS:=fun D σ H=>ta σ H fun vs H1=>∃v w,vs=[v,w]/\D.nx ((σ.set i (some v)).set j (some w)) H1
theorem Af {i j:Nat} {x y:Str} {a b:Expr} {ta:TA} {px py pt:Pos} {kt k2 pt2} (hc:X.calm=true) (hN:X.N.Nodup) (hi:X.N[i]?=some x) (hj:X.N[j]?=some y) (hij:i≠j)
  (hx:X.env.scope.names.lookup x=some .local) (hy:X.env.scope.names.lookup y=some .local) (ha:PA X [a,b] ta)
  (hw:swappedStores [.Tuple [.Name x px,.Name y py] kt pt] (.Tuple [a,b] k2 pt2) X.env=pure (some [x,y]))
  (hs:swapsWithSole [.Tuple [.Name x px,.Name y py] kt pt] (.Tuple [a,b] k2 pt2) pos.line X.env=pure false:=by rfl) :
  PS X (.Assign [.Tuple [.Name x px,.Name y py] kt pt] (.Tuple [a,b] k2 pt2) pos) (qX i j ta):=by
 intro pins s σ H D I h
 rw [exec_Assign_arm]
 refine wpAny_bind (wpAny_standAt ?_)
 rw [hs]
 refine wpAny_bind (wpAny_pure ?_)
 rw [if_neg (by decide)]
 refine wpAny_bind (Tuple_ (thn (ha _ pins s σ H _ I h) fun us s1 zr1=>?_))
 obtain ⟨vs,H1,I1,r1,q1⟩:=zr1
 obtain ⟨v,w,e1,q1⟩:=q1
 subst e1
 obtain ⟨u1,u2,rfl,rv,rw'⟩:∃u1 u2,us=[u1,u2]/\RelV v u1/\RelV w u2:=by
  cases r1 with
  | cons p q=>
   cases q with
   | cons p' q'=>
    cases q'
    exact ⟨_,_,rfl,p,p'⟩
 refine wpAny_newObj_type ?_ (by show 2<=sizeLine;decide)
 have I2:Inv X pins σ H1 { s1 with heap:=s1.heap.push { cls:=.type "tuple",data:=.seq [u1,u2].toArray } }:=I1.kept (t':=s1.toks) fun b o e=>Heap.get?_push_of_some _ e
 rw [hw]
 refine wpAny_bind (wpAny_pure ?_)
 show wpAny (model X.prog X.w) X.A (do rule "assign.swapped-stores";let items <- unpackItems (.ref s1.heap.objs.size) 2 none;assignInOrder [fun v=>bindName X.env y v,fun v=>bindName X.env x v] items.reverse;pure Flow.next) _ _ _
 refine wpAny_bind (wpAny_rule (wpAny_bind (unpackItems_tuple (items:=#[u1,u2]) (I.ok.hd hc) (IsTup.new s1.heap _) fun h' hx'=>?_)))
 have I3:=I2.kept (h':=h') (t':=s1.toks) fun b o e=>hx' b o (Nat.ne_of_lt (Heap.lt_size e)) e
 show wpAny _ _ (assignInOrder [fun v=>bindName X.env y v,fun v=>bindName X.env x v] [u2,u1] >>= fun _=>pure Flow.next) _ _ _
 refine wpAny_bind (assignInOrder_cons (wpAny_bindName (fv I3 hN hj (.inl hy) rw' (fun s2 I4=>?_) (.inr hy))))
 refine assignInOrder_cons (wpAny_bindName (fv I4 hN hi (.inl hx) rv (fun s3 I5=>assignInOrder_nil (wpAny_pure ?_)) (.inr hx)))
 rw [List.set_comm _ _ (Ne.symm hij)] at I5
 exact ⟨_,H1,I5,q1⟩
noncomputable def Fs (X:Cx) (t:V->V->Hp->VK->Prop):Prop:=
 ∀(pins:List (Addr×Obj)) (s:Shared) (σ:St) (H:Hp) (o i:V) (ov iv:Value) (Q:VK),Inv X pins σ H s->RelV o ov->RelV i iv->t o i H Q ->
  wpAny (model X.prog X.w) X.A (getItem ov iv) (EP X pins σ Q) X.xe s
end
structure It where
 go:Nat->Hp->Prop
 yld:Nat->Hp->V->Hp->Prop
 stop:Nat->Hp->Prop
noncomputable def g9 (X:Cx) (pins:List (Addr×Obj)) (H:Hp) (b:Addr):Prop:=
 H b=none/\b≠X.env.locals/\b∉X.fs/\(b∈X.ex\/X.s₀.heap.objs.size<=b)/\(∀x c,X.env.cells.lookup x=some c->c≠b)/\∀p∈X.pn++pins,p.1≠b
theorem Inv.fpOk {X:Cx} {pins:List (Addr×Obj)} {σ:St} {H H':Hp} {s:Shared} {b:Addr} (I:Inv X pins σ H s) (hb:s.heap.objs.size<=b) (hn:H' b=none):g9 X pins H' b:=by
 refine ⟨hn,Nat.ne_of_gt (Nat.lt_of_lt_of_le I.lt hb),I.nofs hb,.inr (Nat.le_trans I.sz hb),fun x c e z=>?_,fun p hp z=>?_⟩
 ·obtain ⟨v,q⟩:=I.cell x c e
  exact absurd (Nat.lt_of_lt_of_le q.lt (by rw [z];exact hb)) (Nat.lt_irrefl _)
 ·exact absurd (Nat.lt_of_lt_of_le (Heap.lt_size (I.pin p hp).1) (by rw [z];exact hb)) (Nat.lt_irrefl _)
structure Turn (P:Program) (w:World) (K:PySem.W.Frag) (tg:Expr) (J:It) (fp:List Addr) (it:Addr) (tn:Nat->Heap->Prop):Prop where
 mem:it∈fp
 obj:∀i h,tn i h->∀b∈fp,∃o,h.get? b=some o/\∀v,o.data≠.cell v
 keep:∀i h h',tn i h->(∀b∈fp,∀o,h.get? b=some o->h'.get? b=some o)->tn i h'
 item:∀(X:Cx),X.prog=P->X.w=w->X.K=K->X.calm=true->∀(i:Nat) (pins:List (Addr×Obj)) (s:Shared) (σ:St) (H:Hp) (E:Value->Shared->Prop),Inv X pins σ H s->(∀b∈fp,g9 X pins H b)->tn i s.heap->J.go i H ->
  wpAny (model P w) X.A (pyNext (.ref it)) (fun r s1=>∃u,r=some u /\
   wpAny (model P w) X.A (letOwnedTupleGo tg (.ref it) u) (fun _ s2=>∃x H',Inv X pins σ H' s2/\RelV x u/\J.yld i H x H'/\tn (i+1) s2.heap/\∀b∈fp,H' b=none) E s1) E s
 done:∀(X:Cx),X.prog=P->X.w=w->X.K=K->X.calm=true->∀(i:Nat) (pins:List (Addr×Obj)) (s:Shared) (σ:St) (H:Hp) (E:Value->Shared->Prop),Inv X pins σ H s->(∀b∈fp,g9 X pins H b)->tn i s.heap->J.stop i H ->
  wpAny (model P w) X.A (pyNext (.ref it)) (fun r s1=>r=none/\Inv X pins σ H s1) E s
 self:∀(A:Around) (i:Nat) (s:Shared) (Q:Value->Shared->Prop) (E:Value->Shared->Prop),tn i s.heap->Q (.ref it) s->wpAny (model P w) A (pyIter (.ref it)) Q E s
noncomputable abbrev TI:=St->Hp->(It->Hp->Prop)->Prop
noncomputable def PIE (X:Cx) (pins:List (Addr×Obj)) (σ:St) (tg:Expr) (R:It->Hp->Prop) (itv:Value) (s2:Shared):Prop:=
 ∃(it:Addr) (fp:List Addr) (tn:Nat->Heap->Prop) (J:It) (H':Hp),itv=.ref it/\Inv X pins σ H' s2/\Turn X.prog X.w X.K tg J fp it tn/\tn 0 s2.heap/\(∀b∈fp,g9 X pins H' b)/\R J H'
noncomputable def PI (X:Cx) (tg iter:Expr) (wi:TI):Prop:=
 ∀(pins:List (Addr×Obj)) (s:Shared) (σ:St) (H:Hp) (R:It->Hp->Prop),Inv X pins σ H s->wi σ H R ->
  wpAny (model X.prog X.w) X.A (eval iter X.env) (fun v s1=>wpAny (model X.prog X.w) X.A (pyIter v) (PIE X pins σ tg R) X.xe s1) X.xe s
theorem qY {M:Model} {A:Around} {E:Value->Shared->Prop} {s:Shared} {tg:Expr} {it:Addr} {u:Value} {o:Obj} {n:String} {vs:Array Value} {Q:Unit->Shared->Prop} (ho:s.heap.get? it=some o) (hc:o.cls=.type n) (hd:o.data=.fields vs)
    (hn:["enumerate","zip","dict_itemiterator","dict_reverseitemiterator","odict_iterator","itertools.zip_longest","itertools.pairwise"].contains n=false) (hQ:Q () s):wpAny M A (letOwnedTupleGo tg (.ref it) u) Q E s:=by
  unfold letOwnedTupleGo
  cases tg <;> first
    | exact wpAny_pure hQ
    | (cases u <;> first
        | exact wpAny_pure hQ
        | (refine wpAny_bind (wpAny_load ho ?_)
           rw [hc,hd]
           show wpAny M A (if (["enumerate","zip","dict_itemiterator","dict_reverseitemiterator","odict_iterator","itertools.zip_longest","itertools.pairwise"].contains n&&vs[0]?==some (rawInt _))=true then _ else _) Q E s
           rw [if_neg (by intro h;rw [hn,Bool.false_and] at h;cases h)]
           exact wpAny_pure hQ))
noncomputable def Itl (K:PySem.W.Frag) (a:Addr):It:=
 ⟨fun i H=>∃xs x,SqL K H a xs/\xs[i]?=some x,fun i H x H'=>H'=H/\∀xs,SqL K H a xs->xs[i]?=some x,fun i H=>∃xs,SqL K H a xs/\xs.length<=i⟩
noncomputable def Itr (lo:Int) (n:Nat):It:=⟨fun i _=>i < n,fun i H x H'=>H'=H/\x=.int (lo+i),fun i _=>n<=i⟩
theorem pT {P:Program} {w:World} {K:PySem.W.Frag} {tg:Expr} (a it:Addr):Turn P w K tg (Itl K a) [it] it (fun i h=>h.IsListIter it a i) where
 mem:=by simp
 obj:=fun i h st b hb=>by
  have e:b=it:=by simpa using hb
  subst e
  obtain ⟨o,e,c,d⟩:=st
  exact ⟨o,e,fun v z=>by rw [d] at z;cases z⟩
 keep:=fun i h h' st k=>st.at fun o e=>k it (by simp) o e
 item:=by
  intro X hP hw hK hc i pins s σ H E I hf st hg
  subst hP hw hK
  obtain ⟨xs,x,hq,hx⟩:=hg
  obtain ⟨its,rv,p,hz⟩:=I.list hq
  obtain ⟨u,hu,ru⟩:=rv.get hx
  obtain ⟨f0,f1,f2,f3,f4,f5⟩:=hf it (by simp)
  refine wpAny_pyNext_list_item st p.isList (x:=u) (by simpa using hu) fun h' st' sb=>?_
  have I1:Inv X pins σ H { s with heap:=h' }:=I.turned (t':=s.toks) (fun b o hb e=>(sb.2 b hb).trans e) f0 f1 f3 f4 f5
  obtain ⟨o,e,c,d⟩:=id st'
  exact ⟨u,rfl,qY (s:={ s with heap:=h' }) e c d (by decide) ⟨x,H,I1,ru,⟨rfl,fun ys hy=>by rw [I.list_inj hy hq];exact hx⟩,st',fun b hb=>(hf b hb).1⟩⟩
 done:=by
  intro X hP hw hK hc i pins s σ H E I hf st hg
  subst hP hw hK
  obtain ⟨xs,hq,hx⟩:=hg
  obtain ⟨its,rv,p,hz⟩:=I.list hq
  obtain ⟨f0,f1,f2,f3,f4,f5⟩:=hf it (by simp)
  have hl:=rv.length
  exact wpAny_pyNext_list_end (I.ok.hd hc) st p.isList (by simp;omega) fun h' eb=>⟨rfl,I.turned (t':=s.toks) (fun b o hb e=>eb b o hb e) f0 f1 f3 f4 f5⟩
 self:=fun _ _ _ _ _ st h=>wpAny_pyIter_listiter st h
theorem mU {P:Program} {w:World} {K:PySem.W.Frag} {tg:Expr} (it:Addr) (lo:Int) (n:Nat):Turn P w K tg (Itr lo n) [it] it (fun i h=>IsRangeIter h it (lo+(i:Nat)*1) ((n:Int)-(i:Nat)) 1) where
 mem:=by simp
 obj:=fun i h st b hb=>by
  have e:b=it:=by simpa using hb
  subst e
  exact ⟨_,st,fun v z=>by
   have z':Data.fields _=Data.cell v:=z
   cases z'⟩
 keep:=fun i h h' st k=>k it (by simp) _ st
 item:=by
  intro X hP hw hK hc i pins s σ H E I hf st hg
  subst hP hw hK
  obtain ⟨f0,f1,f2,f3,f4,f5⟩:=hf it (by simp)
  have W:=Walks.range (prog:=X.prog) (w:=X.w) (I.ok.hd hc) it lo 1 n
  refine W.item i s _ _ hg st fun v h' tk hv st' kk=>?_
  obtain ⟨t,rfl⟩:=hv
  have I1:Inv X pins σ H { s with heap:=h',toks:=tk }:=I.turned (fun b o hb e=>kk b o (by simpa using hb) e) f0 f1 f3 f4 f5
  refine ⟨_,rfl,qY (s:={ s with heap:=h',toks:=tk }) (n:="range_iterator") st' rfl rfl (by decide) ⟨.int (lo+i),H,I1,⟨t,?_⟩,⟨rfl,rfl⟩,st',fun b hb=>(hf b hb).1⟩⟩
  rw [Int.mul_one]
 done:=by
  intro X hP hw hK hc i pins s σ H E I hf st hg
  subst hP hw hK
  obtain ⟨f0,f1,f2,f3,f4,f5⟩:=hf it (by simp)
  exact wpAny_pyNext_range_end (I.ok.hd hc) st (by have:n<=i:=hg;omega) fun h' eb=>⟨rfl,I.turned (t':=s.toks) (fun b o hb e=>eb b o hb e) f0 f1 f3 f4 f5⟩
 self:=fun _ _ _ _ _ st h=>wpAny_pyIter_rangeiter st h
end L2
namespace L2
open PySem PySem.Spec PyProof.Rows
section
variable {X:Cx} {tg:Expr}
noncomputable def yJ (K:PySem.W.Frag) (tl:TE):TI:=fun σ H R=>tl σ H fun x H1=>∃a,x=.ref a/\(∃xs,SqL K H1 a xs)/\R (Itl K a) H1
theorem vJ {l:Expr} {tl:TE} (hl:PE X l tl):PI X tg l (yJ X.K tl):=by
 intro pins s σ H R I h
 refine thn (hl pins s σ H _ I h) fun v s1 zr1=>?_
 obtain ⟨x,H1,I1,r1,q1⟩:=zr1
 obtain ⟨a,e,⟨xs,hq⟩,q⟩:=q1
 subst e
 cases r1
 obtain ⟨its,rv,p,hz⟩:=I1.list hq
 refine wpAny_pyIter_list p.isList ?_
 refine ⟨s1.heap.objs.size,[s1.heap.objs.size],_,_,H1,rfl,I1.kept (t':=s1.toks) fun b o e=>Heap.get?_push_of_some _ e,pT a _,⟨_,Heap.get?_push_size _ rfl,rfl,rfl⟩,fun b hb=>?_,q⟩
 have e:b=s1.heap.objs.size:=by simpa using hb
 subst e
 exact I1.fpOk (Nat.le_refl _) (I1.hok.fresh (Nat.le_refl _))
theorem lI {pins:List (Addr×Obj)} {σ:St} {H:Hp} {s:Shared} {R:It->Hp->Prop} {E:Value->Shared->Prop} {lo hi:Int} {t u v:Tok} {tk:Nat} (I:Inv X pins σ H s) (h1:-(2 ^ 62)<=lo) (h2:lo < 2 ^ 62) (h3:-(2 ^ 62)<=hi) (h4:hi < 2 ^ 62)
  (q:R (Itr lo (hi-lo).toNat) H):wpAny (model X.prog X.w) X.A (pyIter (.ref s.heap.objs.size)) (PIE X pins σ tg R) E { s with heap:=s.heap.push { cls:=.type "range",data:=.fields #[.int lo t,.int hi u,.int 1 v] },toks:=tk }:=by
 refine wpAny_pyIter_range (IsRange.new ..) (small_one h1 h2 h3 h4) ?_
 have I1:Inv X pins σ H { s with heap:=s.heap.push { cls:=.type "range",data:=.fields #[.int lo t,.int hi u,.int 1 v] },toks:=tk }:=I.kept fun b o e=>Heap.get?_push_of_some _ e
 refine ⟨(s.heap.push { cls:=.type "range",data:=.fields #[.int lo t,.int hi u,.int 1 v] }).objs.size,[(s.heap.push { cls:=.type "range",data:=.fields #[.int lo t,.int hi u,.int 1 v] }).objs.size],_,_,H,rfl,
  I1.kept (t':=tk) fun b o e=>Heap.get?_push_of_some _ e,mU _ lo (hi-lo).toNat,?_,fun b hb=>?_,q⟩
 ·have e1:lo+((0:Nat):Int)*1=lo:=by simp
  have e2:(((hi-lo).toNat:Nat):Int)-((0:Nat):Int)=Builtin.Range.rangeSize lo hi 1:=by rw [rangeSize_one];split <;> omega
  show IsRangeIter _ _ (lo+((0:Nat):Int)*1) ((((hi-lo).toNat:Nat):Int)-((0:Nat):Int)) 1
  rw [e1,e2]
  exact Heap.get?_push_size _ rfl
 ·have e:b=(s.heap.push { cls:=.type "range",data:=.fields #[.int lo t,.int hi u,.int 1 v] }).objs.size:=by simpa using hb
  subst e
  exact I1.fpOk (Nat.le_refl _) (I1.hok.fresh (Nat.le_refl _))
noncomputable def yK (ta:TA):TI:=fun σ H R=>ta σ H fun vs H1=>∃j:Int,vs=[.int j]/\-(2 ^ 62)<=j/\j < 2 ^ 62/\R (Itr 0 j.toNat) H1
noncomputable def yL (ta:TA):TI:=fun σ H R=>ta σ H fun vs H1=>∃i j:Int,vs=[.int i,.int j]/\(-(2 ^ 62)<=i/\i < 2 ^ 62/\-(2 ^ 62)<=j/\j < 2 ^ 62)/\R (Itr i (j-i).toNat) H1
theorem pU {a:Expr} {ta:TA} {p pos:Pos} (hg:Gl X "range") (hm:X.mg "range"=none) (ha:PA X [a] ta) (hs:starEach [a] X.env=[(false,eval a X.env)]:=by rfl):PI X tg (.Call (.Name "range" p) [a] [] pos) (yK ta):=by
 intro pins s σ H R I h
 refine Call_ (gj I hg hm boot_range (PyProof.Rows.callWith_type1 (thn (ha pos pins s σ H _ I h) fun us s1 zr1=>?_) hs rfl))
 obtain ⟨vs,H1,I1,r1,q1⟩:=zr1
 obtain ⟨j,e,q1,q2,q⟩:=q1
 subst e
 cases r1 with
 | cons r rr=>
  cases rr
  obtain ⟨t,rfl⟩:=r
  exact call_range_1 (lI I1 (by omega) (by omega) q1 q2 (by simpa using q))
theorem pV {a b:Expr} {ta:TA} {p pos:Pos} (hg:Gl X "range") (hm:X.mg "range"=none) (ha:PA X [a,b] ta) (hs:starEach [a,b] X.env=[(false,eval a X.env),(false,eval b X.env)]:=by rfl) (hs2:starEach [b] X.env=[(false,eval b X.env)]:=by rfl) :
  PI X tg (.Call (.Name "range" p) [a,b] [] pos) (yL ta):=by
 intro pins s σ H R I h
 refine Call_ (gj I hg hm boot_range (PyProof.Rows.callWith_type1 (thn (ha pos pins s σ H _ I h) fun us s1 ⟨vs,H1,I1,r1,q1⟩=>?_) (by rw [hs,hs2]) (by rw [hs2];rfl)))
 obtain ⟨i,j,e,⟨q1,q2,q3,q4⟩,q⟩:=q1
 subst e
 cases r1 with
 | cons r rr=>
  cases rr with
  | cons r' rr=>
   cases rr
   obtain ⟨t,rfl⟩:=r
   obtain ⟨t',rfl⟩:=r'
   exact call_range_2 (lI I1 q1 q2 q3 q4 q)
noncomputable def CQ (wi:TI) (g:TG) (tb:TS):TS:=fun D σ H=>wi σ H fun J H1=>∃W:Nat->Nat->St->Hp->Prop,(∃m,W 0 m σ H1)/\∀i m σ H,W i m σ H ->
 (J.stop i H/\D.nx σ H)\/(J.go i H/\∃N:St->Hp->Prop,(∀ σ' H',N σ' H'->∃m',m' < m/\W (i+1) m' σ' H')/\∀x H',J.yld i H x H'->g x σ H' fun σ2 H2=>tb { D with nx:=N,ct:=N,bk:=D.nx } σ2 H2)
noncomputable def eV (fp:List Addr) (h:Heap):List (Addr×Obj):=fp.filterMap fun b=>(h.get? b).map fun o=>(b,o)
theorem bL {fp:List Addr} {h:Heap} {b:Addr} {o:Obj} (hb:b∈fp) (e:h.get? b=some o):(b,o)∈eV fp h:=List.mem_filterMap.mpr ⟨b,hb,by rw [e];rfl⟩
theorem pW {fp:List Addr} {h:Heap} {p:Addr×Obj} (hp:p∈eV fp h):p.1∈fp/\h.get? p.1=some p.2:=by
 obtain ⟨b,hb,e⟩:=List.mem_filterMap.mp hp
 cases q:h.get? b with
 | none=>rw [q] at e;cases e
 | some o=>
  rw [q] at e
  have e':(b,o)=p:=Option.some.inj e
  subst e'
  exact ⟨hb,q⟩
theorem Inv.pinned {pins:List (Addr×Obj)} {σ:St} {H:Hp} {s:Shared} {fp:List Addr} (I:Inv X pins σ H s) (hf:∀b∈fp,g9 X pins H b) (ho:∀b∈fp,∃o,s.heap.get? b=some o/\∀v,o.data≠.cell v):Inv X (pins++eV fp s.heap) σ H s:=
 I.pins_of fun p hp=>(List.mem_append.mp hp).elim (fun z=>I.pin p (List.mem_append_right _ z)) fun z=>by
  obtain ⟨hb,e⟩:=pW z
  obtain ⟨f0,f1,f2,_⟩:=hf p.1 hb
  obtain ⟨o,e',d⟩:=ho p.1 hb
  rw [e] at e';cases e'
  exact ⟨e,f0,f1,f2,d⟩
theorem Inv.unpinned {pins pl:List (Addr×Obj)} {σ:St} {H:Hp} {s:Shared} (I:Inv X (pins++pl) σ H s):Inv X pins σ H s:=I.pins_of fun p hp=>I.pin p (List.mem_append_right _ (List.mem_append_left _ hp))
theorem Ag {iter:Expr} {body:List Stmt} {wi:TI} {g:TG} {tb:TS} {pos:Pos} (hp:PassesOwn (model X.prog X.w) X.A X.env X.xe) (hc:X.calm=true) (hi:PI X tg iter wi) (hg:PG X tg g) (hb:PSs X body tb)
  (hs:∀x,foldedSetIterable iter X.env x=pure x:=by intro _;rfl):PS X (.For tg iter body [] pos) (CQ wi g tb):=by
 intro pins s σ H D I h
 refine wpAny_For (thn (hi pins s σ H _ I h) fun v s1 h1=>thn h1 fun itv s2 h2=>?_) hs
 obtain ⟨it,fp,tn,J,H2,e,I2,T,st2,f2,W,⟨m0,w0⟩,turn⟩:=h2
 subst e
 -- what stays true of the iterator's objects through the loop
 have stat:∀{H':Hp},(∀b∈fp,H' b=none)->∀b∈fp,g9 X pins H' b:=fun hn b hb=>⟨hn b hb,(f2 b hb).2⟩
 refine codeAny_forLoop_any (fun n s'=>∃i σ' H',Inv X pins σ' H' s'/\tn i s'.heap/\(∀b∈fp,H' b=none)/\W i n σ' H') ?_ m0 ⟨0,σ,H2,I2,st2,fun b hb=>(f2 b hb).1,w0⟩
 rintro n s3 ⟨i,σ3,H3,I3,st3,fr3,w3⟩
 rcases turn i n σ3 H3 w3 with ⟨stop,qn⟩ | ⟨go,N,hN,step⟩
 ·refine wpAny_passesOwn hp (thn (T.done X rfl rfl rfl hc i pins s3 σ3 H3 X.xe I3 (stat fr3) st3 stop) fun r s4 zr1=>?_)
  obtain ⟨hr,I4⟩:=zr1
  subst hr
  exact wpAny_execs_nil ⟨σ3,H3,I4,qn⟩
 ·refine wpAny_passesOwn hp (thn (T.item X rfl rfl rfl hc i pins s3 σ3 H3 X.xe I3 (stat fr3) st3 go) fun r s4 zr1=>?_)
  obtain ⟨u,hr,h4⟩:=zr1
  subst hr
  refine wpAny_passesOwn hp (thn h4 fun _ s5 zr1=>?_)
  obtain ⟨x,H5,I5,r5,y5,st5,fr5⟩:=zr1
  have I5':=I5.pinned (stat fr5) (T.obj _ _ st5)
  refine wpAny_passesOwn hp (thn (hg _ s5 σ3 H5 x u _ I5' r5 (step x H5 y5)) fun _ s6 zr1=>?_)
  obtain ⟨σ6,H6,I6,q6⟩:=zr1
  refine wpAny_passesOwn hp (thn (hb _ s6 σ6 H6 _ I6 q6) fun f s7 q7=>?_)
  have again:∀{σ7:St} {H7:Hp},Inv X (pins++eV fp s5.heap) σ7 H7 s7->N σ7 H7->∃m,m < n/\∃i σ' H',Inv X pins σ' H' s7/\tn i s7.heap/\(∀b∈fp,H' b=none)/\W i m σ' H':=fun {σ7 H7} I7 n7=>by
   obtain ⟨m',hm,w7⟩:=hN σ7 H7 n7
   refine ⟨m',hm,i+1,σ7,H7,I7.unpinned,T.keep _ _ _ st5 fun b hb o e=>(I7.pin (b,o) (List.mem_append_right _ (List.mem_append_right _ (bL hb e)))).1,fun b hb=>?_,w7⟩
   obtain ⟨o,e,d⟩:=T.obj _ _ st5 b hb
   exact (I7.pin (b,o) (List.mem_append_right _ (List.mem_append_right _ (bL hb e)))).2.1
  cases f with
  | next=>obtain ⟨σ7,H7,I7,n7⟩:=q7;exact again I7 n7
  | cont=>obtain ⟨σ7,H7,I7,n7⟩:=q7;exact again I7 n7
  | brk=>obtain ⟨σ7,H7,I7,q7⟩:=q7;exact ⟨σ7,H7,I7.unpinned,q7⟩
  | ret v=>obtain ⟨x7,σ7,H7,I7,r7,q7⟩:=q7;exact ⟨x7,σ7,H7,I7.unpinned,r7,q7⟩
end
end L2
namespace L2
open PySem PySem.Spec PyProof.Rows
noncomputable abbrev R2:=V->V->Hp->VK->Prop
noncomputable def OpR (X:Cx) (f:Value->Value->Sem Value) (r:R2):Prop:=
 ∀(pins:List (Addr×Obj)) (s:Shared) (σ:St) (H:Hp) (x y:V) (v u:Value) (Q:VK),Inv X pins σ H s->RelV x v->RelV y u->r x y H Q ->
  wpAny (model X.prog X.w) X.A (f v u) (EP X pins σ Q) X.xe s
noncomputable def UnR (X:Cx) (f:Value->Sem Value) (r:V->Hp->VK->Prop):Prop:=
 ∀(pins:List (Addr×Obj)) (s:Shared) (σ:St) (H:Hp) (x:V) (v:Value) (Q:VK),Inv X pins σ H s->RelV x v->r x H Q ->
  wpAny (model X.prog X.w) X.A (f v) (EP X pins σ Q) X.xe s
noncomputable def cI (X:Cx) (f:Value) (r:List V->Hp->VK->Prop):Prop:=
 ∀(pins:List (Addr×Obj)) (s:Shared) (σ:St) (H:Hp) (xs:List V) (us:List Value) (Q:VK),Inv X pins σ H s->Vals xs us->r xs H Q ->
  wpAny (model X.prog X.w) X.A (call f us) (EP X pins σ Q) X.xe s
noncomputable def Fv (X:Cx) (r:V->Hp->(Bool->Hp->Prop)->Prop):Prop:=
 ∀(pins:List (Addr×Obj)) (s:Shared) (σ:St) (H:Hp) (x:V) (v:Value) (Q:Bool->Hp->Prop),Inv X pins σ H s->RelV x v->r x H Q ->
  wpAny (model X.prog X.w) X.A (truthy v) (TP X pins σ Q) X.xe s
noncomputable def tOp (r:R2) (ta tb:TE):TE:=fun σ H Q=>ta σ H fun x H1=>tb σ H1 fun y H2=>r x y H2 Q
noncomputable def tUn (r:V->Hp->VK->Prop) (ta:TE):TE:=fun σ H Q=>ta σ H fun x H1=>r x H1 Q
noncomputable def rI (C:Int->Int->Prop) (g:Int->Int->V):R2:=fun x y H Q=>∃i j,x=.int i/\y=.int j/\C i j/\Q (g i j) H
noncomputable def rI0 (g:Int->Int->V):R2:=fun x y H Q=>∃i j,x=.int i/\y=.int j/\Q (g i j) H
noncomputable def rU (g:Int->V):V->Hp->VK->Prop:=fun x H Q=>∃i,x=.int i/\Q (g i) H
section
variable {X:Cx} {a b c:Expr} {ta tb tc:TE} {pos:Pos}
theorem Ah (ha:PE X a ta) (hb:PE X b tb) {pins:List (Addr×Obj)} {s:Shared} {σ:St} {H:Hp} {R:V->V->Hp->Prop} (I:Inv X pins σ H s)
  (h:ta σ H fun x H1=>tb σ H1 fun y H2=>R x y H2) {Q:Value->Shared->Prop} {f:Value->Value->Sem Value}
  (hf:∀v u s2 x y H2,Inv X pins σ H2 s2->RelV x v->RelV y u->R x y H2->wpAny (model X.prog X.w) X.A (f v u) Q X.xe s2) :
  wpAny (model X.prog X.w) X.A (eval a X.env) (fun v s₁=>wpAny (model X.prog X.w) X.A (eval b X.env) (fun u s₂=>wpAny (model X.prog X.w) X.A (f v u) Q X.xe s₂) X.xe s₁) X.xe s:=by
 refine thn (ha pins s σ H _ I h) fun v s1 zr1=>?_
 obtain ⟨x,H1,I1,r1,q1⟩:=zr1
 refine thn (hb pins s1 σ H1 _ I1 q1) fun u s2 zr1=>?_
 obtain ⟨y,H2,I2,r2,q2⟩:=zr1
 exact hf v u s2 x y H2 I2 r1 r2 q2
theorem qZ {op:Operator} {r:R2} (ho:OpR X (binaryOp op) r) (ha:PE X a ta) (hb:PE X b tb):PE X (.BinOp a op b pos) (tOp r ta tb):=by
 intro pins s σ H Q I h
 exact wpAny_BinOp (Ah ha hb I h fun v u s2 x y H2 I2 rx ry q=>ho pins s2 σ H2 x y v u Q I2 rx ry q)
theorem CS {op:UnaryOp} {r:V->Hp->VK->Prop} (ho:UnR X (unaryOp op) r) (ha:PE X a ta):PE X (.UnaryOp op a pos) (tUn r ta):=by
 intro pins s σ H Q I h
 exact UnaryOp_ (thn (ha pins s σ H _ I h) fun v s1 zt1=>by obtain ⟨x,H1,I1,r1,q1⟩:=zt1;exact ho pins s1 σ H1 x v Q I1 r1 q1)
theorem opI {f:Value->Value->Sem Value} {C:Int->Int->Prop} {g:Int->Int->Int}
  (rule:∀(i j:Int) (t u:Tok) (s:Shared) (Q:Value->Shared->Prop) (E:Value->Shared->Prop),C i j->Q (.int (g i j) s.toks) { s with toks:=s.toks+1 }->wpAny (model X.prog X.w) X.A (f (.int i t) (.int j u)) Q E s) :
  OpR X f (rI C fun i j=>.int (g i j)):=by
 intro pins s σ H x y v u Q I rx ry h
 obtain ⟨i,j,rfl,rfl,hc,q⟩:=h
 obtain ⟨t,rfl⟩:=rx
 obtain ⟨t',rfl⟩:=ry
 exact rule i j t t' s _ _ hc ⟨.int (g i j),H,I.tok _,⟨_,rfl⟩,q⟩
theorem CT {f:Value->Value->Sem Value} {g:Int->Int->Int}
  (rule:∀(i j:Int) (t u:Tok) (s:Shared) (Q:Value->Shared->Prop) (E:Value->Shared->Prop),Q (.int (g i j) s.toks) { s with toks:=s.toks+1 }->wpAny (model X.prog X.w) X.A (f (.int i t) (.int j u)) Q E s) :
  OpR X f (rI0 fun i j=>.int (g i j)):=by
 intro pins s σ H x y v u Q I rx ry h
 obtain ⟨i,j,rfl,rfl,q⟩:=h
 obtain ⟨t,rfl⟩:=rx
 obtain ⟨t',rfl⟩:=ry
 exact rule i j t t' s _ _ ⟨.int (g i j),H,I.tok _,⟨_,rfl⟩,q⟩
theorem Ai {f:Value->Value->Sem Value} {g:Int->Int->Bool}
  (rule:∀(i j:Int) (t u:Tok) (s:Shared) (Q:Value->Shared->Prop) (E:Value->Shared->Prop),Q (.bool (g i j)) s->wpAny (model X.prog X.w) X.A (f (.int i t) (.int j u)) Q E s) :
  OpR X f (rI0 fun i j=>.bl (g i j)):=by
 intro pins s σ H x y v u Q I rx ry h
 obtain ⟨i,j,rfl,rfl,q⟩:=h
 obtain ⟨t,rfl⟩:=rx
 obtain ⟨t',rfl⟩:=ry
 exact rule i j t t' s _ _ ⟨.bl (g i j),H,I,rfl,q⟩
noncomputable def Fw (i j:Int):Prop:=0 < j/\j < 1073741824
noncomputable def Fx (i j:Int):Prop:=0<=j/\j<=1000000/\i.natAbs < 2 ^ 64
noncomputable def Aj (i j:Int):Prop:=(-(2 ^ 64) < i/\i < 2 ^ 64)\/(-(2 ^ 64) < j/\j < 2 ^ 64)
theorem Aj.ok {i j:Int} (h:Aj i j):IntMulOk i j:=by
 rcases h with ⟨h1,h2⟩ | ⟨h1,h2⟩
 ·exact .of_left (intBits_le_64 h1 h2)
 ·exact .of_right (intBits_le_64 h1 h2)
theorem aJ:OpR X (binaryOp .Add) (rI0 fun i j=>.int (i+j)):=CT fun _ _ _ _ _ _ _ q=>add_int q
theorem aX:OpR X (binaryOp .Sub) (rI0 fun i j=>.int (i-j)):=CT fun _ _ _ _ _ _ _ q=>sub_int q
theorem dF:OpR X (binaryOp .Mult) (rI Aj fun i j=>.int (i*j)):=opI fun _ _ _ _ _ _ _ hc q=>mul_int q hc.ok
theorem kr:OpR X (binaryOp .FloorDiv) (rI Fw fun i j=>.int (i / j)):=opI fun i j _ _ _ _ _ hc q=>by
 have h1:(0:Int) < j:=hc.1
 have h2:j < 1073741824:=hc.2
 exact floordiv_int (by omega) (by rw [Int.fdiv_eq_ediv_of_nonneg i (by omega)];exact q) (.inl (PyProof.noPylong_small (by omega)))
theorem dh:OpR X (binaryOp .Mod) (rI (fun _ j=>0 < j) fun i j=>.int (i%j)):=opI fun i j _ _ _ _ _ hc q=>by
 have h1:(0:Int) < j:=hc
 exact mod_int' (by omega) (by rw [Int.fmod_eq_emod_of_nonneg i (by omega)];exact q)
theorem gm:OpR X (binaryOp .Pow) (rI Fx fun i j=>.int (i ^ j.toNat)):=opI fun _ _ _ _ _ _ _ hc q=>pow_int_small hc.1 hc.2.1 hc.2.2 q
theorem unI {f:Value->Sem Value} {g:Int->Int}
  (rule:∀(i:Int) (t:Tok) (s:Shared) (Q:Value->Shared->Prop) (E:Value->Shared->Prop),Q (.int (g i) s.toks) { s with toks:=s.toks+1 }->wpAny (model X.prog X.w) X.A (f (.int i t)) Q E s) :
  UnR X f (rU fun i=>.int (g i)):=by
 intro pins s σ H x v Q I rx h
 obtain ⟨i,rfl,q⟩:=h
 obtain ⟨t,rfl⟩:=rx
 exact rule i t s _ _ ⟨.int (g i),H,I.tok _,⟨_,rfl⟩,q⟩
theorem bC:UnR X (unaryOp .USub) (rU fun i=>.int (-i)):=unI fun _ _ _ _ _ q=>neg_int q
end
noncomputable def vK:V->V->Bool
 | .non,.non=>true | .non,.int _=>true | .int _,.non=>true | .non,.bl _=>true | .bl _,.non=>true | .non,.str _=>true | .str _,.non=>true
 | .int _,.int _=>true | .bl _,.bl _=>true | .str _,.str _=>true | .byt _,.byt _=>true
 | .int _,.str _=>true | .str _,.int _=>true | .bl _,.str _=>true | .str _,.bl _=>true
 | _,_=>false
noncomputable def rEq:R2:=fun x y H Q=>vK x y=true/\Q (.bl (decide (x=y))) H
noncomputable def rNe:R2:=fun x y H Q=>vK x y=true/\Q (.bl (!decide (x=y))) H
theorem oi {i j:Int}:decide (V.int i=V.int j)=(i==j):=by
 rw [Bool.eq_iff_iff]
 simp
theorem rf {i j:Bool}:decide (V.bl i=V.bl j)=(i==j):=by
 rw [Bool.eq_iff_iff]
 simp
theorem om {i j:Str}:decide (V.str i=V.str j)=(i==j):=by
 rw [Bool.eq_iff_iff]
 simp
theorem oo {i j:Array UInt8}:decide (V.byt i=V.byt j)=(i.toList==j.toList):=by
 rw [Bool.eq_iff_iff]
 cases i
 cases j
 simp
section
variable {X:Cx} {a b c:Expr} {ta tb tc:TE} {pos:Pos}
theorem aR {pins:List (Addr×Obj)} {σ:St} {H:Hp} {s:Shared} {Q:VK} {k k':Bool} (I:Inv X pins σ H s) (q:Q (.bl k) H) (e:k=k'):EP X pins σ Q (.bool k') s:=by
 subst e
 exact ⟨.bl k,H,I,rfl,q⟩
theorem bg:OpR X (compareOp .Eq) rEq:=by
 intro pins s σ H x y v u Q I rx ry h
 obtain ⟨hs,q⟩:=h
 cases x with
 | non=>
  cases rx
  cases y with
  | non=>cases ry;exact PySem.EqNone.eq_none_none (aR I q (by simp))
  | bl j=>cases ry;exact PySem.EqNone.eq_none_bool (aR I q (by simp))
  | int j=>obtain ⟨t',rfl⟩:=ry;exact PySem.EqNone.eq_none_int (aR I q (by simp))
  | str j=>obtain ⟨t',rfl⟩:=ry;exact PySem.EqNone.eq_none_str (aR I q (by simp))
  | _=>exact absurd (show false=true from hs) Bool.false_ne_true
 | bl i=>
  cases rx
  cases y with
  | non=>cases ry;exact PySem.EqNone.eq_bool_none (aR I q (by simp))
  | bl j=>cases ry;exact eq_bool (aR I q rf)
  | str j=>obtain ⟨t',rfl⟩:=ry;exact PySem.EqMixed.eq_bool_str (aR I q (by simp))
  | _=>exact absurd (show false=true from hs) Bool.false_ne_true
 | int i=>
  obtain ⟨t,rfl⟩:=rx
  cases y with
  | non=>cases ry;exact PySem.EqNone.eq_int_none (aR I q (by simp))
  | int j=>obtain ⟨t',rfl⟩:=ry;exact eq_int (aR I q oi)
  | str j=>obtain ⟨t',rfl⟩:=ry;exact PySem.EqMixed.eq_int_str (aR I q (by simp))
  | _=>exact absurd (show false=true from hs) Bool.false_ne_true
 | str i=>
  obtain ⟨t,rfl⟩:=rx
  cases y with
  | non=>cases ry;exact PySem.EqNone.eq_str_none (aR I q (by simp))
  | bl j=>cases ry;exact PySem.EqMixed.eq_str_bool (aR I q (by simp))
  | int j=>obtain ⟨t',rfl⟩:=ry;exact PySem.EqMixed.eq_str_int (aR I q (by simp))
  | str j=>obtain ⟨t',rfl⟩:=ry;exact eq_str (aR I q om)
  | _=>exact absurd (show false=true from hs) Bool.false_ne_true
 | byt i=>
  obtain ⟨t,rfl⟩:=rx
  cases y with
  | byt j=>obtain ⟨t',rfl⟩:=ry;exact PySem.W.eq_bytes (aR I q oo)
  | _=>exact absurd (show false=true from hs) Bool.false_ne_true
 | _=>cases y <;> exact absurd (show false=true from hs) Bool.false_ne_true
theorem rh:OpR X (compareOp .NotEq) rNe:=by
 intro pins s σ H x y v u Q I rx ry h
 obtain ⟨hs,q⟩:=h
 cases x with
 | non=>
  cases rx
  cases y with
  | non=>cases ry;exact PySem.EqNone.ne_none_none (aR I q (by simp))
  | bl j=>cases ry;exact PySem.EqNone.ne_none_bool (aR I q (by simp))
  | int j=>obtain ⟨t',rfl⟩:=ry;exact PySem.EqNone.ne_none_int (aR I q (by simp))
  | str j=>obtain ⟨t',rfl⟩:=ry;exact PySem.EqNone.ne_none_str (aR I q (by simp))
  | _=>exact absurd (show false=true from hs) Bool.false_ne_true
 | bl i=>
  cases rx
  cases y with
  | non=>cases ry;exact PySem.EqNone.ne_bool_none (aR I q (by simp))
  | bl j=>cases ry;exact ne_bool (aR I q (congrArg not rf))
  | str j=>obtain ⟨t',rfl⟩:=ry;exact PySem.EqMixed.ne_bool_str (aR I q (by simp))
  | _=>exact absurd (show false=true from hs) Bool.false_ne_true
 | int i=>
  obtain ⟨t,rfl⟩:=rx
  cases y with
  | non=>cases ry;exact PySem.EqNone.ne_int_none (aR I q (by simp))
  | int j=>obtain ⟨t',rfl⟩:=ry;exact ne_int (aR I q (congrArg not oi))
  | str j=>obtain ⟨t',rfl⟩:=ry;exact PySem.EqMixed.ne_int_str (aR I q (by simp))
  | _=>exact absurd (show false=true from hs) Bool.false_ne_true
 | str i=>
  obtain ⟨t,rfl⟩:=rx
  cases y with
  | non=>cases ry;exact PySem.EqNone.ne_str_none (aR I q (by simp))
  | bl j=>cases ry;exact PySem.EqMixed.ne_str_bool (aR I q (by simp))
  | int j=>obtain ⟨t',rfl⟩:=ry;exact PySem.EqMixed.ne_str_int (aR I q (by simp))
  | str j=>obtain ⟨t',rfl⟩:=ry;exact ne_str (aR I q (congrArg not om))
  | _=>exact absurd (show false=true from hs) Bool.false_ne_true
 | byt i=>
  obtain ⟨t,rfl⟩:=rx
  cases y with
  | byt j=>obtain ⟨t',rfl⟩:=ry;exact PySem.W.ne_bytes (aR I q (congrArg not oo))
  | _=>exact absurd (show false=true from hs) Bool.false_ne_true
 | _=>cases y <;> exact absurd (show false=true from hs) Bool.false_ne_true
theorem iE:OpR X (compareOp .Lt) (rI0 fun i j=>.bl (decide (i < j))):=Ai fun _ _ _ _ _ _ _ q=>lt_int q
theorem iF:OpR X (compareOp .Gt) (rI0 fun i j=>.bl (decide (j < i))):=Ai fun _ _ _ _ _ _ _ q=>gt_int q
theorem CU:OpR X (compareOp .GtE) (rI0 fun i j=>.bl (decide (j<=i))):=Ai fun _ _ _ _ _ _ _ q=>ge_int q
theorem Ak:OpR X (compareOp .Is) (fun x y H Q=>y=.non/\Q (.bl (decide (x=.non))) H):=by
 intro pins s σ H x y v u Q I rx ry h
 obtain ⟨rfl,q⟩:=h
 cases ry
 refine is_none_gen (aR I q ?_)
 cases x <;> first
  | (cases rx;rfl)
  | (obtain ⟨t,rfl⟩:=rx;rfl)
theorem vL:OpR X (compareOp .IsNot) (fun x y H Q=>y=.non/\Q (.bl (!decide (x=.non))) H):=by
 intro pins s σ H x y v u Q I rx ry h
 obtain ⟨rfl,q⟩:=h
 cases ry
 refine isnot_none_gen (aR I q ?_)
 cases x <;> first
  | (cases rx;rfl)
  | (obtain ⟨t,rfl⟩:=rx;rfl)
theorem ay (b:Expr) {op:CmpOp} (h:op≠.In:=by decide) (h2:op≠.NotIn:=by decide):behindInMarks op b=false:=by
 have e1:(op==CmpOp.In)=false:=by cases op <;> first | rfl | exact absurd rfl h
 have e2:(op==CmpOp.NotIn)=false:=by cases op <;> first | rfl | exact absurd rfl h2
 cases b <;> simp [behindInMarks,e1,e2]
theorem vM {op:CmpOp} {r:R2} (ho:OpR X (compareOp op) r) (ha:PE X a ta) (hb:PE X b tb) (hm:behindInMarks op b=false):PE X (.Compare a [op] [b] pos) (tOp r ta tb):=by
 intro pins s σ H Q I h
 exact wpAny_Compare1 (Ah ha hb I h fun v u s2 x y H2 I2 rx ry q=>ho pins s2 σ H2 x y v u Q I2 rx ry q) hm
noncomputable def rm (t:TE):TT:=fun σ H Q=>t σ H fun x H'=>∃k,x=.bl k/\Q k H'
theorem vN {op:CmpOp} {r:R2} (ho:OpR X (compareOp op) r) (ha:PE X a ta) (hb:PE X b tb) (hm:behindInMarks op b=false):PT X (.Compare a [op] [b] pos) (rm (tOp r ta tb)):=by
 intro pins s σ H Q I h
 refine wpAny_isTrue_Compare1 (thn (ha pins s σ H _ I h) fun v s1 ⟨x,H1,I1,r1,q1⟩=>thn (hb pins s1 σ H1 _ I1 q1) fun u s2 ⟨y,H2,I2,r2,q2⟩=>
  thn (ho pins s2 σ H2 x y v u _ I2 r1 r2 q2) fun c s3 ⟨z,H3,I3,r3,k,e,q3⟩=>?_) hm
 subst e
 cases r3
 exact wpAny_truthy_bool ⟨H3,I3,q3⟩
noncomputable def TruV (K:PySem.W.Frag) (x:V) (H:Hp) (k:Bool):Prop:=
 match x with
 | .non=>k=false
 | .bl b=>k=b
 | .int i=>k=(i != 0)
 | .str y=>y.length<=sizeLine/\k=((y.length:Int) != 0)
 | .byt y=>y.size<=sizeLine/\k=((y.size:Int) != 0)
 | .ref p=>(∃xs,SqL K H p xs/\k=!xs.isEmpty)\/(∃xs,SqT K H p xs/\k=!xs.isEmpty)\/∃kvs,H p=some (.dK kvs)/\k=!kvs.isEmpty
 | _=>False
theorem mV {κ:Type} {kvs:List (κ×V)} {vs:List (κ×Value)} (r:KV kvs vs):(!vs.isEmpty)=!kvs.isEmpty:=by
 cases r <;> rfl
theorem iG {xs:List V} {its:List Value} (r:Vals xs its):(!its.toArray.isEmpty)=!xs.isEmpty:=by
 cases r <;> simp
theorem gq:(sizeLine:Nat) < 2 ^ 63:=by rw [sizeLine_eq];decide
theorem Al:Fv X (fun x H Q=>∃k,TruV X.K x H k/\Q k H):=by
 intro pins s σ H x v Q I rx h
 obtain ⟨k,e,q⟩:=h
 have hl:=gq
 have hs:sizeLine=16777216:=sizeLine_eq
 cases x with
 | non=>
  cases rx
  have e':k=false:=e
  subst e'
  exact truthy_none ⟨H,I,q⟩
 | bl b=>
  cases rx
  have e':k=b:=e
  subst e'
  exact wpAny_truthy_bool ⟨H,I,q⟩
 | int i=>
  obtain ⟨t,rfl⟩:=rx
  have e':k=(i != 0):=e
  subst e'
  exact PySem.P.truthy_int ⟨H,I,q⟩
 | str y=>
  obtain ⟨t,rfl⟩:=rx
  obtain ⟨hy,e'⟩:y.length<=sizeLine/\k=((y.length:Int) != 0):=e
  subst e'
  exact PySem.P.truthy_str (by omega) ⟨H,I.tok _,q⟩
 | byt y=>
  obtain ⟨t,rfl⟩:=rx
  obtain ⟨hy,e'⟩:y.size<=sizeLine/\k=((y.size:Int) != 0):=e
  subst e'
  exact PySem.W.truthy_bytes (by omega) ⟨H,I.tok _,q⟩
 | ref p=>
  cases rx
  have e':(∃xs,SqL X.K H p xs/\k=!xs.isEmpty)\/(∃xs,SqT X.K H p xs/\k=!xs.isEmpty)\/∃kvs,H p=some (.dK kvs)/\k=!kvs.isEmpty:=e
  rcases e' with ⟨xs,hx,e'⟩ | ⟨xs,hx,e'⟩ | ⟨kvs,hx,e'⟩
  ·subst e'
   obtain ⟨its,r,pl,hz⟩:=I.list hx
   have hlen:=r.length
   exact wpAny_truthy_list pl.isList (by simp only [List.size_toArray];omega) ⟨H,I.tok _,by rw [iG r];exact q⟩
  ·subst e'
   obtain ⟨its,r,pl,hz⟩:=I.tuple hx
   have hlen:=r.length
   exact truthy_tuple pl (by simp only [List.size_toArray];omega) ⟨H,I.tok _,by rw [iG r];exact q⟩
  ·subst e'
   obtain ⟨hz,hS,vs,r,m⟩:kvs.length<=sizeLine/\(p==sysModules)=false/\∃vs,KV kvs vs/\s.heap.DictOf (ko X.prog X.w) p vs:=I.hok p _ hx
   have hlen:kvs.length=vs.length:=Paired.length r
   exact wpAny_truthy_dict hS m (by omega) ⟨H,I.tok _,by rw [mV r];exact q⟩
 | _=>exact (show False from e).elim
theorem rn (ha:PE X a ta) (he:∀whole,isTrue a X.env whole=(do let v <- whole;standAt a.pos;holding [v] (truthy v))) :
  PT X a (fun σ H Q=>ta σ H fun x H'=>∃k,TruV X.K x H' k/\Q k H'):=by
 intro pins s σ H Q I h
 exact isTrue_plain (thn (ha pins s σ H _ I h) fun v s1 zt1=>by obtain ⟨x,H1,I1,r1,q1⟩:=zt1;exact Al pins s1 σ H1 x v Q I1 r1 q1) (he _)
theorem vals1 {x:V} {us:List Value} (r:Vals [x] us):∃u,us=[u]/\RelV x u:=by
 cases r with
 | cons r1 r2=>cases r2;exact ⟨_,rfl,r1⟩
theorem vals2 {x y:V} {us:List Value} (r:Vals [x,y] us):∃u w',us=[u,w']/\RelV x u/\RelV y w':=by
 cases r with
 | cons r1 r2=>
  cases r2 with
  | cons r3 r4=>cases r4;exact ⟨_,_,rfl,r1,r3⟩
theorem pX:cI X (.type "int") (fun xs H Q=>(∃i,xs=[.int i]/\Q (.int i) H)\/∃k,xs=[.bl k]/\Q (.int (if k then 1 else 0)) H):=by
 intro pins s σ H xs us Q I r h
 rcases h with ⟨i,rfl,q⟩ | ⟨k,rfl,q⟩
 ·obtain ⟨u,rfl,t,rfl⟩:=vals1 r
  exact call_int_int ⟨.int i,H,I,⟨_,rfl⟩,q⟩
 ·obtain ⟨u,rfl,r1⟩:=vals1 r
  cases r1
  exact call_int_bool ⟨.int (if k then 1 else 0),H,I.tok _,⟨_,rfl⟩,q⟩
end
end L2
namespace L2
open PySem PySem.Spec PyProof.Rows
structure ObjM (h:Heap) (x dx C:Addr) (mA:Str->Option Value):Prop where
 obj:h.get? x=some (PySem.W.instObj C dx)
 ns:h.Ns1 dx mA
 ne:dx≠x
theorem pY {h:Heap} {dx:Addr} {mA:Str->Option Value} (n:h.Ns1 dx mA):∃od,h.get? dx=some od/\∀name,PySem.W.lookIn name od=some (mA name):=by
 obtain ⟨o,es,ep,ho,hd,hk,_,hm⟩:=n
 refine ⟨o,ho,fun name=>?_⟩
 have e:=hm name
 unfold nsFind findBy at e
 rw [<- Array.find?_toList] at e
 unfold PySem.W.lookIn
 rw [hd]
 dsimp only
 split
 ·rename_i y q
  rw [q] at e
  exact congrArg some e
 ·rename_i q
  rw [q] at e
  have a:es.toList.any (·.refKey)=false:=by
   rw [List.any_eq_false]
   intro y hy
   obtain ⟨z,t,hkey⟩:=hk y (Array.mem_toList_iff.mp hy)
   simp [DictEntry.refKey,hkey]
  have a':¬ es.toList.any (·.refKey)=true:=by rw [a];exact Bool.false_ne_true
  rw [if_neg a']
  exact congrArg some e
theorem ObjM.look {h:Heap} {x dx C:Addr} {mA:Str->Option Value} (I:ObjM h x dx C mA):∃od,PySem.W.InstAt h x (PySem.W.instObj C dx) C (some od)/\∀name,PySem.W.lookIn name od=some (mA name):=
 let ⟨od,ho,hl⟩:=pY I.ns
 ⟨od,⟨I.obj,rfl,rfl,ho⟩,hl⟩
section
variable {P:Program} {w:World} {H H':Hp} {h h':Heap} {a C dx:Addr} {fs fs':List (Str×V)}
theorem vO (hok:HOk P w H h) (e:H a=some (.ins C dx fs)):∃mA,ObjM h a dx C mA/\(∀f,RelO (fs.lookup f) (mA f))/\PySem.Within mA (fs.map (·.1))/\fs.length<=1000/\H dx=some (.own a):=by
 obtain ⟨d,z,ne,ob,mA,n,r,q⟩:=(show bF P w H h a (.ins C dx fs) from hok a _ e)
 exact ⟨mA,⟨ob,n,ne⟩,r,q,z,d⟩
end
structure Cls (K:PySem.W.Frag) (C:Addr):Prop where
 pg:PySem.W.plainGet K C Str.empty=true
 hd:PySem.W.hasDictIn K C=true
 po:PySem.W.plainOver K C=true
 sa:PySem.W.findIn K (.ref C) "__setattr__"=some (some (.builtin "object.__setattr__"))
theorem Cls.get {K:PySem.W.Frag} {C:Addr} (c:Cls K C) (f:Str):PySem.W.plainGet K C f=true:=c.pg
section
variable {X:Cx} {pins:List (Addr×Obj)} {σ:St} {H:Hp} {s:Shared} {A:Around} {E:Value->Shared->Prop} {Q:Value->Shared->Prop} {c:Value} {b:Bool}
inductive hU (K:PySem.W.Frag) (H:Hp):V->Value->Prop where
 | non:hU K H .non (.type "NoneType")
 | bl (x:Bool):hU K H (.bl x) (.type "bool")
 | int (i:Int):hU K H (.int i) (.type "int")
 | str (x:Str):hU K H (.str x) (.type "str")
 | flt (x:UInt64):hU K H (.flt x) (.type "float")
 | lst {a:Addr} {xs:List V} (e:H a=some (.lst xs)):hU K H (.ref a) (.type "list")
 | frz {a:Addr} {o:Obj} {xs:List V} (e:H a=some (.frz o (.lst xs))):hU K H (.ref a) (.type "list")
 | tup {a:Addr} {xs:List V} (e:H a=some (.tup xs)):hU K H (.ref a) (.type "tuple")
 | dK {a:Addr} {kvs:List (Key×V)} (e:H a=some (.dK kvs)):hU K H (.ref a) (.type "dict")
 | dT {a:Addr} {kvs:List (List Key×V)} (e:H a=some (.dT kvs)):hU K H (.ref a) (.type "dict")
 | ins {a C dx:Addr} {fs:List (Str×V)} (e:H a=some (.ins C dx fs)) (cl:Cls K C) (ha:PySem.W.findIn K (.ref C) "__class__"=some (some (.builtin "object.__class__")))
   (hn:PySem.W.specialIn K (.builtin "object.__class__") "__get__"=some (some (.builtin "getset_descriptor.__get__"))) (htk:PySem.W.takesIn K (.builtin "object.__class__")=some true)
   (hm:PySem.W.mroIn K C (.type "object")=some true):hU K H (.ref a) (.ref C)
theorem cL {x:V} {u t:Value} (I:Inv X pins σ H s) (rx:RelV x u) (ty:hU X.K H x t) (e:PySem.W.kitOne X.K t c=some b) (h:∀tk,Q (.bool b) { s with toks:=tk }) :
  wpAny (model X.prog X.w) A (call (.builtin "isinstance") [u,c]) Q E s:=by
 cases ty with
 | non=>cases (show u=Value.none from rx);exact PySem.W.kia_one PySem.W.kitx_none I.kIn True.intro e (fun z=>nomatch z) h
 | bl y=>cases (show u=Value.bool y from rx);exact PySem.W.kia_one PySem.W.kitx_bool I.kIn True.intro e (fun z=>nomatch z) h
 | int i=>obtain ⟨t,q⟩:=(show ∃t,u=Value.int i t from rx);cases q;exact PySem.W.kia_one PySem.W.kitx_int I.kIn True.intro e (fun z=>nomatch z) h
 | str y=>obtain ⟨t,q⟩:=(show ∃t,u=Value.str y t from rx);cases q;exact PySem.W.kia_one PySem.W.kitx_str I.kIn True.intro e (fun z=>nomatch z) h
 | flt y=>obtain ⟨t,q⟩:=(show ∃t,u=Value.float y t from rx);cases q;exact PySem.W.kia_one PySem.W.kitx_float I.kIn True.intro e (fun z=>nomatch z) h
 | @lst a xs ea=>
  cases (show u=Value.ref a from rx)
  obtain ⟨_,_,n,_,h1⟩:=(show bF X.prog X.w H s.heap a (.lst xs) from I.hok a _ ea)
  exact PySem.W.kia_one PySem.W.kitx_list I.kIn ⟨_,h1,rfl⟩ e (fun z=>nomatch z) h
 | @frz a ob xs ea=>
  cases (show u=Value.ref a from rx)
  obtain ⟨_,_,_,n,_,h1⟩:=(show bF X.prog X.w H s.heap a (.frz ob (.lst xs)) from I.hok a _ ea)
  exact PySem.W.kia_one PySem.W.kitx_list I.kIn ⟨_,h1,rfl⟩ e (fun z=>nomatch z) h
 | @tup a xs ea=>
  cases (show u=Value.ref a from rx)
  obtain ⟨_,_,_,p⟩:=(show bF X.prog X.w H s.heap a (.tup xs) from I.hok a _ ea)
  obtain ⟨o,h1,h2,_⟩:=p
  exact PySem.W.kia_one PySem.W.kitx_tuple I.kIn ⟨o,h1,h2⟩ e (fun z=>nomatch z) h
 | @dK a kvs ea=>
  cases (show u=Value.ref a from rx)
  obtain ⟨_,_,vs,_,p⟩:=(show bF X.prog X.w H s.heap a (.dK kvs) from I.hok a _ ea)
  obtain ⟨o,es,ep,h1,h2,_⟩:=p
  exact PySem.W.kia_one PySem.W.kitx_dict I.kIn ⟨o,h1,h2.1⟩ e (fun z=>nomatch z) h
 | @dT a kvs ea=>
  cases (show u=Value.ref a from rx)
  obtain ⟨_,_,xs,_,o,es,ep,h1,h2,_⟩:=(show bF X.prog X.w H s.heap a (.dT kvs) from I.hok a _ ea)
  exact PySem.W.kia_one PySem.W.kitx_dict I.kIn ⟨o,h1,h2.1⟩ e (fun z=>nomatch z) h
 | @ins a C dx fs ea cl ha hn htk hm=>
  cases (show u=Value.ref a from rx)
  obtain ⟨mA,O,_⟩:=vO I.hok ea
  obtain ⟨od,J,_⟩:=O.look
  exact PySem.W.kia_one (PySem.W.kitx_own (cl.get _) cl.hd ha hn htk hm) I.kIn J e (fun z=>nomatch z) h
end
end L2
namespace L2
open PySem PySem.Spec PyProof.Rows
structure bY (k:Nat) (A:Around):Prop where
 hd:A.handled=none
 dp:A.depth+3*k+5 < recursionLimit
 un:A.units+16*k+200 < cLine
 gd:A.guards=some []
theorem bY.mono {j k:Nat} {A:Around} (r:bY k A) (h:j<=k):bY j A:=⟨r.hd,by have:=r.dp;omega,by have:=r.un;omega,r.gd⟩
theorem bY.deeper {k:Nat} {A:Around} (r:bY (k+1) A) (env:Env):bY k (A.deeper env):=
 ⟨r.hd,by have:=r.dp;show A.depth+1+3*k+5 < _;omega,by have:=r.un;show A.units+3+16*k+200 < _;omega,r.gd⟩
theorem bY.depth {k:Nat} {A:Around} (r:bY k A):A.depth < recursionLimit:=by have:=r.dp;omega
theorem bY.units {k:Nat} {A:Around} (r:bY k A):A.units+64 < cLine:=by have:=r.un;omega
noncomputable def pZ:TA:=fun _ H Q=>Q [] H
noncomputable def iH (ta:TE) (tr:TA):TA:=fun σ H Q=>ta σ H fun x H1=>tr σ H1 fun xs H2=>Q (x::xs) H2
section
variable {X:Cx} {e:Expr} {es:List Expr} {te:TE} {t:TA} {pos:Pos}
theorem iI:PA X [] pZ:=fun _ _ _ _ H Q I h=>Calls.spliced_nil ⟨[],H,I,.nil,h⟩
theorem cU (ha:PE X e te) (hr:PA X es t) (hs:starEach (e::es) X.env=(false,eval e X.env)::starEach es X.env:=by rfl):PA X (e::es) (iH te t):=by
 intro pos pins s σ H Q I h
 rw [hs]
 show wpAny _ _ (spliced ((false,eval e X.env)::backTo pos (starEach es X.env))) _ _ s
 refine Calls.spliced_cons (thn (ha pins s σ H _ I h) fun u s1 zr1=>?_)
 obtain ⟨x,H1,I1,r1,q1⟩:=zr1
 exact thn (hr pos pins s1 σ H1 _ I1 q1) fun us s2 zt1=>by obtain ⟨xs,H2,I2,r2,q2⟩:=zt1;exact ⟨x::xs,H2,I2,.cons r1 r2,q2⟩
noncomputable def CV (t:TA):TE:=fun σ H Q=>t σ H fun xs H1=>xs.length<=sizeLine/\∀p,H1 p=none->Q (.ref p) (upd H1 p (.tup xs))
noncomputable def CW (t:TA):TE:=fun σ H Q=>t σ H fun xs H1=>xs.length<=sizeLine/\∀p,H1 p=none->Q (.ref p) (upd H1 p (.lst xs))
theorem Am {x1} (h:PA X es t):PE X (.Tuple es x1 pos) (CV t):=by
 intro pins s σ H Q I hq
 refine wpAny_Tuple_spliced (thn (h pos pins s σ H _ I hq) fun us s1 ⟨xs,H1,I1,r,z,q⟩=>⟨by rw [<- r.length];exact z,?_⟩)
 have hf:H1 s1.heap.objs.size=none:=I1.hok.fresh (Nat.le_refl _)
 refine ⟨.ref s1.heap.objs.size,upd H1 s1.heap.objs.size (.tup xs),I1.laid (t':=s1.toks) (fun b u e=>Heap.get?_push_of_some _ e) (Nat.le_refl _) ?_,rfl,q _ hf⟩
 exact ⟨z,us,r,⟨_,Heap.get?_push_size _ rfl,rfl,_,rfl⟩⟩
theorem An (h:PA X es t):PE X (.List es pos) (CW t):=by
 intro pins s σ H Q I hq
 refine wpAny_List_spliced (thn (h pos pins s σ H _ I hq) fun us s1 ⟨xs,H1,I1,r,z,q⟩=>⟨by rw [<- r.length];exact z,?_⟩)
 have hf:H1 s1.heap.objs.size=none:=I1.hok.fresh (Nat.le_refl _)
 refine ⟨.ref s1.heap.objs.size,upd H1 s1.heap.objs.size (.lst xs),I1.laid (t':=s1.toks) (fun b u e=>Heap.get?_push_of_some _ e) (Nat.le_refl _) ?_,rfl,q _ hf⟩
 exact ⟨z,us,0,r,Heap.get?_push_size _ rfl⟩
end
noncomputable abbrev Sp:=List V->Hp->VK->XK->Prop
noncomputable abbrev CXT:=List Env->Hp->Shared->XK->Value->Shared->Prop
structure Env0 (P:Program) (w:World) (K:PySem.W.Frag) (mg:Str->Option Value) (base:Heap) (A:Around) (outer:List Env) (s:Shared) (H:Hp):Prop where
 frames:A.frames=some outer
 mod:Mod K mg base
 bs:∀b o,base.get? b=some o->s.heap.get? b=some o/\H b=none
 bsz:base.objs.size<=s.heap.objs.size
 funs:s.heap.FunFrames base outer
 frf:∀b∈frs outer,H b=none
 hok:HOk P w H s.heap
 bare:AllBare s.gens
noncomputable def CE (outer:List Env) (P:Program) (w:World) (H:Hp) (s:Shared) (Q:VK) (u:Value) (s':Shared):Prop:=
 ∃v H',s'.os=s.os/\AllBare s'.gens/\Un (frs outer) [] H H' s.heap s'.heap/\HOk P w H' s'.heap/\RelV v u/\Q v H'
noncomputable def CR (CX:CXT) (outer:List Env) (P:Program) (w:World) (H:Hp) (s:Shared) (Q:VK) (E:XK) (r:Result) (s':Shared):Prop:=
 match r with
 | .ok (.ret u)=>CE outer P w H s Q u s'
 | .ok _=>False
 | .error e=>CX outer H s E e s'
structure jy (P:Program) (w:World) (K:PySem.W.Frag) (mg:Str->Option Value) (base:Heap) (CX:CXT) (k:Nat) (f:Addr) (fd:FuncData) (ps:List Str) (sp:Sp):Prop where
 len:∀vs H Q E,sp vs H Q E->vs.length=ps.length
 run:∀(A:Around) (outer:List Env) (s:Shared) (H:Hp) (args:Args) (us:List Value) (vs:List V) (Q:VK) (E:XK),bY k A->Env0 P w K mg base A outer s H->BindsTo s fd args (ps.zip us)->Vals vs us->sp vs H Q E ->
  codeAny (model P w) A (.call (.ref f) args) (CR CX outer P w H s Q E) s
section
variable {X:Cx} {pins:List (Addr×Obj)} {σ:St} {H:Hp} {s s':Shared}
theorem Inv.env0 (I:Inv X pins σ H s):Env0 X.prog X.w X.K X.mg X.base X.A X.stack s H:=
 ⟨I.ok.frames,I.ok.mod,I.bs,Nat.le_trans I.ok.bsz I.sz,I.stack,I.stkFree,I.hok,I.bare⟩
theorem Inv.after {Q:VK} {u:Value} (I:Inv X pins σ H s) (h:CE X.stack X.prog X.w H s Q u s'):EP X pins σ Q u s':=by
 obtain ⟨v,H',os,bare,un,hok,r,q⟩:=h
 obtain ⟨hh,g,d,t,os'⟩:=s'
 obtain rfl:os'=s.os:=os
 exact ⟨v,H',I.call (h':=hh) (g':=g) (d':=d) (t':=t) (ch:=[]) un hok bare (fun b z=>absurd z (by simp)),r,q⟩
end
noncomputable def gS (sp:Sp) (dvs:List V) (E:XK) (t:TA):TE:=fun σ H Q=>t σ H fun vs H1=>sp (vs++dvs) H1 Q E
noncomputable def Binds (K:PySem.W.Frag) (fd:FuncData) (ps:List Str) (ds:List Value):Prop:=
 ∀(s:Shared) (us:List Value),K.In s.heap->(us++ds).length=ps.length->BindsTo s fd ⟨us,[]⟩ (ps.zip (us++ds))
theorem Binds.all {K:PySem.W.Frag} {fd:FuncData} {ps:List Str} (h:∀us:List Value,us.length=ps.length->bindArgs fd ⟨us,[]⟩=pure (ps.zip us)):Binds K fd ps []:=fun s us _ hl=>by
 rw [List.append_nil] at hl ⊢
 exact .of_eq (h us hl)
noncomputable def mW (CX:CXT) (X:Cx) (E:XK):Prop:=∀(pins:List (Addr×Obj)) (σ:St) (H:Hp) (s:Shared) (e:Value) (s':Shared),Inv X pins σ H s->CX X.stack H s E e s'->X.xe e s'
section
variable {X:Cx} {CX:CXT} {k:Nat} {f C:Addr} {fd:FuncData} {ps:List Str} {sp:Sp} {dvs:List V} {ds:List Value} {E:XK} {x m:Str} {p pos apos:Pos} {e o:Expr} {es:List Expr} {ta:TE} {t:TA}
theorem Ao {pins:List (Addr×Obj)} {σ:St} {H:Hp} {s:Shared} {Q:VK} {us:List Value} {vs:List V} (F:jy X.prog X.w X.K X.mg X.base CX k f fd ps sp) (hr:bY k X.A) (hb:Binds X.K fd ps ds) (hd:Vals dvs ds) (hx:mW CX X E)
  (I:Inv X pins σ H s) (r:Vals vs us) (h:sp (vs++dvs) H Q E):wpAny (model X.prog X.w) X.A (call (.ref f) us) (EP X pins σ Q) X.xe s:=by
 have r2:Vals (vs++dvs) (us++ds):=r.append hd
 have hl:(us++ds).length=ps.length:=by rw [<- r2.length];exact F.len _ _ _ _ h
 refine wpAny_call (codeAny_mono (F.run X.A X.stack s H ⟨us,[]⟩ (us++ds) (vs++dvs) Q E hr I.env0 (hb s us I.kIn hl) r2 h) fun r s' hq=>?_)
 cases r with
 | error e=>exact hx pins σ H s e s' I hq
 | ok fl=>
  cases fl with
  | ret u=>exact I.after hq
  | next=>exact False.elim hq
  | brk=>exact False.elim hq
  | cont=>exact False.elim hq
theorem vP (F:jy X.prog X.w X.K X.mg X.base CX k f fd ps sp) (hr:bY k X.A) (hg:Gl X x) (hm:X.mg x=some (.ref f)) (hk:PySem.W.keepIn X.K (.ref f)=true) (hb:Binds X.K fd ps ds) (hd:Vals dvs ds) (hx:mW CX X E)
  (ha:PA X (e::es) t) (hdb:(x==("__debug__":Str))=false:=by decide) (he:starEach (e::es) X.env=(false,eval e X.env)::starEach es X.env:=by rfl) (hpl:(backTo pos (starEach es X.env)).any (·.1)=false:=by rfl) :
  PE X (.Call (.Name x p) (e::es) [] pos) (gS sp dvs E t):=by
 intro pins s σ H Q I h
 refine wpAny_Call_Name_kw (oh I hg hm ?_ hdb)
 refine PySem.W.callWith_K (h₀:=X.base) I.ok.mod.kin hk (thn (ha pos pins s σ H _ I h) fun us s1 ⟨vs,H1,I1,r,q⟩=>⟨I1.kIn,?_⟩) he hpl
 exact Ao F hr hb hd hx I1 r q
end
structure aH (N P:List Str) (sc:Scope):Prop where
 kind:sc.kind=.function
 co:sc.isCoroutine=false
 gen:sc.isGenerator=false
 nd:N.Nodup
 pre:N.take P.length=P
 par:∀x∈P,sc.names.lookup x=some .local\/sc.names.lookup x=some .cell
 nofree:∀y∈sc.names,y.2≠.free
theorem jE {kindOf:Str->Option NameKind} {x:Str}:∀{binds:List (Str×Value)} {m:Str->Option Value},(∀v,(x,v)∉binds)->bindL kindOf binds m x=m x
 | [],_,_=>rfl
 | (n,v)::r,m,h=>by
  unfold bindL
  rw [jE fun w hw=>h w (List.mem_cons_of_mem _ hw)]
  split
  ·have:x≠n:=by rintro rfl;exact h v List.mem_cons_self
   simp [this]
  ·rfl
theorem jF {kindOf:Str->Option NameKind} {x:Str}:∀{binds:List (Str×Value)} {m:Str->Option Value},(∀v,(x,v)∉binds)->bindC kindOf binds m x=m x
 | [],_,_=>rfl
 | (n,v)::r,m,h=>by
  unfold bindC
  rw [jF fun w hw=>h w (List.mem_cons_of_mem _ hw)]
  split
  ·rfl
  ·have:x≠n:=by rintro rfl;exact h v List.mem_cons_self
   simp [this]
theorem jG {kindOf:Str->Option NameKind} {x:Str} {v:Value}:∀{P:List Str} {vs:List Value} {i:Nat} {m:Str->Option Value},P.Nodup->P[i]?=some x->vs[i]?=some v->kindOf x=some .local ->
  bindL kindOf (P.zip vs) m x=some v
 | [],_,_,_,_,h,_,_=>by simp at h
 | _::_,[],_,_,_,_,h,_=>by simp at h
 | p::P,w::vs,0,m,nd,h1,h2,hk=>by
  simp at h1 h2;subst h1;subst h2
  show bindL kindOf ((p,w)::P.zip vs) m p=_
  unfold bindL
  rw [jE fun v hv=>(List.nodup_cons.mp nd).1 (List.of_mem_zip hv).1,if_pos hk]
  simp
 | p::P,w::vs,i+1,m,nd,h1,h2,hk=>by
  show bindL kindOf ((p,w)::P.zip vs) m x=_
  unfold bindL
  exact jG (i:=i) (List.nodup_cons.mp nd).2 (by simpa using h1) (by simpa using h2) hk
theorem jH {kindOf:Str->Option NameKind} {x:Str} {v:Value}:∀{P:List Str} {vs:List Value} {i:Nat} {m:Str->Option Value},P.Nodup->P[i]?=some x->vs[i]?=some v->kindOf x≠some .local ->
  bindC kindOf (P.zip vs) m x=some v
 | [],_,_,_,_,h,_,_=>by simp at h
 | _::_,[],_,_,_,_,h,_=>by simp at h
 | p::P,w::vs,0,m,nd,h1,h2,hk=>by
  simp at h1 h2;subst h1;subst h2
  show bindC kindOf ((p,w)::P.zip vs) m p=_
  unfold bindC
  rw [jF fun v hv=>(List.nodup_cons.mp nd).1 (List.of_mem_zip hv).1,if_neg hk]
  simp
 | p::P,w::vs,i+1,m,nd,h1,h2,hk=>by
  show bindC kindOf ((p,w)::P.zip vs) m x=_
  unfold bindC
  exact jH (i:=i) (List.nodup_cons.mp nd).2 (by simpa using h1) (by simpa using h2) hk
noncomputable def start (N:List Str) (vs:List V):St:=vs.map some++List.replicate (N.length-vs.length) none
noncomputable def iJ (CX:CXT) (P:Program) (w:World) (K:PySem.W.Frag) (mg:Str->Option Value) (base:Heap) (N:List Str) (qual:Str) (scope:Scope) (f:Addr) (cd:Value) (A:Around) (outer:List Env) (s:Shared) (H:Hp) (E:XK):Cx where
 prog:=P
 w:=w
 K:=K
 mg:=mg
 base:=base
 A:=A.deeper (envOfC qual scope s.heap.objs.size f cd)
 N:=N
 s₀:=s
 H₀:=H
 env:=envOfC qual scope s.heap.objs.size f cd
 outer:=outer
 stack:=envOfC qual scope s.heap.objs.size f cd::outer
 ex:=[]
 calm:=true
 fn:=fun _=>true
 pn:=[]
 xe:=fun e s'=>wpAny (model P w) (A.deeper (envOfC qual scope s.heap.objs.size f cd)) (leaving (envOfC qual scope s.heap.objs.size f cd) e) (fun _ s''=>CX outer H s E e s'') (fun e' s''=>CX outer H s E e' s'') s'
theorem lJ {sc:Scope} {n:Nat} {x:Str} (h:sc.names.lookup x=some .cell):∃c,(cellsFrom n sc.names []).lookup x=some c:=by
 have q:=PySem.W.cellsFrom_some sc.names n [] (.inl h)
 exact Option.isSome_iff_exists.mp q
theorem p6 {CX:CXT} {P:Program} {w:World} {K:PySem.W.Frag} {mg:Str->Option Value} {base:Heap} {N ps:List Str} {qual:Str} {scope:Scope} {f:Addr} {cd:Value} {A:Around} {outer:List Env} {s s1:Shared} {H:Hp} {E:XK} {us:List Value} {vs:List V}
  (S:aH N ps scope) (hd:A.handled=none) (e0:Env0 P w K mg base A outer s H) (hl:vs.length=ps.length) (r:Vals vs us)
  (x:InCallC s s.heap.objs.size (bindL (envOfC qual scope s.heap.objs.size f cd).kindOf (ps.zip us) fun _=>none) (cellsFrom (s.heap.objs.size+1) scope.names []) (bindC (envOfC qual scope s.heap.objs.size f cd).kindOf (ps.zip us) fun _=>none) s1) :
  Inv (iJ CX P w K mg base N qual scope f cd A outer s H E) [] (start N vs) H s1:=by
 have hpl:ps.length<=N.length:=by have:=congrArg List.length S.pre;rw [List.length_take] at this;omega
 obtain ⟨h1,tk,rfl,hk⟩:=x.done
 have noA:∀b:Addr,b∉(iJ CX P w K mg base N qual scope f cd A outer s H E).ex:=fun b z=>absurd (show b∈([]:List Addr) from z) (by simp)
 refine ⟨⟨e0.mod,S.kind,rfl,rfl,Nat.le_refl _,fun y z c h1 h2=>?_,fun y hy=>?_,fun y c _ h=>?_,fun _=>hd,Around.frames_deeper e0.frames,.inr ⟨rfl,rfl⟩,fun b z=>absurd z (noA b),e0.bs,e0.bsz,fun b _ _=>noA b,fun b z=>absurd z (noA b),e0.funs,e0.frf⟩,
  rfl,e0.bare,Un.kept hk,⟨_,x.toInCall.ns,fun i y v h1 h2 h3=>?_⟩,fun y c h=>⟨_,x.cell y c h⟩,e0.hok.fresh (Nat.le_refl _),fun y c h=>?_,fun p hp=>absurd (show p∈([]:List (Addr×Obj)) from hp) (by simp),e0.hok.kept hk,?_⟩
 ·exact name_of_addr x.apart (PySem.mem_of_lookup h1) (PySem.mem_of_lookup h2)
 ·have hy:scope.names.lookup y=some .cell\/scope.names.lookup y=some .free:=hy
  rcases hy with hy | hy
  ·exact lJ hy
  ·exact absurd rfl (S.nofree _ (PySem.mem_of_lookup hy))
 ·exact Nat.le_of_lt (x.above y c (PySem.mem_of_lookup h))
 ·have hi:i < vs.length:=by
   unfold start at h2
   by_cases hi:i < vs.length
   ·exact hi
   ·rw [List.getElem?_append_right (by simpa using hi)] at h2
    rw [List.getElem?_replicate] at h2
    split at h2 <;> cases h2
  have ha:vs[i]?=some v:=by
   unfold start at h2
   rw [List.getElem?_append_left (by simpa using hi),List.getElem?_map] at h2
   cases e:vs[i]? with
   | none=>rw [e] at h2;cases h2
   | some a=>rw [e] at h2;cases h2;rfl
  obtain ⟨u,hu,rv⟩:=r.get ha
  have hp:ps[i]?=some y:=by
   rw [<- S.pre,List.getElem?_take_of_lt (by omega)];exact h1
  have ndP:ps.Nodup:=by rw [<- S.pre];exact S.nd.sublist (List.take_sublist _ _)
  refine ⟨u,rv,?_⟩
  rcases S.par y (List.mem_of_getElem? hp) with k | k
  ·exact .inl ⟨k,jG ndP hp hu k⟩
  ·obtain ⟨c,e⟩:=lJ (n:=s.heap.objs.size+1) k
   refine .inr ⟨.inl k,c,e,?_⟩
   have q:=x.cell y c e
   rw [jH ndP hp hu (by show scope.names.lookup y≠_;rw [k];decide)] at q
   exact q
 ·exact e0.hok.fresh (Nat.le_of_lt (x.above y c (PySem.mem_of_lookup h)))
 ·unfold start
  show _=N.length
  rw [List.length_append,List.length_map,List.length_replicate]
  omega
theorem CY {CX:CXT} {P:Program} {w:World} {K:PySem.W.Frag} {mg:Str->Option Value} {base:Heap} {k:Nat} {f:Addr} {name qual:Str} {params:Arguments} {body:List Stmt} {scope:Scope} {dV kV doc pm cdv ct oc:Value} {an od:Option Addr}
  {osl:Array (Option Value)} {N ps:List Str} {sp:Sp} (lk:K.lookup f=some ⟨oc,od,.func (PySem.W.fnOf name qual params body scope dV kV doc pm an cdv ct),osl⟩) (hcd:PySem.W.codeIn K cdv qual=true) (S:aH N ps scope)
  (len:∀vs H Q E,sp vs H Q E->vs.length=ps.length)
  (hbody:∀(A:Around) (outer:List Env) (s:Shared) (H:Hp) (vs:List V) (Q:VK) (E:XK),bY k (A.deeper (envOfC qual scope s.heap.objs.size f cdv))->sp vs H Q E ->
   ∃t,PSs (iJ CX P w K mg base N qual scope f cdv A outer s H E) body t/\t { nx:=fun _ H'=>Q .non H',rt:=Q } (start N vs) H) :
  jy P w K mg base CX (k+1) f (PySem.W.fnOf name qual params body scope dV kV doc pm an cdv ct) ps sp:=by
 refine ⟨len,fun A outer s H args us vs Q E hr e0 hb r hsp=>?_⟩
 have hl:=len _ _ _ _ hsp
 have KX:K.In s.heap:=e0.mod.kin.keeps fun b o e=>(e0.bs b o e).1
 have lim:s.heap.NoLimit:=e0.mod.nolimit.keeps fun b o e=>(e0.bs b o e).1
 have hkind:∀y∈ps.zip us,scope.names.lookup y.1=some .local\/(scope.names.lookup y.1=some .cell/\((cellsFrom (s.heap.objs.size+1) scope.names []).lookup y.1).isSome=true):=fun ⟨n,v⟩ hy=>by
  rcases S.par n (List.of_mem_zip hy).1 with q | q
  ·exact .inl q
  ·exact .inr ⟨q,PySem.W.cellsFrom_some _ _ _ (.inl q)⟩
 refine codeAny_call_function hr.depth (KX _ _ lk) rfl S.co S.gen rfl (PySem.W.codeRec_of KX hcd) (hb _ _ _ _ ?_)
 refine wpAny_newFunctionEnv_cells S.kind hkind fun env he s1 x=>?_
 subst he
 refine ⟨lim.keeps x.toInCall.keep,codeAny_func ?_⟩
 obtain ⟨t,ht,hq⟩:=hbody A outer s H vs Q E (hr.deeper _) hsp
 have I:Inv (iJ CX P w K mg base N qual scope f cdv A outer s H E) [] (start N vs) H s1:=p6 S hr.hd e0 hl r x
 refine wpAny_mono (ht [] s1 (start N vs) H _ I hq) (fun fl s' hs=>?_) fun e s' hs=>hs
 have fin:∀{σ':St} {H':Hp} {v:V} {u:Value},Inv (iJ CX P w K mg base N qual scope f cdv A outer s H E) [] σ' H' s'->RelV v u->Q v H'->CE outer P w H s Q u s':=
  fun {σ' H' v u} J rv q=>⟨v,H',J.os,J.bare,J.base,J.hok,rv,q⟩
 cases fl with
 | ret u=>
  obtain ⟨v,σ',H',J,rv,q⟩:=hs
  exact fin J rv q
 | next=>
  obtain ⟨σ',H',J,q⟩:=hs
  exact fin (v:=V.non) (u:=Value.none) J rfl q
 | brk=>
  obtain ⟨_,_,_,q⟩:=hs
  exact False.elim q
 | cont=>
  obtain ⟨_,_,_,q⟩:=hs
  exact False.elim q
end L2
namespace L2
open PySem PySem.Spec PyProof.Rows
section
variable {X:Cx} {x:Str} {p pos:Pos} {e:Expr} {es:List Expr} {t:TA} {id T:String} {r:List V->Hp->VK->Prop}
noncomputable def tCB (r:List V->Hp->VK->Prop) (t:TA):TE:=fun σ H Q=>t σ H fun vs H1=>r vs H1 Q
theorem iK (hc:cI X (.builtin id) r) (hg:Gl X x) (hm:X.mg x=none) (hv:bootBuiltins x=some (.builtin id)) (ha:PA X (e::es) t) (hn:x≠"__name__":=by decide) (hdb:(x==("__debug__":Str))=false:=by decide)
  (he:starEach (e::es) X.env=(false,eval e X.env)::starEach es X.env:=by rfl) (hpl:(backTo pos (starEach es X.env)).any (·.1)=false:=by rfl):PE X (.Call (.Name x p) (e::es) [] pos) (tCB r t):=by
 intro pins s σ H Q I h
 refine wpAny_Call_Name_kw (gj I hg hm hv ?_ hn hdb)
 exact PyProof.Rows.callWith_builtin1 (thn (ha pos pins s σ H _ I h) fun us s1 zt1=>by obtain ⟨vs,H1,I1,r1,q1⟩:=zt1;exact hc pins s1 σ H1 vs us Q I1 r1 q1) he hpl
theorem gu (hc:cI X (.type T) r) (hg:Gl X x) (hm:X.mg x=none) (hv:bootBuiltins x=some (.type T)) (ha:PA X (e::es) t) (hn:x≠"__name__":=by decide) (hdb:(x==("__debug__":Str))=false:=by decide)
  (he:starEach (e::es) X.env=(false,eval e X.env)::starEach es X.env:=by rfl) (hpl:(backTo pos (starEach es X.env)).any (·.1)=false:=by rfl):PE X (.Call (.Name x p) (e::es) [] pos) (tCB r t):=by
 intro pins s σ H Q I h
 refine wpAny_Call_Name_kw (gj I hg hm hv ?_ hn hdb)
 exact PyProof.Rows.callWith_type1 (thn (ha pos pins s σ H _ I h) fun us s1 zt1=>by obtain ⟨vs,H1,I1,r1,q1⟩:=zt1;exact hc pins s1 σ H1 vs us Q I1 r1 q1) he hpl
end
end L2
namespace HT
open PySem PyProof.Rows
noncomputable def lexLt:List Int->List Int->Bool
 | [],[]=>false
 | [],_::_=>true
 | _::_,[]=>false
 | x::xs,y::ys=>if x=y then lexLt xs ys else decide (x < y)
theorem dG (x y:Int) (xs ys:List Int):lexLt (x::xs) (y::ys)=if x=y then lexLt xs ys else decide (x < y):=rfl
section
variable {prog:Program} {w:World} {A:Around} {E:Value->Shared->Prop} {s:Shared}
noncomputable def sIx (n d:Nat):Option Int->Nat
 | none=>d
 | some v=>if v < 0 then (v+(n:Int)).toNat else min v.toNat n
theorem iL (n d:Nat):sIx n d none=d:=rfl
theorem h9 (n d k:Nat):sIx n d (some (k:Int))=min k n:=by
 show (if (k:Int) < 0 then ((k:Int)+(n:Int)).toNat else min (k:Int).toNat n)=min k n
 rw [if_neg (by omega),Int.toNat_natCast]
end
end HT
namespace L2
open PySem PySem.Spec PyProof.Rows
noncomputable abbrev TO:=St->Hp->(Option Int->Hp->Prop)->Prop
noncomputable def PO (X:Cx) (e:Option Expr) (t:TO):Prop:=
 ∀(pins:List (Addr×Obj)) (s:Shared) (σ:St) (H:Hp) (Q:Option Int->Hp->Prop),Inv X pins σ H s->t σ H Q ->
  wpAny (model X.prog X.w) X.A (evalPart e X.env) (fun u s'=>∃o H',Inv X pins σ H' s'/\IsPart u o/\Q o H') X.xe s
noncomputable def oq:TO:=fun _ H Q=>Q none H
noncomputable def yM (t:TE):TO:=fun σ H Q=>t σ H fun x H1=>∃i,x=.int i/\Q (some i) H1
theorem intsAre_of {ns:List Int}:∀{us:List Value},Vals (ns.map V.int) us->IntsAre us ns:=by
 induction ns with
 | nil=>intro us r;rw [List.map_nil] at r;cases r;exact .nil
 | cons n ns ih=>
  intro us r
  rw [List.map_cons] at r
  cases r with
  | cons r1 r2=>
   obtain ⟨t,e⟩:=r1
   subst e
   exact .cons n t (ih r2)
section
variable {X:Cx} {e:Expr} {te:TE} {lo hi:Option Expr} {tl th:TO} {pos p2:Pos}
theorem vQ:PO X none oq:=by
 intro pins s σ H Q I h
 rw [evalPart_none]
 exact wpAny_pure ⟨none,H,I,.none,h⟩
theorem vR (h:PE X e te):PO X (some e) (yM te):=by
 intro pins s σ H Q I hw
 rw [evalPart_some]
 refine thn (h pins s σ H _ I hw) fun u s1 zr1=>?_
 obtain ⟨x,H1,I1,r1,q1⟩:=zr1
 obtain ⟨i,rfl,q⟩:=q1
 obtain ⟨t,rfl⟩:=r1
 exact ⟨some i,H1,I1,.int i t,q⟩
noncomputable def SlR (X:Cx) (r:V->Option Int->Option Int->Hp->VK->Prop):Prop:=
 ∀(pins:List (Addr×Obj)) (s:Shared) (σ:St) (H:Hp) (x:V) (v vl vu:Value) (lo hi:Option Int) (sl:Addr) (Q:VK),Inv X pins σ H s->RelV x v->s.heap.IsSliceOf sl vl vu .none->IsPart vl lo->IsPart vu hi->r x lo hi H Q ->
  ∃T id,typeLookup (.type T) "__getitem__"=pure (some (.builtin id))/\s.TypeIs v T/\wpAny (model X.prog X.w) X.A (getItem v (.ref sl)) (EP X pins σ Q) X.xe s
noncomputable def tSl (r:V->Option Int->Option Int->Hp->VK->Prop) (te:TE) (tl th:TO):TE:=fun σ H Q=>te σ H fun x H1=>tl σ H1 fun l H2=>th σ H2 fun u H3=>r x l u H3 Q
theorem lK {r:V->Option Int->Option Int->Hp->VK->Prop} (hr:SlR X r) (he:PE X e te) (hl:PO X lo tl) (hu:PO X hi th):PE X (.Subscript e (.Slice lo hi none p2) pos) (tSl r te tl th):=by
 intro pins s σ H Q I h
 refine Subscript_ (thn (he pins s σ H _ I h) fun v s1 zr1=>?_)
 obtain ⟨x,H1,I1,r1,q1⟩:=zr1
 refine wpAny_Slice (thn (hl pins s1 σ H1 _ I1 q1) fun vl s2 ⟨l,H2,I2,pl,q2⟩=>thn (hu pins s2 σ H2 _ I2 q2) fun vu s3 zr1=>?_)
 obtain ⟨u,H3,I3,pu,q3⟩:=zr1
 rw [evalPart_none]
 refine wpAny_pure ?_
 have I4:Inv X pins σ H3 { s3 with heap:=s3.heap.push { cls:=.type "slice",data:=.fields #[vl,vu,.none] } }:=I3.kept (t':=s3.toks) fun b ob q=>Heap.get?_push_of_some _ q
 obtain ⟨T,id,hT,ht,hg⟩:=hr pins { s3 with heap:=s3.heap.push { cls:=.type "slice",data:=.fields #[vl,vu,.none] } } σ H3 x v vl vu l u s3.heap.objs.size Q I4 r1 (Heap.IsSliceOf.new ..) pl pu q3
 show wpAny (model X.prog X.w) X.A (subscriptTail e (.Slice lo hi none p2) v (.ref s3.heap.objs.size)) (EP X pins σ Q) X.xe { s3 with heap:=s3.heap.push { cls:=.type "slice",data:=.fields #[vl,vu,.none] } }
 exact tail_any (ops:=[.ref s3.heap.objs.size,v]) ht hT hg (by with_unfolding_all rfl)
noncomputable def mX (xs:List V) (lo hi:Option Int):List V:=(xs.drop (HT.sIx xs.length 0 lo)).take (HT.sIx xs.length xs.length hi-HT.sIx xs.length 0 lo)
theorem lL (xs:List V) (lo hi:Option Int):(mX xs lo hi).length<=xs.length:=by
 unfold mX
 rw [List.length_take,List.length_drop]
 omega
end
end L2
namespace L2
open PySem PySem.Spec PyProof.Rows
noncomputable def ixN (n:Nat) (i:Int):Option Nat:=if 0<=i then (if i < n then some i.toNat else none) else if -(n:Int)<=i then some (i+n).toNat else none
noncomputable def atI {α:Type} (xs:List α) (i:Int):Option α:=(ixN xs.length i).bind fun j=>xs[j]?
theorem ot {n:Nat} {i:Int} {j:Nat} (h:ixN n i=some j):seqIndex? i n=some j/\j < n/\-(n:Int)<=i/\i < n:=by
 unfold ixN at h
 by_cases h0:0<=i
 ·rw [if_pos h0] at h
  by_cases h1:i < n
  ·rw [if_pos h1] at h
   have e:i.toNat=j:=Option.some.inj h
   exact ⟨by rw [seqIndex_of h0 h1,e],by omega,by omega,h1⟩
  ·rw [if_neg h1] at h;cases h
 ·rw [if_neg h0] at h
  by_cases h1:-(n:Int)<=i
  ·rw [if_pos h1] at h
   have e:(i+n).toNat=j:=Option.some.inj h
   exact ⟨by rw [seqIndex_neg (by omega) h1,e],by omega,h1,by omega⟩
  ·rw [if_neg h1] at h;cases h
theorem ku {α:Type} {xs:List α} {i:Int} {v:α} (h:atI xs i=some v):∃j,seqIndex? i xs.length=some j/\xs[j]?=some v/\j < xs.length/\-(xs.length:Int)<=i/\i < xs.length:=by
 unfold atI at h
 cases e:ixN xs.length i with
 | none=>rw [e] at h;cases h
 | some j=>
  rw [e] at h
  obtain ⟨h1,h2,h3,h4⟩:=ot e
  exact ⟨j,h1,h,h2,h3,h4⟩
theorem aW {α:Type} {xs:List α} {j:Nat} {v:α} (h:xs[j]?=some v):atI xs (j:Int)=some v:=by
 have hj:j < xs.length:=(List.getElem?_eq_some_iff.mp h).1
 have e:ixN xs.length (j:Int)=some j:=by
  unfold ixN
  rw [if_pos (by omega),if_pos (by omega)];simp
 unfold atI;rw [e];exact h
theorem rp {α:Type} (xs:List α) (v:α):atI (xs++[v]) (-1)=some v:=by
 have hl:(xs++[v]).length=xs.length+1:=by simp
 have e:ixN (xs++[v]).length (-1)=some xs.length:=by
  unfold ixN
  rw [hl,if_neg (by decide),if_pos (by omega)]
  congr 1
  omega
 unfold atI
 rw [e]
 show (xs++[v])[xs.length]?=some v
 simp
noncomputable def cV (b:Expr):Prop:=∀o i,subscripted b false o i=operate [o,i] (getItem o i)
noncomputable def IxR (X:Cx) (r:R2):Prop:=
 ∀(value slice:Expr) (pins:List (Addr×Obj)) (s:Shared) (σ:St) (H:Hp) (x y:V) (v u:Value) (Q:VK),Inv X pins σ H s->RelV x v->RelV y u->r x y H Q ->
  subscripted slice false v u=operate [v,u] (getItem v u)->wpAny (model X.prog X.w) X.A (subscriptTail value slice v u) (EP X pins σ Q) X.xe s
noncomputable def MtR (X:Cx) (id:String) (r:V->List V->Hp->VK->Prop):Prop:=
 ∀(pins:List (Addr×Obj)) (s:Shared) (σ:St) (H:Hp) (x:V) (xs:List V) (v:Value) (us:List Value) (Q:VK),Inv X pins σ H s->RelV x v->Vals xs us->r x xs H Q ->
  wpAny (model X.prog X.w) X.A (call (.builtin id) (v::us)) (EP X pins σ Q) X.xe s
section
variable {X:Cx} {a b:Expr} {ta tb:TE} {pos:Pos}
theorem IxR.or {r r':R2} (h:IxR X r) (h':IxR X r'):IxR X (fun x y H Q=>r x y H Q\/r' x y H Q):=by
 intro value slice pins s σ H x y v u Q I rx ry q hs
 rcases q with q | q
 ·exact h value slice pins s σ H x y v u Q I rx ry q hs
 ·exact h' value slice pins s σ H x y v u Q I rx ry q hs
theorem lM {r:R2} (hr:IxR X r) (ha:PE X a ta) (hb:PE X b tb) (hs:cV b):PE X (.Subscript a b pos) (tOp r ta tb):=by
 intro pins s σ H Q I h
 exact Subscript_ (Ah ha hb I h fun v u s2 x y H2 I2 rx ry q=>hr a b pins s2 σ H2 x y v u Q I2 rx ry q (hs _ _))
noncomputable def CZ (K:PySem.W.Frag):R2:=fun x y H Q=>∃p xs i v,x=.ref p/\y=.int i/\SqL K H p xs/\atI xs i=some v/\Q v H
noncomputable def C0 (K:PySem.W.Frag):R2:=fun x y H Q=>∃p xs i v,x=.ref p/\y=.int i/\SqT K H p xs/\atI xs i=some v/\Q v H
noncomputable def C1:R2:=fun x y H Q=>∃z i c,x=.str z/\y=.int i/\z.length<=sizeLine/\atI z.cps.toList i=some c/\Q (.str ⟨#[c]⟩) H
theorem vS:IxR X (CZ X.K):=by
 intro value slice pins s σ H x y v u Q I rx ry h hs
 obtain ⟨p,xs,i,z,rfl,rfl,hq,he,q⟩:=h
 cases rx
 obtain ⟨t,rfl⟩:=ry
 obtain ⟨its,r,pl,hz⟩:=I.list hq
 obtain ⟨j,h1,h2,h3,h4,h5⟩:=ku he
 obtain ⟨w,ew,rw'⟩:=r.get h2
 have hl:=r.length
 have hn:=gq
 have fin:EP X pins σ Q w s:=⟨z,H,I,rw',q⟩
 by_cases h0:0<=i
 ·have hj:i.toNat=j:=by
   rw [seqIndex_of h0 h5] at h1
   exact Option.some.inj h1
  exact item_listR pl.isList h0 (by omega) (by rw [hj];simpa using ew) fin hs
 ·have hj:(i+(its.toArray.size:Int)).toNat=j:=by
   rw [seqIndex_neg (by omega) h4] at h1
   rw [List.size_toArray,<- hl]
   exact Option.some.inj h1
  exact subscriptTail_builtinR (x:=w) pl.isList.typeIs slot_list_getitem.lookup
   (wpAny_getItem_list_neg (Q:=fun r s'=>r=w/\EP X pins σ Q r s') pl.isList (by omega) (by rw [List.size_toArray] <;> omega) (by omega) (by rw [hj];simpa using ew) ⟨rfl,fin⟩) hs
theorem Ap:IxR X (C0 X.K):=by
 intro value slice pins s σ H x y v u Q I rx ry h hs
 obtain ⟨p,xs,i,z,rfl,rfl,hq,he,q⟩:=h
 cases rx
 obtain ⟨t,rfl⟩:=ry
 obtain ⟨its,r,pl,hz⟩:=I.tuple hq
 obtain ⟨j,h1,h2,h3,h4,h5⟩:=ku he
 obtain ⟨w,ew,rw'⟩:=r.get h2
 have hl:=r.length
 have hn:=gq
 have fin:EP X pins σ Q w s:=⟨z,H,I,rw',q⟩
 exact subscriptTail_builtinR (x:=w) pl.typeIs slot_tuple_getitem.lookup
  (getItem_tuple (j:=j) (Q:=fun r s'=>r=w/\EP X pins σ Q r s') pl (by omega) (by omega) (by rw [List.size_toArray,<- hl];exact h1) (by simpa using ew) ⟨rfl,fin⟩) hs
theorem Aq:IxR X C1:=by
 intro value slice pins s σ H x y v u Q I rx ry h hs
 obtain ⟨z,i,c,rfl,rfl,hz,he,q⟩:=h
 obtain ⟨t,rfl⟩:=rx
 obtain ⟨t',rfl⟩:=ry
 obtain ⟨j,h1,h2,h3,h4,h5⟩:=ku he
 have hl:z.cps.toList.length=z.length:=by simp [Str.length]
 rw [hl] at h1 h4 h5
 have hn:=gq
 exact tail_any (typeIs_str s z t) slot_str_getitem.lookup (getItem_str (c:=c) (by
  have e1:decide (i < -(2 ^ 63:Int))=false:=decide_eq_false (by omega)
  have e2:decide (i >= 2 ^ 63)=false:=decide_eq_false (by omega)
  rw [e1,e2,Bool.or_false]) (by rw [h1];simpa using h2) ⟨.str ⟨#[c]⟩,H,I.tok _,⟨_,rfl⟩,q⟩) hs
noncomputable def rIx (K:PySem.W.Frag):R2:=fun x y H Q=>CZ K x y H Q\/C0 K x y H Q\/C1 x y H Q
theorem mY:IxR X (rIx X.K):=vS.or (Ap.or Aq)
theorem mZ (its:List Value) (n j:Nat) (u:Value):Obj.mapSeq (·.setIfInBounds j u) { cls:=.type "list",data:=.seq its.toArray n }={ cls:=.type "list",data:=.seq (its.set j u).toArray n }:=by
 simp [Obj.mapSeq]
theorem Inv.lst {pins:List (Addr×Obj)} {σ:St} {H:Hp} {s:Shared} {p:Addr} {xs:List V} (I:Inv X pins σ H s) (h:H p=some (.lst xs)) :
  ∃(its:List Value) (n:Nat),Vals xs its/\s.heap.get? p=some { cls:=.type "list",data:=.seq its.toArray n }/\xs.length<=sizeLine:=by
 obtain ⟨z,its,n,r,e⟩:=I.hok p _ h
 exact ⟨its,n,r,e,z⟩
theorem Inv.lstUpd {pins:List (Addr×Obj)} {σ:St} {H:Hp} {s:Shared} {p:Addr} {xs ys:List V} {its its':List Value} {n n':Nat} {f:Obj->Obj} (I:Inv X pins σ H s) (h:H p=some (.lst xs))
  (ho:s.heap.get? p=some { cls:=.type "list",data:=.seq its.toArray n }) (hf:f { cls:=.type "list",data:=.seq its.toArray n }={ cls:=.type "list",data:=.seq its'.toArray n' }) (r:Vals ys its') (hz:ys.length<=sizeLine) (t:Nat) :
  Inv X pins σ (upd H p (.lst ys)) { s with heap:=s.heap.update p f,toks:=t }:=by
 have e:(s.heap.update p f).get? p=some { cls:=.type "list",data:=.seq its'.toArray n' }:=by
  rw [Heap.get?_update_self f ho (by rw [hf] <;> rfl),hf]
 refine I.write (x:=p) (e:=p) (by rw [h];trivial) (.inl rfl) (fun b u hb q=>(Heap.get?_update_other _ _ (Ne.symm hb)).trans q) ⟨_,e⟩ ?_
 exact ⟨hz,its',n',r,e⟩
noncomputable def rq:V->V->V->Hp->(Hp->Prop)->Prop:=fun o i v H Q=>∃p xs k j,o=.ref p/\i=.int k/\H p=some (.lst xs)/\ixN xs.length k=some j/\Q (upd H p (.lst (xs.set j v)))
theorem set_list:CP X rq:=by
 intro pins s σ H o i v ov iv u Q I ro ri rv h
 obtain ⟨p,xs,k,j,rfl,rfl,hp,hj,q⟩:=h
 cases ro
 obtain ⟨t,rfl⟩:=ri
 obtain ⟨its,n,r,ho,hz⟩:=I.lst hp
 obtain ⟨h1,h2,h3,h4⟩:=ot hj
 have hl:=r.length
 have hn:=gq
 have I':Inv X pins σ (upd H p (.lst (xs.set j v))) { s with heap:=s.heap.update p (Obj.mapSeq (·.setIfInBounds j u)) }:=
  I.lstUpd hp ho (mZ its n j u) (r.set rv j) (by rw [List.length_set];exact hz) s.toks
 by_cases h0:0<=k
 ·have hk:k.toNat=j:=by
   rw [seqIndex_of h0 h4] at h1
   exact Option.some.inj h1
  exact PySem.W.ki_setAt ho h0 (by omega) (by rw [List.size_toArray,<- hl];exact h4) (by rw [hk];exact ⟨_,I',q⟩)
 ·have hk:(k+(its.toArray.size:Int)).toNat=j:=by
   rw [seqIndex_neg (by omega) h3] at h1
   rw [List.size_toArray,<- hl]
   exact Option.some.inj h1
  exact PySem.W.ki_setBack ho (by omega) (by rw [List.size_toArray,<- hl];exact h3) (by omega) (by rw [hk];exact ⟨_,I',q⟩)
theorem kz (lo hi:Option Int) (n:Nat):(sliceBounds lo hi none n).1=((HT.sIx n 0 lo:Nat):Int)/\(sliceBounds lo hi none n).2.1=((HT.sIx n n hi:Nat):Int)/\(sliceBounds lo hi none n).2.2=1:=by
 refine ⟨?_,?_,rfl⟩
 ·cases lo with
  | none=>simp [sliceBounds,HT.sIx]
  | some i=>
   simp only [sliceBounds,HT.sIx,Option.getD_none,show (1:Int) > 0 by decide,if_true]
   by_cases h:i < 0
   ·simp only [h,if_true] <;> omega
   ·simp only [h,if_false] <;> omega
 ·cases hi with
  | none=>simp [sliceBounds,HT.sIx]
  | some i=>
   simp only [sliceBounds,HT.sIx,Option.getD_none,show (1:Int) > 0 by decide,if_true]
   by_cases h:i < 0
   ·simp only [h,if_true] <;> omega
   ·simp only [h,if_false] <;> omega
theorem jz (its:List Value) (lo hi:Option Int):slicePick its.toArray lo hi none=((its.drop (HT.sIx its.length 0 lo)).take (HT.sIx its.length its.length hi-HT.sIx its.length 0 lo)).toArray:=by
 obtain ⟨h1,h2,h3⟩:=kz lo hi its.toArray.size
 unfold slicePick
 rw [h1,h2,h3]
 simp only [sliceRange_one,pick_run,List.size_toArray] <;> rfl
noncomputable def Ar (K:PySem.W.Frag):V->Option Int->Option Int->Hp->VK->Prop:=fun x lo hi H Q=>∃a xs,x=.ref a/\SqL K H a xs/\∀p,H p=none->Q (.ref p) (upd H p (.lst (mX xs lo hi)))
theorem ou:SlR X (Ar X.K):=by
 intro pins s σ H x v vl vu lo hi sl Q I rx hs pl pu h
 obtain ⟨a,xs,rfl,hx,q⟩:=h
 cases rx
 obtain ⟨its,r,ht,hz⟩:=I.list hx
 have hlen:=r.length
 refine ⟨"list",_,slot_list_getitem.lookup,ht.isList.typeIs,?_⟩
 refine wpAny_getItem_list_slice ht.isList hs pl pu .none (by simp) ?_ (by rw [List.size_toArray] <;> omega)
 rw [jz,<- hlen]
 refine ⟨.ref s.heap.objs.size,_,I.laid (t':=s.toks) (o:=.lst (mX xs lo hi)) (fun b ob q=>Heap.get?_push_of_some _ q) (Nat.le_refl _) ?_,rfl,q _ (I.hok.fresh (Nat.le_refl _))⟩
 exact ⟨Nat.le_trans (lL xs lo hi) hz,_,0,(r.drop (HT.sIx xs.length 0 lo)).take (HT.sIx xs.length xs.length hi-HT.sIx xs.length 0 lo),Heap.get?_push_size _ rfl⟩
theorem kA:cI X (.builtin "len") (fun xs H Q=>∃p ys,xs=[.ref p]/\(SqL X.K H p ys\/SqT X.K H p ys)/\Q (.int ys.length) H):=by
 intro pins s σ H xs us Q I r h
 obtain ⟨p,ys,rfl,hq,q⟩:=h
 obtain ⟨u,rfl,rx⟩:=vals1 r
 cases rx
 have hn:=gq
 rcases hq with hq | hq
 ·obtain ⟨its,r',pl,hz⟩:=I.list hq
  have hlen:=r'.length
  exact Calls.call_len_list pl.isList (by simp only [List.size_toArray] <;> omega) ⟨.int ys.length,H,I.tok _,⟨s.toks+1,by rw [List.size_toArray,hlen]⟩,q⟩
 ·obtain ⟨its,r',pl,hz⟩:=I.tuple hq
  have hlen:=r'.length
  exact len_tuple pl (by simp only [List.size_toArray] <;> omega) ⟨.int ys.length,H,I.tok _,⟨s.toks+1,by rw [List.size_toArray,hlen]⟩,q⟩
theorem kB:cI X (.type "list") (fun xs H Q=>∃p ys,xs=[.ref p]/\(SqL X.K H p ys\/SqT X.K H p ys)/\∀l,H l=none->Q (.ref l) (upd H l (.lst ys))):=by
 intro pins s σ H xs us Q I r h
 obtain ⟨p,ys,rfl,hq,q⟩:=h
 obtain ⟨u,rfl,rx⟩:=vals1 r
 cases rx
 have fin:∀(its:List Value),Vals ys its->ys.length<=sizeLine->∀(h':Heap) (c':Nat),(∀b o',s.heap.get? b=some o'->h'.get? b=some o') ->
   h'.get? s.heap.objs.size=some { cls:=.type "list",dict:=none,data:=.seq its.toArray c',slots:=#[] }->EP X pins σ Q (.ref s.heap.objs.size) { s with heap:=h' }:=fun its r' hz h' c' kp e=>
  ⟨.ref s.heap.objs.size,_,I.laid (t':=s.toks) kp (Nat.le_refl _) (show bF X.prog X.w _ h' _ (.lst ys) from ⟨hz,its,c',r',e⟩),rfl,q _ (I.hok.fresh (Nat.le_refl _))⟩
 rcases hq with hq | hq
 ·obtain ⟨its,r',pl,hz⟩:=I.list hq
  have hlen:=r'.length
  obtain ⟨o,ho,hc,n,hd⟩:=pl.isList
  exact call_list_seq p (.inl rfl) ho hc hd (fun h' c' kp e=>fin its r' hz h' c' kp e) (by simp only [List.size_toArray] <;> omega)
 ·obtain ⟨its,r',pl,hz⟩:=I.tuple hq
  have hlen:=r'.length
  obtain ⟨o,ho,hc,n,hd⟩:=pl
  exact call_list_seq p (.inr rfl) ho hc hd (fun h' c' kp e=>fin its r' hz h' c' kp e) (by simp only [List.size_toArray] <;> omega)
theorem jA:cI X (.type "tuple") (fun xs H Q=>∃p ys,xs=[.ref p]/\((SqL X.K H p ys/\∀l,H l=none->Q (.ref l) (upd H l (.tup ys)))\/(SqT X.K H p ys/\Q (.ref p) H))):=by
 intro pins s σ H xs us Q I r h
 obtain ⟨p,ys,rfl,h⟩:=h
 obtain ⟨u,rfl,rx⟩:=vals1 r
 cases rx
 rcases h with ⟨hq,q⟩ | ⟨hq,q⟩
 ·obtain ⟨its,r',pl,hz⟩:=I.list hq
  have hlen:=r'.length
  refine call_tuple_list pl.isList (fun h' kp=>?_) (by simp only [List.size_toArray] <;> omega)
  have I1:Inv X pins σ H { s with heap:=h' }:=I.kept (t':=s.toks) kp
  have I2:Inv X pins σ (upd H h'.objs.size (.tup ys)) { s with heap:=h'.push { cls:=.type "tuple",data:=.seq its.toArray } }:=
   I1.laid (t':=s.toks) (fun b o e=>Heap.get?_push_of_some _ e) (Nat.le_refl _) (show bF X.prog X.w _ _ _ (.tup ys) from ⟨hz,its,r',IsTup.new _ _⟩)
  exact ⟨.ref h'.objs.size,_,I2,rfl,q _ (I1.hok.fresh (Nat.le_refl _))⟩
 ·obtain ⟨its,r',pl,hz⟩:=I.tuple hq
  exact call_tuple_same pl ⟨.ref p,H,I,rfl,q⟩
noncomputable def tyV (K:PySem.W.Frag) (T:String) (x:V) (H:Hp):Prop:=match x with
 | .str _=>T="str"
 | .int _=>T="int"
 | .ref p=>(T="list"/\∃xs,SqL K H p xs)\/(T="tuple"/\∃o,K.lookup p=some o/\o.cls=.type "tuple"/\o.dict=none) \/
   (T="dict"/\((∃kvs,H p=some (.dK kvs))\/∃kvs,H p=some (.dT kvs)))\/(T="set"/\∃S n,H p=some (.set S n))
 | _=>False
theorem As {pins:List (Addr×Obj)} {σ:St} {H:Hp} {s:Shared} {T:String} {x:V} {v:Value} (I:Inv X pins σ H s) (r:RelV x v) (ty:tyV X.K T x H) :
  s.TypeIs v T/\∀a,v=.ref a->∃ob,s.heap.get? a=some ob/\ob.dict=none:=by
 cases x with
 | str z=>
  obtain ⟨t,rfl⟩:=r
  cases (show T="str" from ty)
  exact ⟨typeIs_str s z t,fun _ e=>nomatch e⟩
 | int i=>
  obtain ⟨t,rfl⟩:=r
  cases (show T="int" from ty)
  exact ⟨typeIs_int s i t,fun _ e=>nomatch e⟩
 | ref p=>
  cases r
  rcases ty with ⟨rfl,xs,hq⟩ | ⟨rfl,o,hk,hc,hd⟩ | ⟨rfl,hk⟩ | ⟨rfl,S,n,hk⟩
  ·obtain ⟨its,_,pl,_⟩:=I.list hq
   refine ⟨pl.isList.typeIs,fun a e=>?_⟩
   cases e
   obtain ⟨o,n,e,c,hd,_⟩:=pl
   exact ⟨o,e,hd⟩
  ·refine ⟨⟨o,I.kIn p o hk,hc⟩,fun a e=>?_⟩
   cases e
   exact ⟨o,I.kIn _ o hk,hd⟩
  ·have z:∃o,s.heap.get? p=some o/\o.ExactDict:=by
    rcases hk with ⟨kvs,hk⟩ | ⟨kvs,hk⟩
    ·obtain ⟨_,_,_,_,o,_,_,e,ex,_⟩:=I.hok p _ hk
     exact ⟨o,e,ex⟩
    ·obtain ⟨_,_,_,_,o,_,_,e,ex,_⟩:=I.hok p _ hk
     exact ⟨o,e,ex⟩
   obtain ⟨o,e,ex⟩:=z
   refine ⟨⟨o,e,ex.1⟩,fun a e2=>?_⟩
   cases e2
   exact ⟨o,e,ex.2.1⟩
  ·obtain ⟨o,_,_,_,e,ex,_⟩:=I.hok p _ hk
   refine ⟨⟨o,e,ex.1⟩,fun a e2=>?_⟩
   cases e2
   exact ⟨o,e,ex.2.1⟩
 | _=>exact False.elim ty
noncomputable def tBM (K:PySem.W.Frag) (T:String) (r:V->List V->Hp->VK->Prop) (to:TE) (t:TA):TE:=fun σ H Q=>to σ H fun x H1=>tyV K T x H1/\t σ H1 fun xs H2=>r x xs H2 Q
variable {o e:Expr} {es:List Expr} {to:TE} {t:TA} {name:Str} {apos cpos:Pos} {T id:String} {r:V->List V->Hp->VK->Prop}
theorem C2 (pa:PlainAttrs T) (slot:Slot T name id) (hty:typeOf (.builtin id)=pure (.type "method_descriptor")) (hm:MtR X id r) (ho:PE X o to) (ha:PA X (e::es) t)
  (hbase:attributeBase o name X.env (eval o X.env)=eval o X.env:=by rfl)
  (hfew:((backTo cpos (starEach (e::es) X.env)).all (fun x=>!x.1)&&(backToKw cpos (keywordEach [] X.env)).all (fun x=>x.1.isSome)
   && decide ((e::es).length+([]:List Keyword).length+(if ([]:List Keyword).isEmpty then 0 else 1) < 30))=true:=by rfl)
  (hline:(apos.endLine==cpos.line)=true:=by rfl) (hs:starEach (e::es) X.env=(false,eval e X.env)::starEach es X.env:=by rfl) (hplain:(backTo cpos (starEach es X.env)).any (·.1)=false:=by rfl) :
  PE X (.Call (.Attribute o name apos) (e::es) [] cpos) (tBM X.K T r to t):=by
 intro pins s σ H Q I h
 refine wpAny_Call_method_late hbase hfew hline rfl (thn (ho pins s σ H _ I h) fun v s1 zr1=>?_)
 obtain ⟨x,H1,I1,r1,ty,q1⟩:=zr1
 obtain ⟨h1,h2⟩:=As I1 r1 ty
 refine ⟨T,id,pa,slot,hty,h1,h2,?_⟩
 have hA:=ha cpos pins s1 σ H1 _ I1 q1
 rw [hs] at hA ⊢
 refine Calls.callWith_builtin (by show (false||(backTo cpos (starEach es X.env)).any (·.1))=false;rw [hplain] <;> rfl) (Calls.evalArgs_plain ?_)
 exact thn hA fun us s2 zt1=>by obtain ⟨vs,H2,I2,r2,q2⟩:=zt1;exact hm pins s2 σ H2 x vs v us Q I2 r1 r2 q2
end
end L2
namespace L2
open PySem PySem.Spec PyProof.Rows
noncomputable def MtM (X:Cx) (id:String) (r:V->List V->Hp->VK->Prop):Prop:=
 ∀(pins:List (Addr×Obj)) (s:Shared) (σ:St) (H:Hp) (x:V) (xs:List V) (v:Value) (us:List Value) (Q:VK),Inv X pins σ H s->RelV x v->Vals xs us->r x xs H Q ->
  wpAny (model X.prog X.w) X.A (call (.builtin id) (v::us)) (EP X pins σ Q) X.xe s
theorem Vals.one:∀{x:V} {us:List Value},Vals [x] us->∃u,us=[u]/\RelV x u:=by
 intro x us h
 cases h with
 | cons r h=>cases h;exact ⟨_,rfl,r⟩
theorem Vals.two:∀{x y:V} {us:List Value},Vals [x,y] us->∃u v,us=[u,v]/\RelV x u/\RelV y v:=by
 intro x y us h
 cases h with
 | cons r h=>
  cases h with
  | cons q h=>cases h;exact ⟨_,_,rfl,r,q⟩
section
variable {X:Cx} {pins:List (Addr×Obj)} {σ:St} {H:Hp} {s:Shared} {l b:Addr} {xs ys zs:List V}
theorem Inv.lset {its its':List Value} {n:Nat} {f:Array Value->Array Value} {t':Nat} (I:Inv X pins σ H s) (hH:H l=some (.lst xs))
  (e:s.heap.get? l=some { cls:=.type "list",data:=.seq its.toArray n }) (hf:f its.toArray=its'.toArray) (hv:Vals ys its') (hz:ys.length<=sizeLine) :
  Inv X pins σ (upd H l (.lst ys)) { s with heap:=s.heap.update l (Obj.mapSeq f),toks:=t' }:=by
 have q:=PySem.IsL.update e f
 rw [hf] at q
 refine I.write (x:=l) (e:=l) (by rw [hH];exact trivial) (.inl rfl) (fun b' u hb hu=>(Heap.get?_update_other s.heap (Obj.mapSeq f) (Ne.symm hb)).trans hu) ⟨_,q⟩ ?_
 exact ⟨hz,its',_,hv,q⟩
theorem Inv.lnew {its:List Value} {t':Nat} (I:Inv X pins σ H s) (hv:Vals ys its) (hz:ys.length<=sizeLine) :
  Inv X pins σ (upd H s.heap.objs.size (.lst ys)) { s with heap:=s.heap.push { cls:=.type "list",data:=.seq its.toArray },toks:=t' }:=
 I.laid (fun _ _ q=>Heap.get?_push_of_some _ q) (Nat.le_refl _) ⟨hz,its,0,hv,Heap.get?_push_size _ rfl⟩
theorem Inv.fresh (I:Inv X pins σ H s):H s.heap.objs.size=none:=I.hok.fresh (Nat.le_refl _)
theorem Inv.lstM (I:Inv X pins σ H s) (hH:H l=some (.lst xs)):xs.length<=sizeLine/\∃(its:List Value) (n:Nat),Vals xs its/\xs.length=its.length/\s.heap.get? l=some { cls:=.type "list",data:=.seq its.toArray n }:=by
 obtain ⟨z,its,n,r,e⟩:=I.hok l _ hH
 exact ⟨z,its,n,r,r.length,e⟩
end
section
variable {X:Cx}
noncomputable def ig:V->List V->Hp->VK->Prop:=fun x vs H Q=>∃l xs y,x=.ref l/\vs=[y]/\H l=some (.lst xs)/\xs.length < sizeLine/\Q .non (upd H l (.lst (xs++[y])))
theorem p7:MtM X "list.append" ig:=by
 intro pins s σ H x vs v us Q I rx rv h
 obtain ⟨l,xs,y,rfl,rfl,hH,hz,q⟩:=h
 cases rx
 obtain ⟨u,rfl,ru⟩:=rv.one
 obtain ⟨z,its,n,r,hl,e⟩:=I.lstM hH
 refine call_meets F.slot_list_append ⟨_,e,rfl⟩ F.entry_list_append (F.args_list_append_2 _ _) (PySem.list_append l its.toArray n u (by rw [List.size_toArray];omega)) ⟨e,?_⟩
 refine ⟨.non,_,I.lset (its':=its++[u]) hH e (by simp) (r.append (.cons ru .nil)) ?_,rfl,q⟩
 rw [List.length_append,List.length_singleton]
 omega
noncomputable def C3:R2:=fun x y H Q=>∃l b xs zs,x=.ref l/\y=.ref b/\H l=some (.lst xs)/\H b=some (.lst zs)/\xs.length+zs.length<=sizeLine/\∀p,H p=none->Q (.ref p) (upd H p (.lst (xs++zs)))
theorem Au:OpR X (binaryOp .Add) C3:=by
 intro pins s σ H x y v u Q I rx ry h
 obtain ⟨l,b,xs,zs,rfl,rfl,hH,hB,hz,q⟩:=h
 cases rx
 cases ry
 obtain ⟨z,its,n,r,hl,e⟩:=I.lstM hH
 obtain ⟨z2,its2,n2,r2,hl2,e2⟩:=I.lstM hB
 refine PySem.P.add_list e e2 ?_ (by rw [List.size_toArray,List.size_toArray];omega)
 have ea:its.toArray++its2.toArray=(its++its2).toArray:=by simp
 rw [ea]
 exact ⟨.ref _,_,I.lnew (t':=s.toks) (r.append r2) (by rw [List.length_append];omega),rfl,q _ I.fresh⟩
end
end L2
namespace Att
open PySem PySem.W PySem.Calls PyProof.Rows
theorem hV {P:Params} {h:Heap}:∀(ns:List Int) (vs:List Value),WellAll P h vs (ns.map WData.int)->IntsAre vs ns:=by
 intro ns
 induction ns with
 | nil=>
  intro vs w
  rw [List.map_nil] at w
  cases w
  exact .nil
 | cons n ns ih=>
  intro vs w
  rw [List.map_cons] at w
  cases w with
  | cons a b=>
   cases a
   exact .cons _ _ (ih _ b)
theorem p8 {l:OpenLaw} {n:Nat} (hn:l.most=some n) {P:Params} {h:Heap} {args:List WData} {vals:List Value}
  (hpre:l.row.toRowW.claim.pre args=true) (hwl:WellAll P h vals args) :
  ∃a vs ns,vals=[Value.ref a]/\args=[WData.list (ns.map WData.int)]/\h.get? a=some { cls:=.type "list",data:=.seq vs.toArray }/\IntsAre vs ns/\ns.length<=n:=by
 have hsh:WShape.hasAll [] args [.list .int]=true:=(pre_splitW hpre).1
 have hc:l.pre.holds [] { args:=args }=true:=(pre_splitW hpre).2
 obtain ⟨d,r,rfl,h1,h2⟩:=hasAllW_cons hsh
 obtain rfl:=hasAllW_nil h2
 obtain ⟨xs,rfl,h3⟩:=hasW_list h1
 obtain ⟨ns,rfl⟩:=items_int h3
 have hlen:ns.length<=n:=by
  unfold OpenLaw.pre at hc
  have h4:(WTm.not (.lt (.lit (.int (n:Int))) (.len (.arg 0)))).holds [] { args:=[.list (ns.map .int)] }=true:=by
   have h4:=(holds_andW hc).1
   rw [hn] at h4
   exact h4
  have h5:=condW_of h4 (w_not (w_lt w_lit (w_len_list (w_arg rfl))))
  rw [List.length_map] at h5
  refine Nat.le_of_not_lt fun q=>?_
  have q':(n:Int) < ((ns.length:Nat):Int):=by omega
  first
   | (rw [decide_eq_true q'] at h5;exact absurd h5 (by decide))
   | (simp at h5;omega)
 cases hwl with
 | cons w1 w2=>
  cases w2
  cases w1 with
  | list ho hall=>exact ⟨_,_,ns,rfl,rfl,ho,hV ns _ hall,hlen⟩
theorem p9 (l:OpenLaw) (args:List WData):l.row.toRowW.claim.post args (.bool true) args=true:=
 postW_of (r:=l.row.toRowW) (X:=(true==true))
  (show WShape.has [] (.bool true) .bool=true by first | rfl | decide | simp [WShape.has,WShape.arms,WShape.armsAll])
  (show (WTm.eq .res (.lit (.bool true))).value [] { args:=args,res:=some (.bool true),after:=args }=some (.bool (true==true)) from w_eq_bool (w_res rfl) w_lit) rfl
theorem lN {l:OpenLaw} {n:Nat} {q:Program} {loose:List Str} {XP:(Str->Option Value)->Heap->Prop} {YP:World->Heap->Prop} {d:DefRec}
  (hn:l.most=some n) (hdf:d.params.defaults=[])
  (call:∀(w:World) (s₀ s₁:Shared) (mg mb:Str->Option Value) (fa:Addr) (o:Obj) (pm cd doc:Value) (a:Addr) (vs:List Value) (ns:List Int),
   Ground q loose [] XP w s₀ mg mb s₁.heap->YP w s₁.heap ->
   s₁.heap.get? fa=some o->o.data=.func (docDef d.name d.params d.body d.scope pm cd doc)->s₁.heap.CodeRec cd d.name->mg d.name=some (.ref fa) ->
   s₁.heap.get? a=some { cls:=.type "list",data:=.seq vs.toArray }->IntsAre vs ns->ns.length<=n->s₁.gens=#[] ->
   codeAny (model l.prog w) callerA (.call (.ref fa) ⟨[.ref a],[]⟩) (fun r s'=>r=.ok (.ret (.bool true))/\OldK s₁.heap s'.heap/\s'.os=s₁.os/\AllBare s'.gens) s₁) :
  WalkO q loose XP YP l.row.toRowW d [] (fun f vs=>PySem.call f vs):=by
 intro w s₀ s₁ mg mb G Y fa o pm cd doc dV kV ho hd hcd hD hmg hg args vals as hpre hlay hrd hwl hlo
 obtain rfl:dV=.none:=Dflts.none hD hdf
 obtain rfl:kV=.none:=Dflts.noKw hD
 obtain ⟨a,vs,ns,rfl,rfl,hobj,hints,hlen⟩:=p8 hn hpre hwl
 refine enter_call (codeAny_mono (call w s₀ s₁ mg mb fa o pm cd doc a vs ns G Y ho (fd_plain hd) hcd hmg hobj hints hlen hg) fun r s' hq=>?_)
 obtain ⟨rfl,h2,h3,h4⟩:=hq
 exact ⟨.inl ⟨.bool true,.bool true,[],rfl,fun _=>rfl,.bool true,p9 l _,fun _=>⟨List.Pairwise.nil,fun _ hm=>(nomatch hm)⟩⟩,h2,h3,h4⟩
end Att
namespace L2
open PySem PySem.Spec PyProof.Rows
theorem jI:∀{vs:List Value} {ns:List Int},IntsAre vs ns->Vals (ns.map V.int) vs
 | _,_,.nil=>.nil
 | _,_,.cons n t h=>.cons ⟨t,rfl⟩ (jI h)
noncomputable def Only (H:Hp):Prop:=∀b,H b=none\/∃o xs,H b=some (.frz o (.lst xs))
theorem rA {P:Program} {w:World} {K:PySem.W.Frag} {mg mb:Str->Option Value} {CX:CXT} {k:Nat} {fa a:Addr} {fd:FuncData} {x:Str} {sp:Sp} {s₁:Shared} {vs:List Value} {ns:List Int}
  (KX:K.In s₁.heap) (hns:s₁.heap.Ns mainGlobals mg) (hb:s₁.heap.Ns builtinsNs mb) (hbb:∀x:Str,x≠"__name__"->mb x=bootBuiltins x) (hlim:s₁.heap.NoLimit) (hg:s₁.gens=#[])
  (ha:s₁.heap.get? a=some { cls:=.type "list",data:=.seq vs.toArray }) (hi:IntsAre vs ns) (hl:ns.length<=sizeLine) (hr:bY k callerA)
  (F:∀base:Heap,K.In base->base.Ns mainGlobals mg->jy P w K mg base CX k fa fd [x] sp) (hbind:∀(s:Shared) (u:Value),BindsTo s fd ⟨[u],[]⟩ [(x,u)])
  (hsp:∀H:Hp,Only H->SqL K H a (ns.map V.int)->sp [.ref a] H (fun v _=>v=.bl true) fun _ _ _=>False)
  (hCX:∀H e s',CX [] H s₁ (fun _ _ _=>False) e s'->False) :
  codeAny (model P w) callerA (.call (.ref fa) ⟨[.ref a],[]⟩) (fun r s'=>r=.ok (.ret (.bool true))/\OldK s₁.heap s'.heap/\s'.os=s₁.os/\AllBare s'.gens) s₁:=by
 have rv:=jI hi
 have lenV:=hi.length
 -- from an abstract heap in which nothing but the script may be tracked
 have core:∀H:Hp,Only H->SqL K H a (ns.map V.int)->HOk P w H s₁.heap->(∀b,H b≠none->b=a)->(H a≠none->K.lookup a=none) ->
   codeAny (model P w) callerA (.call (.ref fa) ⟨[.ref a],[]⟩) (fun r s'=>r=.ok (.ret (.bool true))/\OldK s₁.heap s'.heap/\s'.os=s₁.os/\AllBare s'.gens) s₁:=by
  intro H hO hS hok hA hK
  have base_of:∀{b:Addr} {o:Obj},s₁.heap.get? b=some o->H b=none->(kq s₁.heap H).get? b=some o:=fun e n=>qP e n
  have noA:∀{b:Addr} {o:Obj} {es:Array DictEntry} {ep:Nat},s₁.heap.get? b=some o->o.data=.dict es ep->H b=none:=fun {b o es ep} e d=>by
   cases q:H b with
   | none=>rfl
   | some u=>
    have e':b=a:=hA b (by rw [q];simp)
    subst e'
    rw [ha] at e;cases e
    have d':Data.seq vs.toArray _=Data.dict es ep:=d
    cases d'
  have nsK:∀{b:Addr} {m:Str->Option Value},s₁.heap.Ns b m->(kq s₁.heap H).Ns b m:=fun {b m} zt1=>by obtain ⟨o,es,ep,e,d,r⟩:=zt1;exact ⟨o,es,ep,base_of e (noA e d),d,r⟩
  have hKb:K.In (kq s₁.heap H):=fun b o e=>base_of (KX b o e) (by
   cases q:H b with
   | none=>rfl
   | some u=>
    have e':b=a:=hA b (by rw [q];simp)
    subst e'
    rw [hK (by rw [q];simp)] at e;cases e)
  have hM:Mod K mg (kq s₁.heap H):=⟨hKb,nsK hns,⟨mb,nsK hb,hbb⟩,let ⟨mc,h1,h2⟩:=hlim;⟨mc,nsK h1,h2⟩⟩
  have e0:Env0 P w K mg (kq s₁.heap H) callerA [] s₁ H:=⟨rfl,hM,fun b o e=>vA e,Nat.le_of_eq (pS _ _),trivial,fun b hb=>absurd (show b∈([]:List Addr) from hb) (by simp),hok,.of_eq hg⟩
  refine codeAny_mono ((F _ hKb (nsK hns)).run callerA [] s₁ H ⟨[.ref a],[]⟩ [.ref a] [.ref a] _ _ hr e0 (hbind s₁ (.ref a)) (.cons rfl .nil) (hsp H hO hS)) fun r s' h=>?_
  cases r with
  | error e=>exact (hCX H e s' h).elim
  | ok fl=>
   cases fl with
   | next=>exact False.elim h
   | brk=>exact False.elim h
   | cont=>exact False.elim h
   | ret u=>
    obtain ⟨v,H',os,bare,un,hok',r',q⟩:=h
    have q':v=.bl true:=q
    subst q'
    obtain rfl:u=Value.bool true:=r'
    refine ⟨rfl,OldK.of_keep fun b o e=>?_,os,bare⟩
    cases q:H b with
    | none=>exact un.keep b o e q (by intro z;exact absurd (show b∈([]:List Addr) from z) (by simp)) (by simp)
    | some u=>
     rcases hO b with z | ⟨ob,xs,z⟩
     ·rw [q] at z;cases z
     ·have z2:=un.frzs b ob _ z
      obtain ⟨e1,_⟩:=hok b _ z
      obtain ⟨e2,_⟩:=hok' b _ z2
      rw [e] at e1;cases e1
      exact e2
 cases hk:K.lookup a with
 | some o=>
  -- the script is one of the module's own objects
  have e:=KX a o hk
  rw [ha] at e
  cases e
  refine core (fun _=>none) (fun _=>.inl rfl) (.inr ⟨_,vs.toArray,_,hk,rfl,rfl,rfl,by rw [List.size_toArray,lenV];exact hl,by simpa using rv⟩) (fun b u z=>by have z':(none:Option HO)=some u:=z;cases z') (fun b z=>absurd rfl z) fun z=>absurd rfl z
 | none=>
  refine core (fun b=>if b=a then some (.frz { cls:=.type "list",data:=.seq vs.toArray } (.lst (ns.map V.int))) else none) (fun b=>?_) (.inl (.inr ⟨{ cls:=.type "list",data:=.seq vs.toArray },if_pos rfl⟩)) (fun b u z=>?_) (fun b z=>?_) fun _=>hk
  ·by_cases hb:b=a
   ·exact .inr ⟨_,_,if_pos hb⟩
   ·exact .inl (if_neg hb)
  ·by_cases hb:b=a
   ·have z':=(if_pos hb).symm.trans z
    cases z'
    subst hb
    exact ⟨ha,by rw [List.length_map];exact hl,vs,_,rv,ha⟩
   ·have z':=(if_neg hb).symm.trans z
    cases z'
  ·by_cases hb:b=a
   ·exact hb
   ·exact absurd (if_neg hb) z
end L2
namespace L2
open PySem PySem.Spec PyProof.Rows
theorem vT {l:PySem.W.OpenLaw} {n k:Nat} {q:Program} {loose:List Str} {XP:(Str->Option Value)->Heap->Prop} {YP:World->Heap->Prop} {d:DefRec} {K:Params->PySem.W.Frag} {CX:World->CXT} {sp:World->Sp} {x:Str}
  (hn:l.most=some n) (hn2:n<=sizeLine) (hdf:d.params.defaults=[]) (hr:bY k callerA)
  (hY:∀(w:World) (h:Heap),YP w h->(K w.params).In h)
  (F:∀(w:World) (mg:Str->Option Value) (fa:Addr) (h:Heap),(K w.params).In h->h.Ns mainGlobals mg->mg d.name=some (.ref fa) ->
   ∃fd:FuncData,(∀(s:Shared) (u:Value),BindsTo s fd ⟨[u],[]⟩ [(x,u)]) /\
    ∀base:Heap,(K w.params).In base->base.Ns mainGlobals mg->jy l.prog w (K w.params) mg base (CX w) k fa fd [x] (sp w))
  (hsp:∀(w:World) (H:Hp) (a:Addr) (ns:List Int),ns.length<=n->Only H->SqL (K w.params) H a (ns.map V.int)->sp w [.ref a] H (fun v _=>v=.bl true) fun _ _ _=>False)
  (hCX:∀(w:World) (H:Hp) (s:Shared) (e:Value) (s':Shared),CX w [] H s (fun _ _ _=>False) e s'->False) :
  PySem.W.WalkO q loose XP YP l.row.toRowW d [] (fun f vs=>PySem.call f vs):=by
 refine Att.lN hn hdf fun w s₀ s₁ mg mb fa o pm cd doc a vs ns G Y ho hd hcd hmg hobj hints hlen hg=>?_
 have KX:=hY w _ Y
 obtain ⟨fd,hb,hF⟩:=F w mg fa _ KX G.T.g hmg
 exact rA KX G.T.g G.T.b G.T.builtins G.T.nolimit hg hobj hints (Nat.le_trans hlen hn2) hr hF hb (fun H hO hS=>hsp w H a ns hlen hO hS) fun H e s'=>hCX w H s₁ e s'
end L2
namespace L2
open PySem PySem.Spec PyProof.Rows
noncomputable def bZ (s:Stmt):Arguments:=match s with
 | .FunctionDef _ a _ _ _ _ _ _ _ _=>a
 | _=>{ posonlyargs:=[],args:=[],vararg:=none,kwonlyargs:=[],kw_defaults:=[],kwarg:=none,defaults:=[] }
noncomputable def bt (s:Stmt):List Stmt:=match s with
 | .FunctionDef _ _ b _ _ _ _ _ _ _=>b
 | _=>[]
noncomputable def aj (s:Stmt):Scope:=match s with
 | .FunctionDef _ _ _ _ _ _ sc _ _ _=>sc
 | _=>{ kind:=.function,names:=[],isGenerator:=false,isCoroutine:=false }
noncomputable abbrev CX0:CXT:=fun _ _ _ _ _ _=>False
noncomputable abbrev E0:XK:=fun _ _ _=>False
theorem C4 {X:Cx}:mW CX0 X E0:=fun _ _ _ _ _ _ _ h=>h.elim
structure Fun (K:PySem.W.Frag) (x qual:Str) (st:Stmt) (f:Addr) (fd:FuncData):Prop where
 ex:∃(oc:Value) (od:Option Addr) (kV doc pm:Value) (an:Option Addr) (cdv ct:Value) (osl:Array (Option Value)),
  fd=PySem.W.fnOf x qual (bZ st) (bt st) (aj st) .none kV doc pm an cdv ct/\K.lookup f=some ⟨oc,od,.func fd,osl⟩/\PySem.W.codeIn K cdv qual=true
 kp:PySem.W.keepIn K (.ref f)=true
section
variable {P:Program} {w:World} {K:PySem.W.Frag} {mg:Str->Option Value} {base:Heap}
theorem Fun.ok {x qual:Str} {st:Stmt} {f:Addr} {fd:FuncData} {N ps:List Str} {k:Nat} {sp:Sp} (F:Fun K x qual st f fd) (S:aH N ps (aj st)) (len:∀vs H Q E,sp vs H Q E->vs.length=ps.length)
  (hbody:∀(cdv:Value) (A:Around) (outer:List Env) (s:Shared) (H:Hp) (vs:List V) (Q:VK) (E:XK),bY k (A.deeper (envOfC qual (aj st) s.heap.objs.size f cdv))->sp vs H Q E ->
   ∃t,PSs (iJ CX0 P w K mg base N qual (aj st) f cdv A outer s H E).nox (bt st) t/\t { nx:=fun _ H'=>Q .non H',rt:=Q } (start N vs) H):jy P w K mg base CX0 (k+1) f fd ps sp:=by
 obtain ⟨oc,od,kV,doc,pm,an,cdv,ct,osl,rfl,lk,hcd⟩:=F.ex
 refine CY lk hcd S len fun A outer s H vs Q E hr hsp=>?_
 obtain ⟨t,h,q⟩:=hbody cdv A outer s H vs Q E hr hsp
 exact ⟨t,h.nox,q⟩
theorem Fun.binds {x qual:Str} {st:Stmt} {f:Addr} {fd:FuncData} {ps:List Str} (F:Fun K x qual st f fd)
  (h:∀(kV doc pm:Value) (an:Option Addr) (cdv ct:Value) (us:List Value),us.length=ps.length->bindArgs (PySem.W.fnOf x qual (bZ st) (bt st) (aj st) .none kV doc pm an cdv ct) ⟨us,[]⟩=pure (ps.zip us)):Binds K fd ps []:=by
 obtain ⟨oc,od,kV,doc,pm,an,cdv,ct,osl,rfl,lk,hcd⟩:=F.ex
 exact .all (h kV doc pm an cdv ct)
theorem Av {x qual:Str} {st:Stmt} {f:Addr} {oc:Value} {od an:Option Addr} {osl:Array (Option Value)} {kV doc pm cdv ct:Value} (l:K.lookup f=some ⟨oc,od,.func (PySem.W.fnOf x qual (bZ st) (bt st) (aj st) .none kV doc pm an cdv ct),osl⟩)
  (c:PySem.W.codeIn K cdv qual=true) (k:PySem.W.keepIn K (.ref f)=true):Fun K x qual st f (PySem.W.fnOf x qual (bZ st) (bt st) (aj st) .none kV doc pm an cdv ct):=⟨⟨oc,od,kV,doc,pm,an,cdv,ct,osl,rfl,l,c⟩,k⟩
end
section
variable {X:Cx}
theorem pv (i:Nat) {x:Str} {pos:Pos} (hN:X.N[i]?=some x:=by rfl) (hv:Vis X.env.scope x:=by first | exact Or.inl rfl | exact Or.inr (Or.inl rfl) | exact Or.inr (Or.inr rfl)) (hd:(x==("__debug__":Str))=false:=by decide)
  (hcd:(x==("__classdict__":Str))=false:=by decide):PE X (.Name x pos) (cT i):=zR hN hv hd hcd
end
end L2
section
namespace L2
open PySem PySem.Spec PyProof.Rows
theorem Aw:bootBuiltins "int"=some (.type "int"):=by decide +kernel
theorem vU:bootBuiltins "bool"=some (.type "bool"):=by decide +kernel
theorem vV:bootBuiltins "list"=some (.type "list"):=by decide +kernel
theorem rB:bootBuiltins "tuple"=some (.type "tuple"):=by decide +kernel
theorem bH:bootBuiltins "len"=some (.builtin "len"):=by decide +kernel
theorem jB:bootBuiltins "isinstance"=some (.builtin "isinstance"):=by decide +kernel
noncomputable def Has (P:Program) (w:World) (K:PySem.W.Frag) (mg:Str->Option Value) (base:Heap) (k:Nat) (x:Str) (ps:List Str) (sp:Sp):Prop:=
 ∃(f:Addr) (fd:FuncData),jy P w K mg base CX0 k f fd ps sp/\mg x=some (.ref f)/\PySem.W.keepIn K (.ref f)=true/\Binds K fd ps []/\∃(oc:Value) (od:Option Addr) (osl:Array (Option Value)),K.lookup f=some ⟨oc,od,.func fd,osl⟩
theorem jJ {X:Cx} {j k:Nat} {x:Str} {ps:List Str} {sp:Sp} {e:Expr} {es:List Expr} {t:TA} {p pos:Pos} (E:Has X.prog X.w X.K X.mg X.base k x ps sp) (hr:bY j X.A) (ha:PA X (e::es) t)
  (hk:k<=j:=by decide) (hg:Gl X x:=by rfl) (hdb:(x==("__debug__":Str))=false:=by decide) (he:starEach (e::es) X.env=(false,eval e X.env)::starEach es X.env:=by rfl)
  (hpl:(backTo pos (starEach es X.env)).any (·.1)=false:=by rfl):PE X (.Call (.Name x p) (e::es) [] pos) (gS sp [] E0 t):=by
 obtain ⟨f,fd,F,hm,kp,hb,_⟩:=E
 exact vP F (hr.mono hk) hg hm kp hb .nil C4 ha hdb he hpl
noncomputable def Src (K:PySem.W.Frag) (mg:Str->Option Value) (x:Str) (st:Stmt):Prop:=∃(f:Addr) (fd:FuncData),Fun K x x st f fd/\mg x=some (.ref f)
theorem Src.has {P:Program} {w:World} {K:PySem.W.Frag} {mg:Str->Option Value} {base:Heap} {x:Str} {st:Stmt} {N ps:List Str} {k:Nat} {sp:Sp} (S:Src K mg x st) (sc:aH N ps (aj st))
  (hb:∀(kV doc pm:Value) (an:Option Addr) (cdv ct:Value) (us:List Value),us.length=ps.length->bindArgs (PySem.W.fnOf x x (bZ st) (bt st) (aj st) .none kV doc pm an cdv ct) ⟨us,[]⟩=pure (ps.zip us))
  (len:∀vs H Q E,sp vs H Q E->vs.length=ps.length)
  (hbody:∀(f:Addr) (cdv:Value) (A:Around) (outer:List Env) (s:Shared) (H:Hp) (vs:List V) (Q:VK) (E:XK),bY k (A.deeper (envOfC x (aj st) s.heap.objs.size f cdv))->sp vs H Q E ->
   ∃t,PSs (iJ CX0 P w K mg base N x (aj st) f cdv A outer s H E).nox (bt st) t/\t { nx:=fun _ H'=>Q .non H',rt:=Q } (start N vs) H):Has P w K mg base (k+1) x ps sp:=by
 obtain ⟨f,fd,F,hm⟩:=S
 exact ⟨f,fd,F.ok sc len fun cdv A outer s H vs Q E hr h=>hbody f cdv A outer s H vs Q E hr h,hm,F.kp,F.binds hb,by obtain ⟨oc,od,kV,doc,pm,an,cdv,ct,osl,_,lk,_⟩:=F.ex;exact ⟨oc,od,osl,lk⟩⟩
theorem aU {K:PySem.W.Frag} {h:Heap} {mg:Str->Option Value} {x:Str} {st:Stmt} {f:Addr} {oc:Value} {od an:Option Addr} {osl:Array (Option Value)} {kV doc pm cdv ct:Value} (X:K.In h) (G:h.Ns mainGlobals mg)
  (a:PySem.W.nsIn K mainGlobals x=some (some (.ref f))) (l:K.lookup f=some ⟨oc,od,.func (PySem.W.fnOf x x (bZ st) (bt st) (aj st) .none kV doc pm an cdv ct),osl⟩)
  (c:PySem.W.codeIn K cdv x=true) (k:PySem.W.keepIn K (.ref f)=true):Src K mg x st:=⟨f,_,Av l c k,PySem.W.mg_of X G a⟩
theorem vW {P:Program} {w:World} {K:PySem.W.Frag} {mg:Str->Option Value} {k:Nat} {st:Stmt} {fa:Addr} {x:Str} {sp:Sp} (S:Src K mg "law" st) (hfa:mg "law"=some (.ref fa))
  (hb:∀(kV doc pm:Value) (an:Option Addr) (cdv ct:Value) (v:Value),bindArgs (PySem.W.fnOf "law" "law" (bZ st) (bt st) (aj st) .none kV doc pm an cdv ct) ⟨[v],[]⟩=pure [(x,v)])
  (all:∀base:Heap,Has P w K mg base k "law" [x] sp) :
  ∃fd:FuncData,(∀(s:Shared) (v:Value),BindsTo s fd ⟨[v],[]⟩ [(x,v)])/\∀base:Heap,K.In base->base.Ns mainGlobals mg->jy P w K mg base CX0 k fa fd [x] sp:=by
 obtain ⟨f,fd,F,hm⟩:=S
 have e:=hfa.symm.trans hm
 cases e
 obtain ⟨oc,od,kV,doc,pm,an,cdv,ct,osl,rfl,lk,_⟩:=F.ex
 refine ⟨_,fun s v=>.of_eq (hb kV doc pm an cdv ct v),fun base _ _=>?_⟩
 obtain ⟨f',fd',G',hm',_,_,oc',od',osl',lk'⟩:=all base
 have e:=hm.symm.trans hm'
 cases e
 rw [lk] at lk'
 injection lk' with e1
 injection e1 with _ _ e2 _
 injection e2 with e3
 rw [e3]
 exact G'
noncomputable def tH (ms:List Int):Int:=reduceHash (Builtin.Tuple.tupleHashOf (ms.map hashInt))
noncomputable def rC (x:List Int×Addr×Value):DictEntry:=⟨tH x.1,.ref x.2.1,x.2.2⟩
noncomputable abbrev EV:List (List Int×Addr×V)->List (List Int×Addr×Value)->Prop:=Paired fun p q=>p.1=q.1/\p.2.1=q.2.1/\RelV p.2.2 q.2.2
noncomputable def DctP (a:Addr) (es:List (List Int×Addr×V)) (h:Heap):Prop:=
 es.length<=sizeLine/\(a==sysModules)=false/\(es.map (·.1)).Nodup/\∃xs,EV es xs/\∃o ds ep,h.get? a=some o/\o.ExactDict/\o.data=.dict ds ep/\ds.toList=xs.map rC
noncomputable def bG (a:Addr) (ob:Obj) (es:List (List Int×Addr×V)):HO:=.ext fun h=>DctP a es h/\h.get? a=some ob
theorem DctP.ok {P:Program} {w:World} {H:Hp} {h:Heap} {a:Addr} {ob:Obj} {es:List (List Int×Addr×V)} (d:DctP a es h) (q:h.get? a=some ob):bF P w H h a (bG a ob es):=
 ⟨⟨d,q⟩,⟨ob,q⟩,fun _ _ zt1 k=>by obtain ⟨⟨z,m,nd,xs,ev,o,ds,ep,e,r⟩,q⟩:=zt1;exact ⟨⟨z,m,nd,xs,ev,o,ds,ep,k o e,r⟩,k ob q⟩⟩
theorem dH {X:Cx} {pins:List (Addr×Obj)} {σ:St} {H:Hp} {s:Shared} {a:Addr} {ob:Obj} {es:List (List Int×Addr×V)} (I:Inv X pins σ H s) (e:H a=some (bG a ob es)):DctP a es s.heap/\s.heap.get? a=some ob:=
 (show bF X.prog X.w H s.heap a (.ext fun h=>DctP a es h/\h.get? a=some ob) from I.hok a _ e).1
theorem fw {X:Cx} {pins:List (Addr×Obj)} {σ:St} {H:Hp} {s:Shared} {a:Addr} {ob:Obj} {es:List (List Int×Addr×V)} (I:Inv X pins σ H s) (e:H a=some (bG a ob es)):DctP a es s.heap:=(dH I e).1
inductive TyO (K:PySem.W.Frag) (H:Hp):V->String->Prop where
 | non:TyO K H .non "NoneType"
 | bl (x:Bool):TyO K H (.bl x) "bool"
 | int (i:Int):TyO K H (.int i) "int"
 | str (x:Str):TyO K H (.str x) "str"
 | lst {a:Addr} {xs:List V} (e:SqL K H a xs):TyO K H (.ref a) "list"
 | tup {a:Addr} {xs:List V} (e:SqT K H a xs):TyO K H (.ref a) "tuple"
 | dK {a:Addr} {kvs:List (Key×V)} (e:H a=some (.dK kvs)):TyO K H (.ref a) "dict"
 | dT {a:Addr} {kvs:List (List Key×V)} (e:H a=some (.dT kvs)):TyO K H (.ref a) "dict"
 | dE {a:Addr} {ob:Obj} {es:List (List Int×Addr×V)} (e:H a=some (bG a ob es)):TyO K H (.ref a) "dict"
noncomputable def rD (t c:String):Option Bool:=PySem.W.kitOne [] (.type t) (.type c)
theorem rE {K:PySem.W.Frag} {t c:String}:PySem.W.kitOne K (.type t) (.type c)=rD t c:=rfl
theorem kC:rD "int" "int"=some true:=by decide +kernel
noncomputable def Ax (K:PySem.W.Frag):List V->Hp->VK->Prop:=fun xs H Q=>∃x t c b,xs=[x,.ty c]/\TyO K H x t/\rD t c=some b/\Q (.bl b) H
theorem rF {X:Cx}:cI X (.builtin "isinstance") (Ax X.K):=by
 intro pins s σ H xs us Q I r h
 obtain ⟨x,t,c,b,rfl,ty,e,q⟩:=h
 obtain ⟨u,w',rfl,rx,rc⟩:=vals2 r
 obtain rfl:w'=Value.type c:=rc
 have e':PySem.W.kitOne X.K (.type t) (.type c)=some b:=by rw [rE];exact e
 have fin:∀tk,EP X pins σ Q (.bool b) { s with toks:=tk }:=fun tk=>⟨.bl b,H,I.tok tk,rfl,q⟩
 cases ty with
 | non=>exact cL I rx (.non) e' fin
 | bl y=>exact cL I rx (.bl y) e' fin
 | int i=>exact cL I rx (.int i) e' fin
 | str y=>exact cL I rx (.str y) e' fin
 | dK ea=>exact cL I rx (.dK ea) e' fin
 | dT ea=>exact cL I rx (.dT ea) e' fin
 | @dE a ob es ea=>
  cases rx
  obtain ⟨_,_,_,_,_,o,_,_,h1,h2,_⟩:=fw I ea
  exact PySem.W.kia_one PySem.W.kitx_dict I.kIn ⟨o,h1,h2.1⟩ e' (fun z=>nomatch z) fin
 | lst ea=>
  cases rx
  obtain ⟨its,_,pl,_⟩:=I.list ea
  obtain ⟨o,h1,h2,_⟩:=pl.isList
  exact PySem.W.kia_one PySem.W.kitx_list I.kIn ⟨o,h1,h2⟩ e' (fun z=>nomatch z) fin
 | tup ea=>
  cases rx
  obtain ⟨its,_,p,_⟩:=I.tuple ea
  obtain ⟨o,h1,h2,_⟩:=p
  exact PySem.W.kia_one PySem.W.kitx_tuple I.kIn ⟨o,h1,h2⟩ e' (fun z=>nomatch z) fin
section
variable {X:Cx}
noncomputable def iM (K:PySem.W.Frag) (H:Hp) (ps:List Addr) (mss:List (List Int)):Prop:=Paired (fun p ms=>SqT K H p (List.map V.int ms)) ps mss
end
noncomputable def ox:List Value->Option (List Int)
 | []=>some []
 | .int i _::r=>(ox r).map (i::·)
 | _::_=>none
theorem lO:∀{us:List Value} {ns:List Int},ox us=some ns->Vals (ns.map V.int) us
 | [],ns,e=>by cases e;exact .nil
 | u::r,ns,e=>by
  cases u with
  | int i t=>
   obtain ⟨ms,h1,rfl⟩:=Option.map_eq_some_iff.mp (show (ox r).map (i::·)=some ns from e)
   exact .cons ⟨t,rfl⟩ (lO h1)
  | _=>cases e
noncomputable def m3 (K:PySem.W.Frag) (a:Addr):Option (List Value):=match K.lookup a with
 | some ⟨.type "tuple",_,.seq its _,_⟩=>if its.toList.length<=1000 then some its.toList else none
 | _=>none
theorem oy {K:PySem.W.Frag} {H:Hp} {a:Addr} {us:List Value} {xs:List V} (e:m3 K a=some us) (r:Vals xs us):SqT K H a xs:=by
  unfold m3 at e
  split at e
  · rename_i c its n sl lk
    split at e
    · rename_i hz
      cases e
      have hs:sizeLine=16777216:=sizeLine_eq
      exact .inr ⟨_, its, n, lk, rfl, rfl, by have : its.toList.length = its.size := by simp
                                              lia,r⟩
    · cases e
  · cases e
noncomputable def okT (K:PySem.W.Frag) (v:Value) (ns:List Int):Bool:=match v with
 | .ref a=>(match m3 K a with | some us=>decide (ox us=some ns) | none=>false)
 | _=>false
theorem Ay {K:PySem.W.Frag} {H:Hp} {v:Value} {ns:List Int} (e:okT K v ns=true):∃a,v=.ref a/\SqT K H a (ns.map V.int):=by
 unfold okT at e
 split at e
 ·rename_i a
  split at e
  ·rename_i us h
   exact ⟨a,rfl,oy h (lO (of_decide_eq_true e))⟩
  ·cases e
 ·cases e
noncomputable def vX (K:PySem.W.Frag):List Value->List (List Int)->Bool
 | [],[]=>true
 | v::r,ns::s=>okT K v ns&&vX K r s
 | _,_=>false
theorem kE {K:PySem.W.Frag} {H:Hp}:∀{us:List Value} {nss:List (List Int)},vX K us nss=true->∃ps,Vals (ps.map V.ref) us/\iM K H ps nss
 | [],[],_=>⟨[],.nil,.nil⟩
 | u::r,ns::s,e=>by
  rw [vX,Bool.and_eq_true] at e
  obtain ⟨a,rfl,h⟩:=Ay (H:=H) e.1
  obtain ⟨ps,h1,h2⟩:=kE e.2
  exact ⟨a::ps,.cons rfl h1,.cons h h2⟩
 | [],_::_,e=>by cases e
 | _::_,[],e=>by cases e
noncomputable def vY (K:PySem.W.Frag) (v:Value) (nss:List (List Int)):Bool:=match v with
 | .ref a=>(match m3 K a with | some us=>vX K us nss | none=>false)
 | _=>false
noncomputable def TTup (K:PySem.W.Frag) (v:V) (nss:List (List Int)):Prop:=∃a ps,v=.ref a/\∀H:Hp,SqT K H a (ps.map V.ref)/\iM K H ps nss
theorem vZ {K:PySem.W.Frag} {v:Value} {nss:List (List Int)} (e:vY K v nss=true):∃x,RelV x v/\TTup K x nss:=by
 unfold vY at e
 split at e
 ·rename_i a
  split at e
  ·rename_i us h
   obtain ⟨ps,h1,h2⟩:=kE (H:=fun _=>none) e
   refine ⟨.ref a,rfl,a,ps,rfl,fun H=>⟨oy h h1,?_⟩⟩
   obtain ⟨ps',h1',h2'⟩:=kE (H:=H) e
   have:=h1.inj h1'
   have e2:ps=ps':=by
    have:=congrArg (List.map (fun v=>match v with | V.ref i=>i | _=>0)) this
    simpa [List.map_map,Function.comp_def] using this
   rw [e2]
   exact h2'
  ·cases e
 ·cases e
noncomputable def wa (K:PySem.W.Frag):List DictEntry->List (Int×List (List Int))->Bool
 | [],[]=>true
 | e::r,p::s=>Value.isInt p.1 e.key&&decide (e.hash=hashInt p.1)&&vY K e.val p.2&&wa K r s
 | _,_=>false
noncomputable def okD (K:PySem.W.Frag) (d:Addr) (rows:List (Int×List (List Int))):Bool:=match K.lookup d with
 | some ⟨.type "dict",none,.dict es _,sl⟩=>sl.size==0&&wa K es.toList rows&&decide (rows.map (·.1)).Nodup
 | _=>false
theorem oz {P:Program} {w:World} {K:PySem.W.Frag}:∀{es:List DictEntry} {rows:List (Int×List (List Int))},wa K es rows=true ->
  ∃kvs:List (Int×Value),Pairs (intKind P w) es kvs/\(∀e∈es,∃k,(intKind P w).is k e.key=true/\e.hash=(intKind P w).hash k)/\kvs.map (·.1)=rows.map (·.1) /\
   ∀k nss,(k,nss)∈rows->(rows.map (·.1)).Nodup->∃v,valueAt kvs k=some v/\vY K v nss=true
 | [],[],_=>⟨[],.nil,(fun _ h=>nomatch h),rfl,(fun _ _ h=>nomatch h)⟩
 | e::r,p::s,h=>by
  rw [wa,Bool.and_eq_true,Bool.and_eq_true,Bool.and_eq_true] at h
  obtain ⟨⟨⟨h1,h2⟩,h3⟩,h4⟩:=h
  obtain ⟨kvs,g1,g2,g3,g4⟩:=oz (P:=P) (w:=w) h4
  refine ⟨(p.1,e.val)::kvs,.cons h1 rfl g1,fun x hx=>?_,by simp [g3],fun k nss hk nd=>?_⟩
  ·rcases List.mem_cons.mp hx with rfl | hx
   ·exact ⟨p.1,h1,of_decide_eq_true h2⟩
   ·exact g2 x hx
  ·rw [List.map_cons,List.nodup_cons] at nd
   rcases List.mem_cons.mp hk with rfl | hk
   ·exact ⟨e.val,by simp [valueAt],h3⟩
   ·obtain ⟨v,e1,e2⟩:=g4 k nss hk nd.2
    refine ⟨v,?_,e2⟩
    have ne:¬ p.1=k:=fun z=>nd.1 (List.mem_map.mpr ⟨(k,nss),hk,z.symm⟩)
    unfold valueAt at e1 ⊢
    rw [List.find?_cons_of_neg (by simpa using ne)]
    exact e1
 | [],_::_,h=>by cases h
 | _::_,[],h=>by cases h
noncomputable def C5 (K:PySem.W.Frag) (rows:List (Int×List (List Int))):R2:=fun x y H Q=>∃d k nss,x=.ref d/\y=.int k/\okD K d rows=true/\(k,nss)∈rows/\∀v,TTup K v nss->Q v H
theorem wb {X:Cx} {rows:List (Int×List (List Int))}:IxR X (C5 X.K rows):=by
 intro value slice pins s σ H x y v u Q I rx ry h hs
 obtain ⟨d,k,nss,rfl,rfl,hd,hk,q⟩:=h
 cases rx
 obtain ⟨t,rfl⟩:=ry
 unfold okD at hd
 split at hd
 ·rename_i es n sl lk
  rw [Bool.and_eq_true,Bool.and_eq_true] at hd
  obtain ⟨⟨h1,h2⟩,h3⟩:=hd
  obtain ⟨kvs,g1,g2,g3,g4⟩:=oz (P:=X.prog) (w:=X.w) h2
  have nd:=of_decide_eq_true h3
  obtain ⟨v,e1,e2⟩:=g4 k nss hk nd
  have sl0:sl=#[]:=by
   have:sl.size=0:=by simpa using h1
   exact Array.eq_empty_of_size_eq_zero this
  have D:s.heap.DictOf (intKind X.prog X.w) d kvs:=⟨_,es,n,I.kIn d _ lk,⟨rfl,rfl,sl0⟩,rfl,fun e he=>g2 e (by simpa using he),g1,by rw [g3];exact nd⟩
  obtain ⟨x,rx,tt⟩:=vZ e2
  exact tail_any D.typeIs slot_dict_getitem.lookup (wpAny_getItem_of (k:=k) (by show Value.isInt k (.int k t)=true;simp [Value.isInt]) D.mapOf e1 ⟨x,H,I.tok _,rx,q x tt⟩) hs
 ·cases hd
end L2
end
variable {H:L2.Hp} {vs:List L2.V} {es:List (List Int×PySem.Addr×L2.V)} {σ:L2.St} {pins:List (PySem.Addr×PySem.Obj)} {ix:List Nat} {v:L2.V} {K:PySem.W.Frag} {ns:List Int} {ms:List Int} {mss:List (List Int)} {tg:List PySem.Str} {cs:List PySem.Str} {bo:List Int}
section
namespace L2
open PySem PySem.Spec PyProof.Rows
noncomputable def b0 (env:Env):List (Str×NameKind)->List (Str×Addr)->List (Str×Addr)
 | [],acc=>acc
 | (n,k)::r,acc=>b0 env r (if (k==NameKind.free)=true then (match env.cells.lookup n with | some c=>(n,c)::acc | none=>acc) else acc)
theorem dY {env:Env}:∀{l:List (Str×NameKind)} {acc:List (Str×Addr)} {n:Str} {c:Addr},(n,c)∈b0 env l acc->(n,c)∈acc\/env.cells.lookup n=some c
 | [],_,_,_,h=>.inl h
 | (m,k)::r,acc,n,c,h=>by
  unfold b0 at h
  rcases dY h with h | h
  ·split at h
   ·split at h
    ·rename_i c' e
     rcases List.mem_cons.mp h with h | h
     ·cases h;exact .inr e
     ·exact .inl h
    ·exact .inl h
   ·exact .inl h
  ·exact .inr h
theorem jK {env:Env}:∀{l:List (Str×NameKind)} {acc:List (Str×Addr)} {p:Str×Addr},p∈acc->p∈b0 env l acc
 | [],_,_,h=>h
 | (m,k)::r,acc,p,h=>by
  unfold b0
  refine jK ?_
  split
  ·split
   ·exact List.mem_cons_of_mem _ h
   ·exact h
  ·exact h
theorem lP {env:Env}:∀{l:List (Str×NameKind)} {acc:List (Str×Addr)} {n:Str} {c:Addr},(n,NameKind.free)∈l->env.cells.lookup n=some c->(n,c)∈b0 env l acc
 | (m,k)::r,acc,n,c,h,e=>by
  unfold b0
  rcases List.mem_cons.mp h with h | h
  ·cases h
   refine jK ?_
   rw [if_pos (show (NameKind.free==NameKind.free)=true from rfl),e]
   exact List.mem_cons_self
  ·exact lP h e
theorem cellOf_eq {env:Env} {n:Str} {c:Addr} (h:env.cells.lookup n=some c):cellOf env n=pure c:=by
 unfold cellOf
 rw [h]
theorem eW {env:Env} {scope:Scope} (h:∀n,(n,NameKind.free)∈scope.names->∃c,env.cells.lookup n=some c):closureFor scope env=pure (b0 env scope.names []):=by
 have all:∀(l:List (Str×NameKind)) (acc:List (Str×Addr)),(∀n,(n,NameKind.free)∈l->∃c,env.cells.lookup n=some c) ->
   (forIn l acc fun (x:Str×NameKind) (cs:List (Str×Addr))=>(if (x.2==NameKind.free)=true then (do let c <- cellOf env x.1;pure (ForInStep.yield ((x.1,c)::cs))) else pure (ForInStep.yield cs):Sem (ForInStep (List (Str×Addr)))))=pure (b0 env l acc):=by
  intro l
  induction l with
  | nil=>intro acc _;rfl
  | cons x r ih=>
   intro acc hl
   obtain ⟨n,k⟩:=x
   rw [List.forIn_cons]
   unfold b0
   cases hk:(k==NameKind.free) with
   | true=>
    have hk':k=NameKind.free:=by simpa using hk
    subst hk'
    obtain ⟨c,e⟩:=hl n List.mem_cons_self
    simp only [if_true,cellOf_eq e,pure_bind,e]
    exact ih _ fun m hm=>hl m (List.mem_cons_of_mem _ hm)
   | false=>
    simp only [Bool.false_eq_true,if_false,pure_bind]
    exact ih _ fun m hm=>hl m (List.mem_cons_of_mem _ hm)
 have q:=all scope.names [] h
 unfold closureFor
 first
  | (simp only [bind_pure_comp,map_pure] at q ⊢;rw [q];rfl)
  | (rw [q];rfl)
  | exact q
noncomputable def au (X:Cx) (scope:Scope) (N:List Str) (C:Addr) (fp:List Addr) (s₀:Shared) (H₀:Hp):Cx:=
 { X with N:=N,s₀:=s₀,H₀:=H₀,env:=compEnvC scope (b0 X.env scope.names []) C X.env,outer:=X.stack,stack:=X.stack,ex:=fp,fn:=fun _=>false,pn:=[],xe:=fun _ _=>False }
noncomputable def capt (n:Nat) (ix:List Nat) (σ:St):St:=List.replicate n none++ix.map fun i=>(σ[i]?).getD none
structure bq (X:Cx) (scope:Scope) (tg cs:List Str) (ix:List Nat):Prop where
 kind:scope.kind=.function
 nocell:∀y∈scope.names,y.2≠.cell
 names:∀y∈scope.names,y.2=.local->scope.names.lookup y.1=some .local
 nd:(tg++cs).Nodup
 at_:ix.map (fun i=>X.N[i]?)=cs.map some
 free:∀x∈cs,(x,NameKind.free)∈scope.names/\scope.names.lookup x=some .free
 out:∀x,(x,NameKind.free)∈scope.names->X.env.scope.names.lookup x=some .cell\/X.env.scope.names.lookup x=some .free
theorem fx {f:Str×NameKind->Str×NameKind} (hf:∀p,(f p).1=p.1):∀(names:List (Str×NameKind)) (x:Str),(names.map f).lookup x=(names.lookup x).map fun k=>(f (x,k)).2
 | [],_=>rfl
 | p::r,x=>by
  have e:f p=(p.1,(f p).2):=by rw [<- hf p]
  rw [List.map_cons,e,List.lookup_cons,List.lookup_cons,fx hf r x]
  cases q:x==p.1 with
  | false=>rfl
  | true=>
   have z:x=p.1:=by simpa using q
   subst z
   rfl
noncomputable def freed (env:Env) (p:Str×NameKind):Bool:=p.2==NameKind.free&&env.scope.kind==.function&&env.kindOf p.1==some .cell
theorem fy {env:Env} {names:List (Str×NameKind)} {x:Str} :
  (names.map fun (n,k)=>if (k==NameKind.free&&env.scope.kind==.function&&env.kindOf n==some .cell) then (n,NameKind.cell) else (n,k)).lookup x=(names.lookup x).map fun k=>if freed env (x,k)=true then .cell else k:=by
 refine (fx (fun p=>?_) names x).trans ?_
 ·dsimp only
  split <;> rfl
 ·congr 1
  funext k
  unfold freed
  dsimp only
  split <;> rfl
theorem cJ {env:Env} {names:List (Str×NameKind)} {x:Str} {k:NameKind}
  (h:(names.map fun (n,k)=>if (k==NameKind.free&&env.scope.kind==.function&&env.kindOf n==some .cell) then (n,NameKind.cell) else (n,k)).lookup x=some k) (hk:k=.cell\/k=.free) (nc:∀y∈names,y.2≠.cell):(x,NameKind.free)∈names:=by
 rw [fy] at h
 cases q:names.lookup x with
 | none=>rw [q] at h;cases h
 | some k0=>
  have hm:=PySem.mem_of_lookup q
  suffices z:k0=.free by rw [<- z];exact hm
  rw [q] at h
  by_cases c:freed env (x,k0)=true
  ·unfold freed at c
   simp only [Bool.and_eq_true,beq_iff_eq] at c
   exact c.1.1
  ·have h2:k0=k:=by simpa [c] using h
   rcases hk with e | e
   ·exact absurd (h2.trans e) (nc _ hm)
   ·exact h2.trans e
theorem eO {env:Env} {names:List (Str×NameKind)} {x:Str} (h:names.lookup x=some .free) :
  (names.map fun (n,k)=>if (k==NameKind.free&&env.scope.kind==.function&&env.kindOf n==some .cell) then (n,NameKind.cell) else (n,k)).lookup x=some .cell \/
  (names.map fun (n,k)=>if (k==NameKind.free&&env.scope.kind==.function&&env.kindOf n==some .cell) then (n,NameKind.cell) else (n,k)).lookup x=some .free:=by
 rw [fy,h]
 by_cases c:freed env (x,.free)=true
 ·exact .inl (by simp [c])
 ·exact .inr (by simp [c])
section
variable {X:Cx} {pins:List (Addr×Obj)} {σ:St} {H H1:Hp} {s:Shared}
theorem Inv.track {D:Addr} {o:HO} (I:Inv X pins σ H s) (hn:H D=none) (hs:X.s₀.heap.objs.size<=D) (hL:D≠X.env.locals) (hc:∀x c,X.env.cells.lookup x=some c->c≠D) (hp:∀p∈X.pn++pins,p.1≠D)
  (new:bF X.prog X.w (upd H D o) s.heap D o):Inv X pins σ (upd H D o) s:=by
 have nb:∀b ob,X.s₀.heap.get? b=some ob->b≠D:=fun b ob e z=>by subst z;exact absurd (Nat.lt_of_lt_of_le (Heap.lt_size e) hs) (Nat.lt_irrefl _)
 refine ⟨I.ok,I.os,I.bare,⟨I.base.keep,I.base.slot,fun b ob e n hx=>?_,I.base.there,fun b xs e=>?_,fun b ob u e=>?_,fun b ps e=>?_⟩,I.loc,I.cell,?_,fun x c e=>?_,fun p hpp=>?_,fun b u e=>?_,I.len⟩
 ·rw [aL (nb b ob e)];exact I.base.free b ob e n hx
 ·have q:=I.base.tups b xs e
  rw [aL (aZ q hn)];exact q
 ·have q:=I.base.frzs b ob u e
  rw [aL (aZ q hn)];exact q
 ·obtain ⟨more,q⟩:=I.base.tbls b ps e
  exact ⟨more,by rw [aL (aZ q hn)];exact q⟩
 ·rw [aL hL.symm];exact I.free
 ·rw [aL (hc x c e)];exact I.freeC x c e
 ·obtain ⟨a,b,c,d,e⟩:=I.pin p hpp
  exact ⟨a,by rw [aL (hp p hpp)];exact b,c,d,e⟩
 ·by_cases hb:b=D
  ·subst hb;rw [aK] at e;cases e;exact new
  ·rw [aL hb] at e
   exact (I.hok b u e).stay (fun _ _ _ q=>q) (fun c q=>by rw [aL (aZ q hn)];exact q) fun c xs q=>by rw [aL (aZ q hn)];exact q
theorem dr {X:Cx} {tg cs:List Str} (hat:ix.map (fun i=>X.N[i]?)=cs.map some) {i:Nat} {x:Str} (h1:(tg++cs)[i]?=some x) (h2:(capt tg.length ix σ)[i]?=some (some v)) :
  x∈cs/\∃k:Nat,X.N[k]?=some x/\σ[k]?=some (some v):=by
 unfold capt at h2
 by_cases hi:i < tg.length
 ·rw [List.getElem?_append_left (by simpa using hi),List.getElem?_replicate,if_pos hi] at h2
  cases h2
 ·rw [List.getElem?_append_right (by simpa using hi),List.length_replicate,List.getElem?_map] at h2
  rw [List.getElem?_append_right (by lia)] at h1
  cases e:ix[i-tg.length]? with
  | none=>rw [e] at h2;cases h2
  | some k=>
   rw [e] at h2
   have h2:(σ[k]?).getD none=some v:=Option.some.inj h2
   have q:=congrArg (fun l=>l[i-tg.length]?) hat
   simp only [List.getElem?_map,e,h1,Option.map_some] at q
   refine ⟨List.mem_of_getElem? h1,k,Option.some.inj q,?_⟩
   cases z:σ[k]? with
   | none=>rw [z] at h2;cases h2
   | some y=>rw [z] at h2;exact congrArg some h2
end
noncomputable def PTs (X:Cx) (ifs:List Expr) (t:TT):Prop:=
 ∀(pins:List (Addr×Obj)) (s:Shared) (σ:St) (H:Hp) (Q:Bool->Hp->Prop),Inv X pins σ H s->t σ H Q ->
  wpAny (model X.prog X.w) X.A (forIn ifs true fun c r=>if r=true then do let ok <- isTrue c X.env (eval c X.env);pure (ForInStep.yield ok) else pure (ForInStep.yield r)) (TP X pins σ Q) X.xe s
noncomputable def yN:TT:=fun _ H Q=>Q true H
theorem wc {X:Cx}:PTs X [] yN:=fun _ _ _ H _ I h=>wpAny_tests_nil ⟨H,I,h⟩
theorem wd {X:Cx} {c:Expr} {t:TT} (h:PT X c t):PTs X [c] t:=fun pins s σ H Q I hw=>wpAny_tests_one (h pins s σ H Q I hw)
noncomputable def cH (n:Nat) (ix:List Nat) (g:TG):Prop:=∀x σ H Q,g x (capt n ix σ) H Q->g x (capt n ix σ) H fun σ2 H2=>(σ2.length=(capt n ix σ).length/\∀(i:Nat) (v:V),(capt n ix σ)[i]?=some (some v)->σ2[i]?=some (some v))/\Q σ2 H2
theorem gv {n:Nat} {j:Nat} (h:j < n) (e:(capt n ix σ)[j]?=some (some v)):False:=by
 unfold capt at e
 rw [List.getElem?_append_left (by simpa using h),List.getElem?_replicate,if_pos h] at e
 cases e
theorem bD {n:Nat} {j:Nat} (h:j < n):cH n ix (bI j):=fun x σ H Q q=>⟨⟨by simp,fun i v e=>by
 by_cases hi:j=i
 ·subst hi;exact (gv h e).elim
 ·rw [List.getElem?_set_ne hi];exact e⟩,q⟩
theorem cM {n:Nat} {m j k:Nat} (h:j < n) (h':k < n):cH n ix (qW K m (gR (bI j) (gR (bI k) qU))):=fun x σ H Q q=>by
 obtain ⟨a,xs,e1,hq,hl,v,r,e2,v',r',e3,e4,q⟩:=q
 refine ⟨a,xs,e1,hq,hl,v,r,e2,v',r',e3,e4,⟨by simp,fun i v e=>?_⟩,q⟩
 by_cases hi:j=i
 ·subst hi;exact (gv h e).elim
 ·by_cases hk:k=i
  ·subst hk;exact (gv h' e).elim
  ·rw [List.getElem?_set_ne hk,List.getElem?_set_ne hi];exact e
noncomputable def jL (wi:TI) (n:Nat) (ix:List Nat) (g:TG) (tc:TT) (te:TE):TE:=fun σ H Q=>wi σ H fun J H1=>∃W:Nat->Nat->List V->Hp->Prop,(∃m,W 0 m [] H1)/\∀i m ys H2,W i m ys H2 ->
 (J.stop i H2/\ys.length<=sizeLine/\∀D,H2 D=none->Q (.ref D) (upd H2 D (.lst ys))) \/
 (J.go i H2/\ys.length < sizeLine/\∃Nx:List V->Hp->Prop,(∀ys' H',Nx ys' H'->∃m',m' < m/\W (i+1) m' ys' H') /\
  ∀x H3,J.yld i H2 x H3->g x (capt n ix σ) H3 fun σ2 H4=>tc σ2 H4 fun b H5=>if b=true then te σ2 H5 fun v H6=>Nx (ys++[v]) H6 else Nx ys H5)
section
variable {X:Cx} {pins:List (Addr×Obj)} {σ:St} {H H1:Hp} {s:Shared}
theorem iN {scope:Scope} {tg cs:List Str} {fp:List Addr} {s4:Shared} (S:bq X scope tg cs ix) (I:Inv X pins σ H s) (hf:∀b∈fp,g9 X pins H b) (ho:∀b∈fp,∃o,s.heap.get? b=some o) {C:Addr} (hC:s.heap.objs.size<=C)
  (hk:∀b o,s.heap.get? b=some o->s4.heap.get? b=some o) (hns:s4.heap.Ns C fun _=>none) (os:s4.os=s.os) (bare:AllBare s4.gens) (hn:H C=none) :
  Inv (au X scope (tg++cs) C fp s H) [] (capt tg.length ix σ) H s4:=by
 have clX:∀x c,(b0 X.env scope.names []).lookup x=some c->X.env.cells.lookup x=some c:=fun x c e=>by
  rcases dY (PySem.mem_of_lookup e) with h | h
  ·cases h
  ·exact h
 have hasC:∀x,(x,NameKind.free)∈scope.names->∃c,(b0 X.env scope.names []).lookup x=some c:=fun x hx=>by
  obtain ⟨c,e⟩:=I.ok.has x (S.out x hx)
  have m:=lP (acc:=[]) hx e
  cases q:(b0 X.env scope.names []).lookup x with
  | some c'=>exact ⟨c',rfl⟩
  | none=>
   have:=List.lookup_eq_none_iff.mp q (x,c) m
   simp at this
 refine ⟨⟨I.ok.mod,?_,I.ok.glob,I.ok.blt,hC,fun x y c e1 e2=>I.ok.inj x y c (clX x c e1) (clX y c e2),fun x hx=>?_,fun x c h=>?_,I.ok.hd,I.ok.frames,.inl rfl,fun b hb=>⟨?_,fun x c e=>?_⟩,I.bs,Nat.le_trans I.ok.bsz I.sz,fun b o e hb=>?_,fun b hb hx=>?_,I.stack,I.stkFree⟩,
  os,bare,Un.kept hk,⟨_,hns,fun i x v e1 e2 e3=>?_⟩,fun x c e=>?_,hn,fun x c e=>I.freeC x c (clX x c e),fun p hp=>(by cases hp),I.hok.kept hk,?_⟩
 ·show (relabel scope X.env).kind=.function
  exact S.kind
 ·have hx':(relabel scope X.env).names.lookup x=some .cell\/(relabel scope X.env).names.lookup x=some .free:=hx
  rcases hx' with h | h
  ·exact hasC x (cJ h (.inl rfl) S.nocell)
  ·exact hasC x (cJ h (.inr rfl) S.nocell)
 ·cases h
 ·obtain ⟨o,e⟩:=ho b hb
  exact Nat.ne_of_lt (Nat.lt_of_lt_of_le (Heap.lt_size e) hC)
 ·exact (hf b hb).2.2.2.2.1 x c (clX x c e)
 ·obtain ⟨_,_,_,h,_⟩:=hf b hb
  rcases h with h | h
  ·exact I.ok.noex b o e h
  ·exact absurd (Nat.lt_of_lt_of_le (Heap.lt_size (I.ok.bs b o e).1) h) (Nat.lt_irrefl _)
 ·have hx:b∈frs X.stack:=hx
  obtain ⟨_,h1,h2,_⟩:=hf b hb
  rcases List.mem_cons.mp (I.stkSub b hx) with h | h
  ·exact h1 h
  ·exact h2 h
 ·obtain ⟨hx,k,h1,h2⟩:=dr (X:=X) S.at_ e1 e2
  obtain ⟨hx1,hx2⟩:=S.free x hx
  obtain ⟨m,hnm,hl⟩:=I.loc
  have ov:=S.out x hx1
  obtain ⟨u,r,l⟩:=hl k x v h1 h2 (by rcases ov with z | z;exact .inr (.inl z);exact .inr (.inr z))
  refine ⟨u,r,?_⟩
  rcases l with ⟨l,_⟩ | ⟨_,c,lc,ic⟩
  ·have l:X.env.scope.names.lookup x=some .local:=l
   rcases ov with z | z <;> rw [z] at l <;> cases l
  ·obtain ⟨c',e'⟩:=hasC x hx1
   have:=(clX x c' e').symm.trans lc
   cases this
   refine .inr ⟨eO hx2,c,e',?_⟩
   obtain ⟨o,ho1,ho2⟩:=ic
   exact ⟨o,hk c o ho1,ho2⟩
 ·obtain ⟨v,o,ho1,ho2⟩:=I.cell x c (clX x c e)
  exact ⟨v,o,hk c o ho1,ho2⟩
 ·show (capt tg.length ix σ).length=(tg++cs).length
  have:=congrArg List.length S.at_
  simp only [List.length_map] at this
  unfold capt
  simp [this]
theorem jM {use:Option (Value->Sem Unit)} {Qc:Value->Shared->Prop} {pos':Pos} {elt target iter:Expr} {ifs:List Expr} {scope:Scope} {pos:Pos} {tg cs:List Str} {wi:TI} {g:TG} {tc:TT} {te:TE} (S:bq X scope tg cs ix) (hcalm:X.calm=true) (kg:cH tg.length ix g)
    (hi:PI X target iter wi) (hg:∀C fp s H,PG (au X scope (tg++cs) C fp s H) target g) (hc:∀C fp s H,PTs (au X scope (tg++cs) C fp s H) ifs tc) (he:∀C fp s H,PE (au X scope (tg++cs) C fp s H) elt te)
    (hs:∀x,foldedSetIterable iter X.env x=pure x) {pins:List (Addr×Obj)} {s:Shared} {σ:St} {H:Hp} {Q:VK} (I:Inv X pins σ H s) (h:jL wi tg.length ix g tc te σ H Q)
    (fin:∀D C H' s' v,Inv X pins σ H' s'->Q (.ref D) H'->g9 X pins H' C->(∃m,s'.heap.Ns C m)->compPost (model X.prog X.w) X.A X.xe use Qc (.ref D) C (.ok v) s') :
    wpAny (model X.prog X.w) X.A (comprehension (.ListComp elt [⟨target,iter,ifs,0⟩] scope pos) scope X.env pos' (newList []) false (eval iter X.env) use) Qc X.xe s:=by
  refine wpAny_comprehension_free (use:=use) (cl:=b0 X.env scope.names []) rfl hs (eW fun n hn=>I.ok.has n (S.out n hn)) S.kind S.names ?_
  refine wpAny_mono (hi pins s σ H _ I h) (fun v s1 h1=>wpAny_mono h1 (fun itv s2 h2=>?_) fun _ _ e=>e) fun _ _ e=>e
  obtain ⟨it,fp,tn,J,H2,rfl,I2,T,st2,f2,W,⟨m0,w0⟩,turn⟩:=h2
  refine wpAny_newObj_type (wpAny_newFunctionEnv S.nocell (by intro y hy;simp at hy) (fun h1 hns1 hsb1=>?_) S.kind)
  dsimp only at hns1 hsb1 ⊢
  generalize hP:s2.heap.push { cls:=.type "list",dict:=none,data:=.seq ([]:List Value).toArray }=P2 at hns1 hsb1 ⊢
  have hCs:P2.objs.size=s2.heap.objs.size+1:=by rw [<- hP,Heap.size_push]
  have hDC:s2.heap.objs.size≠P2.objs.size:=by rw [hCs];exact Nat.ne_of_lt (Nat.lt_succ_self _)
  have hCle:s2.heap.objs.size<=P2.objs.size:=by rw [hCs];exact Nat.le_succ _
  generalize hCg:P2.objs.size=C at *
  have old:∀b o,s2.heap.get? b=some o->h1.get? b=some o:=fun b o e=>hsb1.extBut b o (Nat.ne_of_lt (Nat.lt_of_lt_of_le (Heap.lt_size e) hCle)) (Heap.get?_push_of_some _ (hP▸Heap.get?_push_of_some _ e))
  generalize hDg:s2.heap.objs.size=D at *
  have hD0:h1.get? D=some { cls:=.type "list",data:=.seq ([]:List Value).toArray 0 }:=hsb1.extBut _ _ hDC (Heap.get?_push_of_some _ (hP▸hDg▸Heap.get?_push_size _ rfl))
  have nC:H2 C=none:=I2.hok.fresh (by rw [hDg];exact hCle)
  have nD:H2 D=none:=I2.hok.fresh (by rw [hDg];exact Nat.le_refl _)
  have fo:∀b∈fp,∃o,s2.heap.get? b=some o:=fun b hb=>let ⟨o,e,_⟩:=T.obj _ _ st2 b hb;⟨o,e⟩
  have Dfp:D∉fp:=fun z=>by
    obtain ⟨o,e⟩:=fo D z
    have:=Heap.lt_size e
    rw [hDg] at this
    exact absurd this (Nat.lt_irrefl _)
  have Dfs:D∉frs X.stack:=fun z=>by
    rcases List.mem_cons.mp (I2.stkSub D z) with e | e
    · have:=I2.lt
      rw [<- e,hDg] at this
      exact absurd this (Nat.lt_irrefl _)
    · exact I2.nofs (by rw [hDg];exact Nat.le_refl _) e
  have DcY:∀x c,(b0 X.env scope.names []).lookup x=some c->c≠D:=fun x c e=>by
    rcases dY (PySem.mem_of_lookup e) with h | h
    · cases h
    · exact (I2.fpOk (H':=H2) (b:=D) (by rw [hDg];exact Nat.le_refl _) nD).2.2.2.2.1 x c h
  -- the block's context
  have Yok:∀s4:Shared,s4={ s2 with heap:=h1,toks:=s2.toks+([]:List (Str×Value)).length }->Inv (au X scope (tg++cs) C fp s2 H2) [] (capt tg.length ix σ) H2 s4:=by
    rintro s4 rfl
    exact iN S I2 f2 fo (by rw [hDg];exact hCle) old (by simpa using hns1) rfl I2.bare nC
  -- the loop
  have loop:∀s4:Shared,s4={ s2 with heap:=h1,toks:=s2.toks+([]:List (Str×Value)).length } ->
      codeAny (model X.prog X.w) X.A (.compLoop (.ListComp elt [⟨target,iter,ifs,0⟩] scope pos) 0 (.ref it) (.ref D) (compEnvC scope (b0 X.env scope.names []) C X.env)) (compPost (model X.prog X.w) X.A X.xe use Qc (.ref D) C) s4:=by
    intro s4 e4
    refine codeAny_loop rfl (fun n s'=>∃i ys its k H',Inv (au X scope (tg++cs) C fp s2 H2) [] (capt tg.length ix σ) H' s'/\tn i s'.heap/\(∀b∈fp,H' b=none)/\H' D=none/\s'.heap.get? D=some { cls:=.type "list",data:=.seq (its:List Value).toArray k }/\Vals ys its/\W i n ys H')
      ?_ m0 ⟨0,[],[],0,H2,Yok s4 e4,?_,fun b hb=>(f2 b hb).1,nD,by rw [e4];exact hD0,.nil,w0⟩
    · rintro n s5 ⟨i,ys,its,k,H5,I5,st5,fr5,d5,o5,v5,w5⟩
      show wpAny _ X.A ((compTurn (.ListComp elt [⟨target,iter,ifs,0⟩] scope pos) 0 (.ref it) (.ref D) (compEnvC scope (b0 X.env scope.names []) C X.env)).onRaise (fun x=>do noteFrame x (compEnvC scope (b0 X.env scope.names []) C X.env);theTreesLotGoes x)) _ _ s5
      refine wpAny_noted ?_
      rw [compTurn_list]
      have pin0:Inv (au X scope (tg++cs) C fp s2 H2) [(D,{ cls:=.type "list",data:=.seq its.toArray k })] (capt tg.length ix σ) H5 s5:=I5.pins_of fun p hp=>by
        have e:p=(D,{ cls:=.type "list",data:=.seq its.toArray k }):=by simpa using hp
        subst e
        exact ⟨o5,d5,hDC,Dfs,fun v z=>by have z':Data.seq _ _=Data.cell v:=z;cases z'⟩
      have fpY:∀{H':Hp},(∀b∈fp,H' b=none)->∀b∈fp,g9 (au X scope (tg++cs) C fp s2 H2) [(D,{ cls:=.type "list",data:=.seq its.toArray k })] H' b:=fun hn b hb=>
        ⟨hn b hb,(I5.ok.exf b hb).1,fun z=>I5.ok.exfs b hb z,.inl hb,(I5.ok.exf b hb).2,fun p hp z=>by
          have hp:p∈([]:List (Addr×Obj))++[(D,{ cls:=.type "list",data:=.seq its.toArray k })]:=hp
          have e:p=(D,{ cls:=.type "list",data:=.seq its.toArray k }):=by simpa using hp
          subst e
          have z:D=b:=z
          exact Dfp (z▸hb)⟩
      refine wpAny_bind (wpAny_standAt (wpAny_bind ?_))
      rcases turn i n ys H5 w5 with ⟨stop,hz,qn⟩ | ⟨go,hz,Nx,hN,step⟩
      · refine thn (T.done (au X scope (tg++cs) C fp s2 H2) rfl rfl rfl hcalm i _ s5 _ H5 _ pin0 (fpY fr5) st5 stop) fun r s6 zr1=>?_
        obtain ⟨hr,I6⟩:=zr1
        subst hr
        refine wpAny_pure ?_
        obtain ⟨mC,hnsC,_⟩:=id I6.loc
        have IX:Inv X pins σ H5 s6:=I2.call' (ch:=fp) I6.os I6.base I6.hok I6.bare fun b hb=>let ⟨_,a1,_,a3,a4,a5⟩:=f2 b hb;⟨a3,a1,a4,a5⟩
        obtain ⟨_,b1,_,b3,b4,b5⟩:=I2.fpOk (H':=H5) (b:=D) (by rw [hDg];exact Nat.le_refl _) d5
        obtain ⟨_,c1,c2,c3,c4,c5⟩:=I2.fpOk (H':=H5) (b:=C) (by rw [hDg];exact hCle) I6.free
        have gD:s6.heap.get? D=some { cls:=.type "list",data:=.seq its.toArray k }:=(I6.pin (D,{ cls:=.type "list",data:=.seq its.toArray k }) (List.mem_append_right _ List.mem_cons_self)).1
        have IXD:Inv X pins σ (upd H5 D (.lst ys)) s6:=IX.track d5 (by rw [<- hDg];exact I2.sz) b1 b4 b5 ⟨hz,its,k,v5,gD⟩
        exact fin D C _ s6 _ IXD (qn D d5) ⟨by rw [aL (Ne.symm hDC)];exact I6.free,c1,c2,c3,c4,c5⟩ ⟨mC,hnsC⟩
      · refine thn (T.item (au X scope (tg++cs) C fp s2 H2) rfl rfl rfl hcalm i _ s5 _ H5 _ pin0 (fpY fr5) st5 go) fun r s6 zr1=>?_
        obtain ⟨u,hr,h6⟩:=zr1
        subst hr
        refine wpAny_bind (thn h6 fun _ s7 zr1=>?_)
        obtain ⟨x,H7,I7,r7,y7,st7,fr7⟩:=zr1
        have I7':=I7.pinned (fpY fr7) (T.obj _ _ st7)
        -- the next turn
        have again:∀{σ2:St} {H8:Hp} {s8:Shared} {ys':List V} {its':List Value} {k':Nat} , Inv (au X scope (tg++cs) C fp s2 H2) [] σ2 H8 s8->(σ2.length=(capt tg.length ix σ).length/\∀(i:Nat) (v:V),(capt tg.length ix σ)[i]?=some (some v)->σ2[i]?=some (some v)) ->
            (∀b∈fp,∀o,s7.heap.get? b=some o->s8.heap.get? b=some o)->(∀b∈fp,H8 b=none)->H8 D=none->s8.heap.get? D=some { cls:=.type "list",data:=.seq its'.toArray k' }->Vals ys' its'->Nx ys' H8 ->
            ∃m,m < n/\∃i ys its k H',Inv (au X scope (tg++cs) C fp s2 H2) [] (capt tg.length ix σ) H' s8/\tn i s8.heap/\(∀b∈fp,H' b=none)/\H' D=none/\s8.heap.get? D=some { cls:=.type "list",data:=.seq (its:List Value).toArray k }/\Vals ys its/\W i m ys H':=by
          intro σ2 H8 s8 ys' its' k' I8 kp fk fn dn dg vv nx
          obtain ⟨m',hm,w8⟩:=hN ys' H8 nx
          exact ⟨m',hm,i+1,ys',its',k',H8,I8.weak kp.1.symm kp.2,T.keep _ _ _ st7 fk,fn,dn,dg,vv,w8⟩
        refine wpAny_bind (wpAny_mono (hg C fp s2 H2 _ s7 _ H7 x u _ I7' r7 (kg x σ H7 _ (step x H7 y7))) (fun _ s8 zr1=>?_) fun _ _ z=>z.elim)
        obtain ⟨σ8,H8,I8,kp8,q8⟩:=zr1
        refine wpAny_bind (wpAny_mono (hc C fp s2 H2 _ s8 σ8 H8 _ I8 q8) (fun ok s9 zr1=>?_) fun _ _ z=>z.elim)
        obtain ⟨H9,I9,q9⟩:=zr1
        have pinsOf:∀{σ':St} {H':Hp} {s':Shared},Inv (au X scope (tg++cs) C fp s2 H2) ([(D,{ cls:=.type "list",data:=.seq its.toArray k })]++eV fp s7.heap) σ' H' s' ->
            (∀b∈fp,∀o,s7.heap.get? b=some o->s'.heap.get? b=some o)/\(∀b∈fp,H' b=none)/\H' D=none/\s'.heap.get? D=some { cls:=.type "list",data:=.seq its.toArray k }:=by
          intro σ' H' s' I'
          refine ⟨fun b hb o e=>(I'.pin (b,o) (List.mem_append_right _ (List.mem_append_right _ (bL hb e)))).1,fun b hb=>?_,(I'.pin (D,{ cls:=.type "list",data:=.seq its.toArray k }) (List.mem_append_right _ (List.mem_append_left _ List.mem_cons_self))).2.1,(I'.pin (D,{ cls:=.type "list",data:=.seq its.toArray k }) (List.mem_append_right _ (List.mem_append_left _ List.mem_cons_self))).1⟩
          obtain ⟨o,e,d⟩:=T.obj _ _ st7 b hb
          exact (I'.pin (b,o) (List.mem_append_right _ (List.mem_append_right _ (bL hb e)))).2.1
        cases ok with
        | false=>
          obtain ⟨p1,p2,p3,p4⟩:=pinsOf I9
          exact wpAny_pure ⟨rfl,again (I9.pins_of fun p hp=>nomatch hp) kp8 p1 p2 p3 p4 v5 q9⟩
        | true=>
          have q9:te σ8 H9 fun v H6=>Nx (ys++[v]) H6:=q9
          refine wpAny_bind (wpAny_bind (wpAny_mono (he C fp s2 H2 _ s9 σ8 H9 _ I9 q9) (fun y s10 zr1=>?_) fun _ _ z=>z.elim))
          obtain ⟨v,H10,I10,rv,nx⟩:=zr1
          obtain ⟨p1,p2,p3,p4⟩:=pinsOf I10
          have hl5:=v5.length
          refine wpAny_bind (call_meets F.slot_list_append ⟨_,p4,rfl⟩ F.entry_list_append (F.args_list_append_2 _ _) (PySem.list_append D its.toArray k y (by rw [List.size_toArray];lia)) ⟨p4,?_⟩)
          have g10:=PySem.IsL.update p4 (·.push y)
          rw [show its.toArray.push y=(its++[y]).toArray by simp] at g10
          have I11:Inv (au X scope (tg++cs) C fp s2 H2) [] σ8 H10 s10:=I10.pins_of fun p hp=>nomatch hp
          have I12:Inv (au X scope (tg++cs) C fp s2 H2) [] σ8 H10 { s10 with heap:=s10.heap.update D (Obj.mapSeq (·.push y)) }:=
            I11.turned (t':=s10.toks) (fun b o hb e=>(Heap.get?_update_other s10.heap (Obj.mapSeq (·.push y)) (Ne.symm hb)).trans e) p3 hDC (.inr (by show s2.heap.objs.size<=D;rw [hDg];exact Nat.le_refl _)) DcY (fun p hp=>nomatch hp)
          refine wpAny_pure (wpAny_pure ⟨rfl,again (its':=its++[y]) I12 kp8 (fun b hb o e=>?_) p2 p3 g10 (v5.append (.cons rv .nil)) nx⟩)
          exact (Heap.get?_update_other s10.heap (Obj.mapSeq (·.push y)) (fun z:D=b=>Dfp (z▸hb))).trans (p1 b hb o e)
    · rw [e4];exact T.keep _ _ _ st2 fun b _ o e=>old b o e
  exact codeAny_compStart_list (loop _ rfl) (T.self _ 0 _ _ _ (T.keep _ _ _ st2 fun b _ o e=>old b o e) (loop _ rfl))
theorem we {elt target iter:Expr} {ifs:List Expr} {scope:Scope} {pos:Pos} {tg cs:List Str} {wi:TI} {g:TG} {tc:TT} {te:TE} (S:bq X scope tg cs ix) (hcalm:X.calm=true) (kg:cH tg.length ix g)
  (hi:PI X target iter wi) (hg:∀C fp s H,PG (au X scope (tg++cs) C fp s H) target g) (hc:∀C fp s H,PTs (au X scope (tg++cs) C fp s H) ifs tc) (he:∀C fp s H,PE (au X scope (tg++cs) C fp s H) elt te)
  (hs:∀x,foldedSetIterable iter X.env x=pure x:=by intro _;rfl):PE X (.ListComp elt [⟨target,iter,ifs,0⟩] scope pos) (jL wi tg.length ix g tc te):=by
 intro pins s σ H Q I h
 rw [eval_ListComp]
 refine jM S hcalm kg hi hg hc he hs I h fun D C H' s' v I' q fp z=>?_
 obtain ⟨f0,c1,_,c3,c4,c5⟩:=fp
 obtain ⟨m,hm⟩:=z
 exact ⟨m,hm,fun h' sb=>⟨.ref D,H',I'.turned (t':=s'.toks) (fun b o hb e=>(sb.2 b hb).trans e) f0 c1 c3 c4 c5,rfl,q⟩⟩
end
end L2
end
section
namespace L2
open PySem PySem.Spec PyProof.Rows
theorem lex_irrefl:∀a:List Int,HT.lexLt a a=false
 | []=>rfl
 | x::r=>by rw [HT.dG,if_pos rfl];exact lex_irrefl r
theorem lex_trans:∀a b c:List Int,HT.lexLt a b=true->HT.lexLt b c=true->HT.lexLt a c=true
 | [],_,[],h1,h2=>by
  rename_i b
  cases b with
  | nil=>exact h1
  | cons y r=>cases h2
 | [],_,_::_,_,_=>rfl
 | x::r,[],_,h1,_=>by cases h1
 | x::r,y::t,[],_,h2=>by cases h2
 | x::r,y::t,z::u,h1,h2=>by
  rw [HT.dG] at *
  by_cases e1:x=y
  ·rw [if_pos e1] at h1
   by_cases e2:y=z
   ·rw [if_pos e2] at h2
    rw [if_pos (e1.trans e2)]
    exact lex_trans r t u h1 h2
   ·rw [if_neg e2] at h2
    rw [if_neg (by lia)]
    rw [e1];exact h2
  ·rw [if_neg e1] at h1
   have h1:=of_decide_eq_true h1
   by_cases e2:y=z
   ·rw [if_neg (by lia)]
    exact decide_eq_true (by lia)
   ·rw [if_neg e2] at h2
    have h2:=of_decide_eq_true h2
    rw [if_neg (by lia)]
    exact decide_eq_true (by lia)
theorem eF:∀a b:List Int,HT.lexLt a b=false->HT.lexLt b a=false->a=b
 | [],[],_,_=>rfl
 | [],_::_,h,_=>by cases h
 | _::_,[],_,h=>by cases h
 | x::r,y::t,h1,h2=>by
  rw [HT.dG] at *
  by_cases e:x=y
  ·rw [if_pos e] at h1
   rw [if_pos e.symm] at h2
   rw [e,eF r t h1 h2]
  ·rw [if_neg e] at h1
   rw [if_neg (Ne.symm e)] at h2
   have h1:=of_decide_eq_false h1
   have h2:=of_decide_eq_false h2
   lia
theorem fA:∀a b c:List Int,HT.lexLt a c=true->HT.lexLt a b=true\/HT.lexLt b c=true:=fun a b c h=>by
 cases h1:HT.lexLt a b with
 | true=>exact .inl rfl
 | false=>
  right
  cases h2:HT.lexLt b a with
  | true=>exact lex_trans b a c h2 h
  | false=>rw [<- eF a b h1 h2];exact h
noncomputable def lexOrd:KeyOrd:=⟨List Int,HT.lexLt,lex_irrefl,lex_trans,fA,eF⟩
noncomputable def lexLe (a b:List Int):Bool:=!HT.lexLt b a
theorem lQ (a b c:List Int) (h1:lexLe a b=true) (h2:lexLe b c=true):lexLe a c=true:=by
 unfold lexLe at *
 cases h:HT.lexLt c a with
 | false=>rfl
 | true=>
  rcases fA c b a h with z | z
  ·rw [z] at h2;cases h2
  ·rw [z] at h1;cases h1
theorem lR (a b:List Int):(lexLe a b||lexLe b a)=true:=by
 unfold lexLe
 cases h:HT.lexLt b a with
 | false=>rfl
 | true=>
  cases h':HT.lexLt a b with
  | false=>rfl
  | true=>have:=lex_trans a b a h' h;rw [lex_irrefl] at this;cases this
theorem m4 (a b:List Int) (h1:lexLe a b=true) (h2:lexLe b a=true):a=b:=by
 unfold lexLe at *
 exact eF a b (by simpa using h2) (by simpa using h1)
noncomputable def srt (l:List (List Int)):List (List Int):=l.mergeSort lexLe
theorem cB (l:List (List Int)):(srt l).Perm l:=List.mergeSort_perm l lexLe
theorem iO (l:List (List Int)):(srt l).Pairwise (fun a b=>lexLe a b=true):=List.pairwise_mergeSort (le:=lexLe) lQ lR l
theorem eS:∀{a b:List (List Int)},a.Perm b->a.Pairwise (fun a b=>lexLe a b=true)->b.Pairwise (fun a b=>lexLe a b=true)->a=b
 | [],b,p,_,_=>(List.perm_nil.mp p.symm).symm
 | x::r,[],p,_,_=>by have:=p.length_eq;simp at this
 | x::r,y::t,p,ha,hb=>by
  rw [List.pairwise_cons] at ha hb
  have e:x=y:=by
   have hx:x∈y::t:=p.mem_iff.mp List.mem_cons_self
   have hy:y∈x::r:=p.mem_iff.mpr List.mem_cons_self
   rcases List.mem_cons.mp hx with h | h
   ·exact h
   ·rcases List.mem_cons.mp hy with h' | h'
    ·exact h'.symm
    ·exact m4 x y (ha.1 y h') (hb.1 x h)
  subst e
  rw [eS (List.Perm.cons_inv p) ha.2 hb.2]
theorem m5 {a l:List (List Int)} (p:a.Perm l) (h:a.Pairwise (fun a b=>lexLe a b=true)):a=srt l:=eS (p.trans (cB l).symm) h (iO l)
section
variable {X:Cx} {pins:List (Addr×Obj)} {σ:St} {H:Hp} {s:Shared}
theorem Inv.kept_led {h':Heap} {m:Str->Option Value} (I:Inv X pins σ H s) (F':Fr X.base X.env.locals h' m) (N':News X.base X.env.locals h' (fu X.base s.heap X.env.locals)):∀b o,b≠X.env.locals->s.heap.get? b=some o->h'.get? b=some o:=fun b o hb e=>by
 cases q:X.base.get? b with
 | some u=>
  have:=I.bk b u q
  rw [e] at this;cases this
  exact F'.keep b _ q
 | none=>exact (N' (b,o) (lF hb q e)).1
theorem Inv.led {h':Heap} {m:Str->Option Value} {t':Nat} (I:Inv X pins σ H s) (hm:s.heap.Ns X.env.locals m) (F':Fr X.base X.env.locals h' m) (N':News X.base X.env.locals h' (fu X.base s.heap X.env.locals)) :
  Inv X pins σ H { s with heap:=h',toks:=t' }:=by
 have k:=I.kept_led F' N'
 refine I.step (g':=s.gens) (d':=s.drawn) (ch:=[]) (fun _ z=>nomatch z) (fun b o hb _ _ e _=>k b o hb e) (fun b o hb _ _ e _=>⟨o.slots,k b o hb e⟩) (fun _ _ _ _ n=>n) (fun b o _ e=>?_) (fun _ _ e=>e) (fun _ _ _ e=>e) (fun b ps e=>⟨#[],by rw [e];simp⟩) (fun m' hm'=>?_) (fun b u e=>?_) I.bare
 ·by_cases hb:b=X.env.locals
  ·obtain ⟨o',_,_,ho,_⟩:=F'.ns
   exact ⟨o',by rw [hb];exact ho⟩
  ·exact ⟨o,k b o hb e⟩
 ·have em:m'=m:=by
   obtain ⟨o,es,ep,ho,hd,_,hf⟩:=hm
   obtain ⟨o2,es2,ep2,ho2,hd2,_,hf2⟩:=hm'
   rw [ho] at ho2;cases ho2
   rw [hd] at hd2;cases hd2
   funext x
   rw [<- hf x,<- hf2 x]
  rw [em];exact F'.ns
 ·refine (I.hok b u e).stay (fun c v hc q=>k c v ?_ q) (fun _ q=>q) fun _ _ q=>q
  rcases hc with z | z
  ·rw [z];exact aZ e I.free
  ·exact aZ z I.free
end
section
variable {prog:Program} {w:World} {A:Around} {E:Value->Shared->Prop} {s:Shared}
theorem rG {a:Addr} {vs:List Value} {n:Nat} {R:PySem.Fin->Shared->Prop} (ho:s.heap.get? a=some (seqObj "list" vs.toArray n)) (hf:vs.length < 2)
  (h:R (.done (.ret .none)) { s with heap:=sortedHeap s.heap a vs vs.toArray }):wpAny (model prog w) A (Builtin.«list.sort» ⟨[.ref a],[]⟩) R E s:=by
 have hlt:a < s.heap.objs.size:=Heap.lt_size ho
 have few:vs.toArray.size < 2:=by rw [List.size_toArray];exact hf
 have hz:vs.length<=sizeLine:=by rw [sizeLine_eq];lia
 obtain ⟨e,he⟩:∃e,(s.heap.update a (Obj.mapSeq fun _=>#[])).get? a=some (seqObj "list" #[] e):=⟨_,get?_update_seq ho (fun _=>#[])⟩
 rw [list_sort_plain]
 refine wpAny_bind (listItems_at ho rfl (wpAny_bind (listUpdate_at ho rfl (wpAny_bind (seqEpoch_at he rfl (wpAny_bind (wpAny_newTuple (wpAny_bind (wpAny_newList (wpAny_holding ?_))) (hsz:=hz))))) (by rw [List.size_toArray];lia))))
 have he2:(((s.heap.update a (Obj.mapSeq fun _=>#[])).push (seqObj "tuple" vs.toArray 0)).push (seqObj "list" #[] 0)).get? a=some (seqObj "list" #[] e):=Heap.get?_push_of_some _ (Heap.get?_push_of_some _ he)
 dsimp only
 rw [if_pos few,if_pos few]
 refine wpAny_bind (wpAny_pure ?_);rw [StateT.run_pure];refine wpAny_bind (wpAny_pure ?_);dsimp only
 have em:Array.map (fun x:Value×Value=>x.2) (arrOf (SortSt.mk' general' (vs.toArray.zip vs.toArray) #[] 7 none))=vs.toArray:=by
  show Array.map (fun x:Value×Value=>x.2) (vs.toArray.zip vs.toArray)=vs.toArray
  apply Array.ext <;> simp
 refine wpAny_bind (seqEpoch_at he2 rfl (wpAny_bind (listUpdate_at he2 rfl ?_ (hsz2:=by rw [em,List.size_toArray];lia))))
 rw [em]
 simp only [bne_self_eq_false,Bool.false_eq_true,if_false]
 exact wpAny_pure h
theorem m6 {l:Addr} {vs:List Value} {Q:Value->Shared->Prop} (hl:s.heap.IsList l vs.toArray) (hf:vs.length < 2) (h:Q (.ref (s.heap.objs.size+1)) { s with heap:=sortedAll s.heap vs vs.toArray }):wpAny (model prog w) A (call (.builtin "sorted") [.ref l]) Q E s:=by
 have hz:vs.length<=sizeLine:=by rw [sizeLine_eq];lia
 have z1:((s.heap.push (seqObj "list" #[] 0)).update s.heap.objs.size (Obj.mapSeq (·++vs.toArray))).objs.size=s.heap.objs.size+1:=by rw [Heap.size_update,size_push']
 have z2:(((s.heap.push (seqObj "list" #[] 0)).update s.heap.objs.size (Obj.mapSeq (·++vs.toArray))).push (seqObj "list" vs.toArray 0)).get? (s.heap.objs.size+1)=some (seqObj "list" vs.toArray 0):=z1▸Heap.get?_push_size _ rfl
 have col:=fun R r=>collect_list (prog:=prog) (w:=w) (A:=A.in1) (E:=E) (Q:=R) hl r hz
 refine Calls.call_function_entry kind_sorted plain_sorted entry_sorted (args_sorted1 _) (wpAny_bind (m:=checkCount "sorted" 1 1 _) (wpAny_pure (wpAny_bind (m:=collect (.ref l)) (col _ (wpAny_bind (wpAny_newList ?_ (hsz:=hz)))))))
 dsimp only
 rw [z1]
 refine wpAny_bind (wpAny_holding (wpAny_call_entry slot_list_sort ⟨_,z2,rfl⟩ entry_list_sort (rG z2 hf ⟨_,rfl,wpAny_pure ⟨_,rfl,h⟩⟩) (args_list_sort _)))
end
section
variable {X:Cx} {pins:List (Addr×Obj)} {σ:St} {H:Hp} {s:Shared}
theorem wg {prog:Program} {w:World} {A:Around} {Q:Bool->Shared->Prop}:∀(ns ms:List Int) {us vs:List Value} (i:Nat) {fin:Bool},Vals (ns.map V.int) us->Vals (ms.map V.int) vs->fin=decide (us.length < vs.length)->Q (HT.lexLt ns ms) s ->
  PySem.W.KatLex prog w A true fin Q (us.zip vs) i s:=by
 intro ns
 induction ns with
 | nil=>
  intro ms us vs i fin r r' hf h
  have r:Vals [] us:=r
  cases r
  cases ms with
  | nil=>
   have r':Vals [] vs:=r'
   cases r'
   subst hf
   exact h
  | cons m ms=>
   have r':Vals (V.int m::ms.map V.int) vs:=r'
   cases r' with
   | cons a b=>
    subst hf
    exact h
 | cons n ns ih=>
  intro ms us vs i fin r r' hf h
  have r:Vals (V.int n::ns.map V.int) us:=r
  cases r with
  | cons q1 t=>
   cases ms with
   | nil=>
    have r':Vals [] vs:=r'
    cases r'
    subst hf
    exact h
   | cons m ms=>
    have r':Vals (V.int m::ms.map V.int) vs:=r'
    cases r' with
    | cons q2 t'=>
     obtain ⟨tk,rfl⟩:=q1
     obtain ⟨tk',rfl⟩:=q2
     rw [HT.dG] at h
     rw [List.zip_cons_cons]
     refine PySem.W.kat_cons (SeqAt.EqAt.int_int n tk m tk' prog w _ _ ?_)
     by_cases e:n=m
     ·rw [if_pos e] at h
      rw [show (n==m)=true by simpa using e]
      refine PySem.W.kat_yes (ih ms (i+1) t t' ?_ h)
      rw [hf]
      simp
     ·rw [if_neg e] at h
      rw [show (n==m)=false by simpa using e]
      refine PySem.W.kat_no ?_
      by_cases hi:i=0
      ·subst hi
       exact oneLt_int h
      ·rw [show (true&&i==0)=false by simp [hi]]
       exact PySem.W.kat_one _ _ (lt_int (show PySem.W.BoolBack _ (Value.bool _) _ from h))
theorem rH {h:Heap} {p:Addr} {its:List Value} (hne:ms≠[]) (r:Vals (ms.map V.int) its) (ht:IsTup h p its.toArray):∃(f:Value) (o:Obj) (n:Nat),(∃i t,f=Value.int i t)/\h.get? p=some o/\o.cls=.type "tuple"/\o.data=.seq its.toArray n/\its.toArray[0]?=some f:=by
 obtain ⟨o,ho,hc,n,hd⟩:=ht
 cases ms with
 | nil=>exact absurd rfl hne
 | cons m ms=>
  have r:Vals (V.int m::ms.map V.int) its:=r
  cases r with
  | cons r1 r2=>
   obtain ⟨t,rfl⟩:=r1
   exact ⟨_,o,n,⟨m,t,rfl⟩,ho,hc,hd,by simp⟩
theorem m7 {h:Heap} (hT:∀a xs,SqT X.K H a xs->∃its:List Value,Vals xs its/\IsTup h a its.toArray) {ps:List Addr} (ht:iM X.K H ps mss):(∀ms∈mss,ms≠[]) ->
  ∃fs:List Value,PySem.W.KatTups h (ps.map Value.ref) fs/\fs.length=ps.length/\∀v∈fs,∃i t,v=Value.int i t:=by
 unfold iM at ht
 induction ht with
 | nil=>exact fun _=>⟨[],trivial,rfl,(fun _ h=>nomatch h)⟩
 | cons hp t ih=>
  intro hne
  obtain ⟨fs,h1,h2,h3⟩:=ih fun m hm=>hne m (List.mem_cons_of_mem _ hm)
  obtain ⟨its,r,tt⟩:=hT _ _ hp
  obtain ⟨f,o,n,hi,ho,hc,hd,h0⟩:=rH (hne _ List.mem_cons_self) r tt
  refine ⟨f::fs,PySem.W.KatTups.cons ho hc hd h0 h1,by simp [h2],fun v hv=>?_⟩
  rcases List.mem_cons.mp hv with rfl | hv
  ·exact hi
  ·exact h3 v hv
theorem gw:∀{ps:List Addr} {us:List Value},Vals (ps.map V.ref) us->us=ps.map Value.ref
 | [],_,.nil=>rfl
 | p::ps,_,.cons r t=>by
  rw [gw t]
  cases r
  rfl
theorem jN:∀(ps:List Addr),Vals (ps.map V.ref) (ps.map Value.ref)
 | []=>.nil
 | p::ps=>.cons rfl (jN ps)
end
end L2
end
section
namespace L2
open PySem PySem.Spec PyProof.Rows
noncomputable def m8 (scope osc:Scope) (N tg cs:List Str) (ix:List Nat):Prop:=
 (∀y∈scope.names,y.2≠.cell)/\(∀y∈scope.names,y.2=.local->scope.names.lookup y.1=some .local)/\(tg++cs).Nodup/\ix.map (fun i=>N[i]?)=cs.map some /\
 (∀x∈cs,(x,NameKind.free)∈scope.names/\scope.names.lookup x=some .free)/\∀y∈scope.names,y.2=.free->osc.names.lookup y.1=some .cell\/osc.names.lookup y.1=some .free
noncomputable instance (scope osc:Scope) (N tg cs:List Str) (ix:List Nat):Decidable (m8 scope osc N tg cs ix):=by unfold m8;infer_instance
theorem aV {X:Cx} {scope:Scope} {tg cs:List Str} (osc:Scope) (N:List Str) (h:m8 scope osc N tg cs ix) (hk:scope.kind=.function:=by rfl) (ho:X.env.scope=osc:=by rfl) (hN:X.N=N:=by rfl):bq X scope tg cs ix:=by
 obtain ⟨h1,h2,h3,h4,h5,h6⟩:=h
 exact ⟨hk,h1,h2,h3,by rw [hN];exact h4,h5,fun x hx=>by rw [ho];exact h6 (x,.free) hx rfl⟩
end L2
end
section
namespace L2
open PySem PySem.Spec PyProof.Rows
section
variable {X:Cx} {pins:List (Addr×Obj)} {σ:St} {H H1:Hp} {s:Shared}
theorem lS {elt target iter:Expr} {ifs:List Expr} {scope:Scope} {pos spos py:Pos} {yy:Str} {ii:Nat} {tg cs:List Str} {wi:TI} {g:TG} {tc:TT} {te:TE} (hN0:X.N.Nodup) (hi0:X.N[ii]?=some yy) (hx0:Loc X.env.scope yy)
  (S:bq X scope tg cs ix) (hcalm:X.calm=true) (kg:cH tg.length ix g)
  (hi:PI X target iter wi) (hg:∀C fp s H,PG (au X scope (tg++cs) C fp s H) target g) (hc:∀C fp s H,PTs (au X scope (tg++cs) C fp s H) ifs tc) (he:∀C fp s H,PE (au X scope (tg++cs) C fp s H) elt te)
  (hf0:X.fn yy=true\/X.env.scope.names.lookup yy=some .local)
  (hsw:swapsWith (.ListComp elt [⟨target,iter,ifs,0⟩] scope pos) (some (.Name yy py)) spos.line X.env=pure true)
  (hs:∀x,foldedSetIterable iter X.env x=pure x:=by intro _;rfl):PS X (.Assign [.Name yy py] (.ListComp elt [⟨target,iter,ifs,0⟩] scope pos) spos) (dD (jL wi tg.length ix g tc te) (bI ii)):=by
 intro pins s σ H Dn I h
 rw [exec_Assign_Name_used _ _ _ _ hsw]
 refine wpAny_bind (wpAny_standAt (wpAny_bind ?_))
 show wpAny _ X.A (do let _ <- comprehension (.ListComp elt [⟨target,iter,ifs,0⟩] scope pos) scope X.env _ (newList []) false (eval iter X.env) (some (assign (.Name yy py) X.env))) _ _ s
 refine wpAny_bind (wpAny_mono (jM (use:=some (assign (.Name yy py) X.env)) (Qc:=fun _ s'=>SP X pins Dn .next s') S hcalm kg hi hg hc he hs I h fun D C H' s' v I' q fp z=>?_) (fun _ s' hq=>wpAny_pure (wpAny_pure hq)) fun _ _ e=>e)
 obtain ⟨f0,c1,_,c3,c4,c5⟩:=fp
 obtain ⟨m,hm⟩:=z
 show wpAny _ X.A (assign (.Name yy py) X.env (.ref D)) _ _ s'
 refine wpAny_assign_Name (jD (v:=.ref D) I' hN0 hi0 hx0 rfl (fun s'' I'' zq=>?_) hf0)
 obtain ⟨a,sb,ha⟩:=zq
 have hCa:C≠a:=by
  rcases ha with rfl | ha
  ·exact c1
  ·exact (c4 _ _ ha).symm
 exact ⟨m,hm.sameBut sb hCa,fun h' sb'=>⟨_,_,I''.turned (t':=s''.toks) (it:=C) (fun b o hb e=>(sb'.2 b hb).trans e) f0 c1 c3 c4 c5,q⟩⟩
end
end L2
end
section
namespace VL
open PySem L2
inductive D where
 | int (i:Int) | bl (b:Bool) | non | str (x:Str) | ty (n:String) | tup (ds:List D) | lst (ds:List D) | dic (ks:List (List Int)) (vs:List D) | exc (c:Value) | dib (kds:List D) (vs:List D)
noncomputable def kT (ms:List Int):D:=.tup (ms.map .int)
noncomputable def Fy:D->Int
 | .int i=>i
 | .bl b=>if b then 1 else 0
 | _=>0
noncomputable def Az:D->Bool
 | .int _=>true
 | .bl _=>true
 | _=>false
noncomputable def kN:D->List Int
 | .tup ds=>ds.map Fy
 | _=>[]
noncomputable def Fz:D->Bool
 | .tup ds=>ds.all Az
 | _=>false
noncomputable def IsM:Option HO->Prop
 | some (.lst _)=>True
 | some (.ext _)=>True
 | _=>False
theorem IsM.ne {o:Option HO} (h:IsM o):o≠none:=by rintro rfl;exact h
noncomputable abbrev AP:=Addr->Prop
noncomputable def Any:AP:=fun _=>True
noncomputable abbrev FP:=Option Addr->Prop
noncomputable def AnyF:FP:=fun _=>True
noncomputable def Fr (H0:Hp):FP:=fun o=>∃a,o=some a/\H0 a=none
mutual
inductive Rep (K:PySem.W.Frag) (N:AP) (F:FP) (H:Hp):V->D->Prop where
 | int (i:Int):Rep K N F H (.int i) (.int i)
 | bl (b:Bool):Rep K N F H (.bl b) (.bl b)
 | non:Rep K N F H .non .non
 | str (x:Str):Rep K N F H (.str x) (.str x)
 | ty (x:String):Rep K N F H (.ty x) (.ty x)
 | tup {a:Addr} {vs:List V} {ds:List D} (n:N a) (h:Rd H a (.tup vs)) (r:Reps K N F H vs ds):Rep K N F H (.ref a) (.tup ds)
 | tupK {a:Addr} {vs:List V} {ds:List D} (h:SqT K (fun _=>none) a vs) (r:Reps K N F H vs ds):Rep K N F H (.ref a) (.tup ds)
 | lst {a:Addr} {vs:List V} {ds:List D} (n:N a) (f:F (some a)) (h:H a=some (.lst vs)) (r:Reps K N F H vs ds):Rep K N F H (.ref a) (.lst ds)
 | lstF {a:Addr} {vs:List V} {ds:List D} {o:Obj} (n:N a) (f:F none) (h:H a=some (.frz o (.lst vs))) (r:Reps K N F H vs ds):Rep K N F H (.ref a) (.lst ds)
 | lstK {a:Addr} {vs:List V} {ds:List D} (f:F none) (h:SqL K (fun _=>none) a vs) (r:Reps K N F H vs ds):Rep K N F H (.ref a) (.lst ds)
 | dic {a:Addr} {ob:Obj} {es:List (List Int×Addr×V)} {ks:List (List Int)} {ds:List D} (n:N a) (f:F (some a)) (h:H a=some (bG a ob es)) (e:es.map (·.1)=ks) (rk:Reps K N F H (es.map fun x=>.ref x.2.1) (ks.map kT)) (r:Reps K N F H (es.map (·.2.2)) ds):Rep K N F H (.ref a) (.dic ks ds)
 | exc {x:Addr} {c:Value} {o:Obj} (n:N x) (h:H x=some (.frz o (.own x))) (e:o.cls=c):Rep K N F H (.ref x) (.exc c)
 | dib {a:Addr} {ob:Obj} {es:List (List Int×Addr×V)} {kds:List D} {ds:List D} (n:N a) (f:F (some a)) (h:H a=some (bG a ob es)) (e:es.map (·.1)=kds.map kN) (g:kds.all Fz=true) (rk:Reps K N F H (es.map fun x=>.ref x.2.1) kds) (r:Reps K N F H (es.map (·.2.2)) ds):Rep K N F H (.ref a) (.dib kds ds)
inductive Reps (K:PySem.W.Frag) (N:AP) (F:FP) (H:Hp):List V->List D->Prop where
 | nil:Reps K N F H [] []
 | cons {v:V} {d:D} {vs:List V} {ds:List D} (h:Rep K N F H v d) (t:Reps K N F H vs ds):Reps K N F H (v::vs) (d::ds)
end
section
variable {K:PySem.W.Frag} {N N':AP} {F F':FP} {H H' H0:Hp}
theorem Rd.there {a:Addr} {u:HO} (h:Rd H a u):H a≠none:=by rcases h with h | ⟨o,h⟩ <;> simp [h]
theorem Rd.keep {a:Addr} {u:HO} (h:Rd H a u) (e:H' a=H a):Rd H' a u:=by
 rcases h with h | ⟨o,h⟩
 ·exact .inl (e.trans h)
 ·exact .inr ⟨o,e.trans h⟩
mutual
theorem Rep.mono (hN:∀a,N a->H a≠none->N' a/\H' a=H a) (hF:∀o,F o->F' o) {v:V} {d:D}:Rep K N F H v d->Rep K N' F' H' v d
 | .int i=>.int i
 | .bl i=>.bl i
 | .non=>.non
 | .str i=>.str i
 | .ty i=>.ty i
 | .tup n h r=>.tup (hN _ n (Rd.there h)).1 (Rd.keep h (hN _ n (Rd.there h)).2) (Reps.mono hN hF r)
 | .tupK h r=>.tupK h (Reps.mono hN hF r)
 | .lst n f h r=>.lst (hN _ n (by simp [h])).1 (hF _ f) ((hN _ n (by simp [h])).2.trans h) (Reps.mono hN hF r)
 | .lstF n f h r=>.lstF (hN _ n (by simp [h])).1 (hF _ f) ((hN _ n (by simp [h])).2.trans h) (Reps.mono hN hF r)
 | .lstK f h r=>.lstK (hF _ f) h (Reps.mono hN hF r)
 | .dic n f h e rk r=>.dic (hN _ n (by simp [h])).1 (hF _ f) ((hN _ n (by simp [h])).2.trans h) e (Reps.mono hN hF rk) (Reps.mono hN hF r)
 | .exc n h e=>.exc (hN _ n (by simp [h])).1 ((hN _ n (by simp [h])).2.trans h) e
 | .dib n f h e g rk r=>.dib (hN _ n (by simp [h])).1 (hF _ f) ((hN _ n (by simp [h])).2.trans h) e g (Reps.mono hN hF rk) (Reps.mono hN hF r)
theorem Reps.mono (hN:∀a,N a->H a≠none->N' a/\H' a=H a) (hF:∀o,F o->F' o) {vs:List V} {ds:List D}:Reps K N F H vs ds->Reps K N' F' H' vs ds
 | .nil=>.nil
 | .cons h t=>.cons (Rep.mono hN hF h) (Reps.mono hN hF t)
end
theorem Rep.any {d:D} (h:Rep K N F H v d):Rep K Any AnyF H v d:=h.mono (fun _ _ _=>⟨trivial,rfl⟩) (fun _ _=>trivial)
theorem Reps.any {ds:List D} (h:Reps K N F H vs ds):Reps K Any AnyF H vs ds:=h.mono (fun _ _ _=>⟨trivial,rfl⟩) (fun _ _=>trivial)
mutual
theorem Rep.avoid (h1:∀a,¬N' a->IsM (H a)) (h2:∀a,F (some a)->N' a) {v:V} {d:D}:Rep K N F H v d->Rep K N' F H v d
 | .int i=>.int i
 | .bl i=>.bl i
 | .non=>.non
 | .str i=>.str i
 | .ty i=>.ty i
 | .tup (a:=a) n h r=>.tup (Classical.byContradiction fun z=>by
   have e:=h1 a z
   rcases h with h | ⟨o,h⟩ <;> rw [h] at e <;> exact e) h (Reps.avoid h1 h2 r)
 | .tupK h r=>.tupK h (Reps.avoid h1 h2 r)
 | .lst n f h r=>.lst (h2 _ f) f h (Reps.avoid h1 h2 r)
 | .lstF (a:=a) n f h r=>.lstF (Classical.byContradiction fun z=>by
   have e:=h1 a z
   rw [h] at e;exact e) f h (Reps.avoid h1 h2 r)
 | .lstK f h r=>.lstK f h (Reps.avoid h1 h2 r)
 | .dic n f h e rk r=>.dic (h2 _ f) f h e (Reps.avoid h1 h2 rk) (Reps.avoid h1 h2 r)
 | .exc (x:=a) n h e=>.exc (Classical.byContradiction fun z=>by
   have e:=h1 a z
   rw [h] at e;exact e) h e
 | .dib n f h e g rk r=>.dib (h2 _ f) f h e g (Reps.avoid h1 h2 rk) (Reps.avoid h1 h2 r)
theorem Reps.avoid (h1:∀a,¬N' a->IsM (H a)) (h2:∀a,F (some a)->N' a) {vs:List V} {ds:List D}:Reps K N F H vs ds->Reps K N' F H vs ds
 | .nil=>.nil
 | .cons h t=>.cons (Rep.avoid h1 h2 h) (Reps.avoid h1 h2 t)
end
mutual
noncomputable def flat:D->Bool
 | .lst _=>false
 | .dic _ _=>false
 | .dib _ _=>false
 | .tup ds=>flats ds
 | _=>true
noncomputable def flats:List D->Bool
 | []=>true
 | d::r=>flat d&&flats r
end
theorem gT:∀ms:List Int,flats (ms.map D.int)=true
 | []=>rfl
 | _::r=>by simp [flats,flat,gT r]
theorem iP:∀ks:List (List Int),flats (ks.map kT)=true
 | []=>rfl
 | _::r=>by simp [flats,kT,flat,gT,iP r]
mutual
theorem Rep.flat {v:V} {d:D}:Rep K N F H v d->VL.flat d=true->Rep K N F' H v d:=fun hh ee=>by
 cases hh with
 | int i=>exact .int i
 | bl i=>exact .bl i
 | non=>exact .non
 | str i=>exact .str i
 | ty i=>exact .ty i
 | tup n h r=>have e:=ee;exact .tup n h (Reps.flat r (by simpa [VL.flat] using e))
 | tupK h r=>have e:=ee;exact .tupK h (Reps.flat r (by simpa [VL.flat] using e))
 | lst n f h r=>have e:=ee;simp [VL.flat] at e
 | lstF n f h r=>have e:=ee;simp [VL.flat] at e
 | lstK f h r=>have e:=ee;simp [VL.flat] at e
 | dic n f h _ _ r=>have e:=ee;simp [VL.flat] at e
 | exc n h e0=>exact .exc n h e0
 | dib n f h _ _ _ r=>have e:=ee;simp [VL.flat] at e
theorem Reps.flat {vs:List V} {ds:List D}:Reps K N F H vs ds->flats ds=true->Reps K N F' H vs ds:=fun hh ee=>by
 cases hh with
 | nil=>exact .nil
 | cons h t=>
  have e:=ee
  simp only [flats,Bool.and_eq_true] at e
  exact .cons (Rep.flat h e.1) (Reps.flat t e.2)
end
theorem Reps.length:∀{vs:List V} {ds:List D},Reps K N F H vs ds->vs.length=ds.length
 | _,_,.nil=>rfl
 | _,_,.cons _ t=>by simp [Reps.length t]
theorem Reps.get:∀{vs:List V} {ds:List D} {i:Nat} {v:V},Reps K N F H vs ds->vs[i]?=some v->∃d,ds[i]?=some d/\Rep K N F H v d
 | _,_,0,_,.cons h _,e=>by simp at e;subst e;exact ⟨_,rfl,h⟩
 | _,_,i+1,v,.cons _ t,e=>by
  obtain ⟨d,h1,h2⟩:=Reps.get (i:=i) (v:=v) t (by simpa using e)
  exact ⟨d,by simpa using h1,h2⟩
 | _,_,_,_,.nil,e=>by simp at e
theorem Reps.getD:∀{vs:List V} {ds:List D} {i:Nat} {d:D},Reps K N F H vs ds->ds[i]?=some d->∃v,vs[i]?=some v/\Rep K N F H v d
 | _,_,0,_,.cons h _,e=>by simp at e;subst e;exact ⟨_,rfl,h⟩
 | _,_,i+1,v,.cons _ t,e=>by
  obtain ⟨d,h1,h2⟩:=Reps.getD (i:=i) (d:=v) t (by simpa using e)
  exact ⟨d,by simpa using h1,h2⟩
 | _,_,_,_,.nil,e=>by simp at e
theorem Reps.append:∀{vs ws:List V} {ds es:List D},Reps K N F H vs ds->Reps K N F H ws es->Reps K N F H (vs++ws) (ds++es)
 | _,_,_,_,.nil,s=>s
 | _,_,_,_,.cons h t,s=>.cons h (Reps.append t s)
theorem Reps.take:∀{vs:List V} {ds:List D} (n:Nat),Reps K N F H vs ds->Reps K N F H (vs.take n) (ds.take n)
 | _,_,0,_=>by simpa using .nil
 | _,_,_+1,.nil=>by simpa using .nil
 | _,_,n+1,.cons h t=>by simpa using .cons h (Reps.take n t)
theorem Reps.drop:∀{vs:List V} {ds:List D} (n:Nat),Reps K N F H vs ds->Reps K N F H (vs.drop n) (ds.drop n)
 | _,_,0,h=>by simpa using h
 | _,_,_+1,.nil=>by simpa using .nil
 | _,_,n+1,.cons h t=>by simpa using Reps.drop n t
theorem Reps.set {d:D} (h:Rep K N F H v d):∀{vs:List V} {ds:List D} (i:Nat),Reps K N F H vs ds->Reps K N F H (vs.set i v) (ds.set i d)
 | _,_,_,.nil=>by simpa using .nil
 | _,_,0,.cons _ t=>by simpa using .cons h t
 | _,_,i+1,.cons q t=>by simpa using .cons q (Reps.set h i t)
theorem Reps.ints:∀{ns:List Int},Reps K N F H (ns.map V.int) (ns.map D.int)
 | []=>.nil
 | _::r=>.cons (.int _) (Reps.ints (ns:=r))
theorem Reps.toInts:∀{vs:List V} {ns:List Int},Reps K N F H vs (ns.map D.int)->vs=ns.map V.int
 | _,[],.nil=>rfl
 | _,n::ns,.cons h t=>by cases h;rw [Reps.toInts t];rfl
theorem fB {a:Addr} (h:SqT K (fun _=>none) a vs):SqT K H a vs:=by
 rcases h with (h | ⟨o,h⟩) | h
 ·cases h
 ·cases h
 ·exact .inr h
theorem iQ {a:Addr} (h:SqL K (fun _=>none) a vs):SqL K H a vs:=by
 rcases h with (h | ⟨o,h⟩) | h
 ·cases h
 ·cases h
 ·exact .inr h
theorem Rep.sqT {ds:List D} (h:Rep K N F H v (.tup ds)):∃a vs,v=.ref a/\SqT K H a vs/\Reps K N F H vs ds:=by
 cases h with
 | tup n h r=>exact ⟨_,_,rfl,.inl h,r⟩
 | tupK h r=>exact ⟨_,_,rfl,fB h,r⟩
theorem Rep.sqL {ds:List D} (h:Rep K N F H v (.lst ds)):∃a vs,v=.ref a/\SqL K H a vs/\Reps K N F H vs ds:=by
 cases h with
 | lst n f h r=>exact ⟨_,_,rfl,.inl (.inl h),r⟩
 | lstF n f h r=>exact ⟨_,_,rfl,.inl (.inr ⟨_,h⟩),r⟩
 | lstK f h r=>exact ⟨_,_,rfl,iQ h,r⟩
theorem Rep.of_sqL {a:Addr} {ds:List D} (h:SqL K H a vs) (n:N a) (f:∀o,F o) (r:Reps K N F H vs ds):Rep K N F H (.ref a) (.lst ds):=by
 rcases h with (h | ⟨o,h⟩) | h
 ·exact .lst n (f _) h r
 ·exact .lstF n (f _) h r
 ·exact .lstK (f _) (.inr h) r
end
structure FA where
 ok:PySem.W.Frag->Hp->AP->Hp->Addr->Prop
 ism:∀{K:PySem.W.Frag} {H0:Hp} {N:AP} {H:Hp} {a:Addr},ok K H0 N H a->IsM (H a)
 mono:∀{K:PySem.W.Frag} {H0:Hp} {N N':AP} {H H':Hp} {a:Addr},(∀b,N b->H b≠none->N' b/\H' b=H b)->H' a=H a->ok K H0 N H a->ok K H0 N' H' a
inductive Sl where
 | no | val (d:D) | fre (d:D) | own (ds:List D) | pen (ad:Option Addr) (ns:List Int) | odi (ks:List (List Int)) (vs:List D) | obj (k:FA)
noncomputable def Sl.mut:Sl->Bool
 | .own _=>true
 | .pen _ _=>true
 | .odi _ _=>true
 | .obj _=>true
 | _=>false
noncomputable def Mo (Z:AP) (σ:St) (S:List Sl) (a:Addr):Prop:=(∃(i:Nat) (s:Sl),S[i]?=some s/\s.mut=true/\σ[i]?=some (some (V.ref a)))\/Z a
noncomputable abbrev NM (Z:AP) (σ:St) (S:List Sl):AP:=fun a=>¬Mo Z σ S a
noncomputable def qa (K:PySem.W.Frag) (H0:Hp) (N:AP) (H:Hp) (o:Option V):Sl->Prop
 | .no=>True
 | .val d=>∃v,o=some v/\Rep K N AnyF H v d
 | .fre d=>∃v,o=some v/\Rep K N (Fr H0) H v d
 | .own ds=>∃a vs,o=some (.ref a)/\H a=some (.lst vs)/\H0 a=none/\Reps K N (Fr H0) H vs ds
 | .pen ad ns=>∃a,o=some (.ref a)/\(∀b,ad=some b->a=b)/\H a=some (.lst (ns.map .int))
 | .odi ks ds=>∃a es,o=some (.ref a)/\(∃ob,H a=some (bG a ob es))/\H0 a=none/\(es.map (·.1)=ks/\Reps K N AnyF H (es.map fun x=>V.ref x.2.1) (ks.map kT))/\Reps K N (Fr H0) H (es.map (·.2.2)) ds
 | .obj k=>∃a,o=some (.ref a)/\H0 a=none/\k.ok K H0 N H a
structure OK (K:PySem.W.Frag) (H0:Hp) (Z:AP) (σ:St) (H:Hp) (S:List Sl):Prop where
 len:σ.length=S.length
 at_:∀(i:Nat) (o:Option V) (s:Sl),σ[i]?=some o->S[i]?=some s->qa K H0 (NM Z σ S) H o s
 inj:∀(i j:Nat) (a:Addr) (s t:Sl),S[i]?=some s->S[j]?=some t->s.mut=true->t.mut=true->σ[i]?=some (some (V.ref a))->σ[j]?=some (some (V.ref a))->i=j
 dom:∀a,H a=none->H0 a=none
 zl:∀a,Z a->IsM (H a)
 nz:∀(i:Nat) (s:Sl) (a:Addr),S[i]?=some s->s.mut=true->σ[i]?=some (some (V.ref a))->¬Z a
noncomputable def Step (Z:AP) (σ:St) (S:List Sl) (H:Hp) (σ':St) (S':List Sl) (H':Hp):Prop:=(∀a,NM Z σ S a->H a≠none->H' a=H a/\NM Z σ' S' a)/\(∀a,H' a=none->H a=none)/\∀a,Z a->H a≠none->H' a=H a
section
variable {K:PySem.W.Frag} {N N':AP} {F F':FP} {H H' H'' H0:Hp} {Z:AP} {σ σ' σ'':St} {S S' S'':List Sl}
theorem Step.refl:Step Z σ S H σ S H:=⟨fun _ n _=>⟨rfl,n⟩,fun _ h=>h,fun _ _ _=>rfl⟩
theorem Step.trans (a:Step Z σ S H σ' S' H') (b:Step Z σ' S' H' σ'' S'' H''):Step Z σ S H σ'' S'' H'':=
 ⟨fun x n h=>by
  obtain ⟨e1,n1⟩:=a.1 x n h
  obtain ⟨e2,n2⟩:=b.1 x n1 (by rw [e1];exact h)
  exact ⟨e2.trans e1,n2⟩,fun x h=>a.2.1 x (b.2.1 x h),fun x z h=>by
  have e1:=a.2.2 x z h
  exact (b.2.2 x z (by rw [e1];exact h)).trans e1⟩
theorem Rep.step {d:D} (h:Rep K (NM Z σ S) F H v d) (st:Step Z σ S H σ' S' H'):Rep K (NM Z σ' S') F H' v d:=h.mono (fun a n e=>⟨(st.1 a n e).2,(st.1 a n e).1⟩) fun _ x=>x
theorem Reps.step {ds:List D} (h:Reps K (NM Z σ S) F H vs ds) (st:Step Z σ S H σ' S' H'):Reps K (NM Z σ' S') F H' vs ds:=h.mono (fun a n e=>⟨(st.1 a n e).2,(st.1 a n e).1⟩) fun _ x=>x
theorem Rep.stp {d:D} (h:Rep K (NM Z σ S) F H v d) (st:∀a,NM Z σ S a->H a≠none->H' a=H a/\NM Z σ' S' a):Rep K (NM Z σ' S') F H' v d:=h.mono (fun a n e=>⟨(st a n e).2,(st a n e).1⟩) fun _ x=>x
theorem Reps.stp {ds:List D} (h:Reps K (NM Z σ S) F H vs ds) (st:∀a,NM Z σ S a->H a≠none->H' a=H a/\NM Z σ' S' a):Reps K (NM Z σ' S') F H' vs ds:=h.mono (fun a n e=>⟨(st a n e).2,(st a n e).1⟩) fun _ x=>x
theorem OK.mo (k:OK K H0 Z σ H S) {a:Addr} (h:Mo Z σ S a):IsM (H a):=by
 rcases h with ⟨i,s,e1,e2,e3⟩ | h
 case inr=>exact k.zl a h
 have q:=k.at_ i _ s e3 e1
 cases s with
 | no=>cases e2
 | val d=>cases e2
 | fre d=>cases e2
 | own ds=>obtain ⟨b,vs,h1,h2,_⟩:=q;cases h1;rw [h2];trivial
 | pen ad ns=>obtain ⟨b,h1,_,h2⟩:=q;cases h1;rw [h2];trivial
 | odi ks ds=>obtain ⟨b,kvs,h1,⟨ob,h2⟩,_⟩:=q;cases h1;rw [h2];trivial
 | obj k=>obtain ⟨b,h1,_,h2⟩:=q;cases h1;exact k.ism h2
theorem OK.grow (k:OK K H0 Z σ H S) (h:∀a,H a≠none->H' a=H a):OK K H0 Z σ H' S where
 len:=k.len
 inj:=k.inj
 nz:=k.nz
 zl:=fun a z=>by
  have e:=k.zl a z
  rw [h a e.ne];exact e
 dom:=fun a e=>k.dom a (Classical.byContradiction fun z=>by rw [h a z] at e;exact z e)
 at_:=fun i o s e1 e2=>by
  have q:=k.at_ i o s e1 e2
  have hm:∀a,NM Z σ S a->H a≠none->NM Z σ S a/\H' a=H a:=fun a n e=>⟨n,h a e⟩
  cases s with
  | no=>trivial
  | val d=>obtain ⟨v,e,r⟩:=q;exact ⟨v,e,r.mono hm fun _ x=>x⟩
  | fre d=>obtain ⟨v,e,r⟩:=q;exact ⟨v,e,r.mono hm fun _ x=>x⟩
  | own ds=>obtain ⟨a,vs,e,e',e0,r⟩:=q;exact ⟨a,vs,e,by rw [h a (by simp [e'])];exact e',e0,r.mono hm fun _ x=>x⟩
  | pen ad ns=>obtain ⟨a,e,e1,e'⟩:=q;exact ⟨a,e,e1,by rw [h a (by simp [e'])];exact e'⟩
  | odi ks ds=>obtain ⟨a,vs,e,⟨ob,e'⟩,e0,ek,r⟩:=q;exact ⟨a,vs,e,⟨ob,by rw [h a (by simp [e'])];exact e'⟩,e0,⟨ek.1,ek.2.mono hm fun _ x=>x⟩,r.mono hm fun _ x=>x⟩
  | obj k=>obtain ⟨a,e,e0,r⟩:=q;exact ⟨a,e,e0,k.mono hm (h a (k.ism r).ne) r⟩
theorem Step.grow (h:∀a,H a≠none->H' a=H a):Step Z σ S H σ S H':=⟨fun a n e=>⟨h a e,n⟩,fun a e=>Classical.byContradiction fun z=>by rw [h a z] at e;exact z e,fun a _ e=>h a e⟩
theorem aY {p:Addr} {o:HO} (hp:H p=none):∀a,H a≠none->upd H p o a=H a:=fun a e=>aL fun z=>e (by rw [z];exact hp)
end
inductive VR where
 | d (x:D) | own (i:Nat)
noncomputable def getO:Option Sl->Option D
 | some (.own ds)=>some (.lst ds)
 | some (.pen _ ns)=>some (.lst (ns.map .int))
 | some (.odi ks vs)=>some (.dic ks vs)
 | _=>none
noncomputable def get (S:List Sl):VR->Option D
 | .d x=>some x
 | .own i=>getO S[i]?
noncomputable def eX (K:PySem.W.Frag) (F:FP) (Z:AP) (σ:St) (S:List Sl) (H:Hp) (v:V):VR->Prop
 | .d x=>Rep K (NM Z σ S) F H v x
 | .own i=>σ[i]?=some (some v)
section
variable {K:PySem.W.Frag} {N N':AP} {F F':FP} {H H' H'' H0:Hp} {Z:AP} {σ σ' σ'':St} {S S' S'':List Sl}
theorem eX.step {r:VR} (h:eX K F Z σ S H v r) (st:Step Z σ S H σ S' H'):eX K F Z σ S' H' v r:=by
 cases r with
 | d x=>exact Rep.step h st
 | own i=>exact h
theorem eX.get {r:VR} {x:D} (h:eX K F Z σ S H v r) (k:OK K H0 Z σ H S) (e:get S r=some x):Rep K Any AnyF H v x:=by
 cases r with
 | d y=>cases e;exact Rep.any h
 | own i=>
  have h:σ[i]?=some (some v):=h
  have e:getO S[i]?=some x:=e
  cases es:S[i]? with
  | none=>rw [es] at e;cases e
  | some s=>
   rw [es] at e
   cases s with
   | no=>cases e
   | val d=>cases e
   | fre d=>cases e
   | own ds=>
    cases e
    obtain ⟨a,vs,h1,h2,h3,h4⟩:=k.at_ i _ _ h es
    cases h1
    exact .lst trivial trivial h2 h4.any
   | pen ad ns=>
    cases e
    obtain ⟨a,h1,_,h2⟩:=k.at_ i _ _ h es
    cases h1
    exact .lst trivial trivial h2 Reps.ints
   | odi ks ds=>
    cases e
    obtain ⟨a,kvs,h1,⟨ob,h2⟩,h3,h4,h5⟩:=k.at_ i _ _ h es
    cases h1
    exact .dic trivial trivial h2 h4.1 h4.2.any h5.any
   | obj k=>cases e
end
noncomputable abbrev VT:=List Sl->(VR->List Sl->Prop)->Prop
noncomputable abbrev VTT:=List Sl->(Bool->List Sl->Prop)->Prop
noncomputable abbrev VTA:=List Sl->(List VR->List Sl->Prop)->Prop
noncomputable abbrev VTN:=List Sl->(List D->List Sl->Prop)->Prop
noncomputable def FM (H0:Hp) (m:Bool):FP:=fun o=>m=true->Fr H0 o
noncomputable def SndE (K:PySem.W.Frag) (m:Bool) (te:TE) (t:VT):Prop:=∀H0 Z σ H S Q C,OK K H0 Z σ H S->t S Q->(∀v H' r S',OK K H0 Z σ H' S'->Step Z σ S H σ S' H'->eX K (FM H0 m) Z σ S' H' v r->Q r S'->C v H')->te σ H C
noncomputable def SndT (K:PySem.W.Frag) (te:TT) (t:VTT):Prop:=∀H0 Z σ H S Q C,OK K H0 Z σ H S->t S Q->(∀b H' S',OK K H0 Z σ H' S'->Step Z σ S H σ S' H'->Q b S'->C b H')->te σ H C
inductive cK (K:PySem.W.Frag) (F:FP) (Z:AP) (σ:St) (S:List Sl) (H:Hp):List V->List VR->Prop where
 | nil:cK K F Z σ S H [] []
 | cons {v:V} {r:VR} {vs:List V} {rs:List VR} (h:eX K F Z σ S H v r) (t:cK K F Z σ S H vs rs):cK K F Z σ S H (v::vs) (r::rs)
noncomputable def gets (S:List Sl):List VR->Option (List D)
 | []=>some []
 | r::rs=>match get S r,gets S rs with
  | some d,some ds=>some (d::ds)
  | _,_=>none
noncomputable def AA (K:PySem.W.Frag) (m:Bool) (te:TA) (t:VTA):Prop:=∀H0 Z σ H S Q C,OK K H0 Z σ H S->t S Q->(∀vs H' rs S',OK K H0 Z σ H' S'->Step Z σ S H σ S' H'->cK K (FM H0 m) Z σ S' H' vs rs->Q rs S'->C vs H')->te σ H C
noncomputable def FC (K:PySem.W.Frag) (te:TE) (t:VTN):Prop:=∀H0 Z σ H S Q C,OK K H0 Z σ H S->t S Q->(∀a vs ds H1 H' S',OK K H0 Z σ H1 S'->Step Z σ S H σ S' H1->H1 a=none->(∀b,H1 b≠none->H' b=H1 b)->H' a=some (.lst vs) ->
 Reps K (fun b=>NM Z σ S' b/\b≠a) (Fr H0) H' vs ds->Q ds S'->C (.ref a) H')->te σ H C
structure VE (K:PySem.W.Frag) (X:Cx) (m:Bool) (e:Expr) (te:TE) (t:VT):Prop where
 pe:PE X e te
 snd:SndE K m te t
structure VTe (K:PySem.W.Frag) (X:Cx) (e:Expr) (te:TT) (t:VTT):Prop where
 pe:PT X e te
 snd:SndT K te t
structure VWe (K:PySem.W.Frag) (X:Cx) (e:Expr) (te:TT) (t:VTT):Prop where
 pe:PW X e te
 snd:SndT K te t
structure VA (K:PySem.W.Frag) (X:Cx) (m:Bool) (es:List Expr) (te:TA) (t:VTA):Prop where
 pe:PA X es te
 snd:AA K m te t
structure VN (K:PySem.W.Frag) (X:Cx) (e:Expr) (te:TE) (t:VTN):Prop where
 pe:PE X e te
 snd:FC K te t
section
variable {K:PySem.W.Frag} {N N':AP} {F F':FP} {H H' H'' H0:Hp} {Z:AP} {σ σ' σ'':St} {S S' S'':List Sl}
theorem cK.gets {rs:List VR} {ds:List D} (h:cK K F Z σ S H vs rs) (k:OK K H0 Z σ H S) (e:gets S rs=some ds):Reps K Any AnyF H vs ds:=by
 induction h generalizing ds with
 | nil=>cases e;exact .nil
 | cons h t ih=>
  unfold VL.gets at e
  split at e
  ·rename_i d es h1 h2
   cases e
   exact .cons (h.get k h1) (ih h2)
  ·cases e
end
end VL
end
variable {kvs:List (List Int×VL.D)} {ds:List VL.D} {S:List VL.Sl} {d:VL.D} {r:VL.VR} {F:VL.FP} {Z:VL.AP} {H0:L2.Hp} {rs:List VL.VR} {q:VL.D->Prop} {p:List VL.D->(VL.D->Prop)->Prop}
section
namespace VL
open PySem L2
section
variable {K:PySem.W.Frag} {X:Cx} {m:Bool} {e a b c:Expr} {ta tb tc te:TE} {va vb vc:VT} {pos:Pos}
theorem FM.any {a:Option Addr}:FM H0 false a:=fun z=>nomatch z
noncomputable def vC (d:D):VT:=fun S Q=>Q (.d d) S
theorem ae {i j}:VE K X m (.Constant (.int i) j pos) (tC (.int i)) (vC (.int i)):=⟨gh,fun _ _ _ _ _ _ _ k h q=>q _ _ (.d (.int i)) _ k .refl (Rep.int i) h⟩
theorem eU {i j}:VE K X m (.Constant (.bool i) j pos) (tC (.bl i)) (vC (.bl i)):=⟨CH,fun _ _ _ _ _ _ _ k h q=>q _ _ (.d (.bl i)) _ k .refl (Rep.bl i) h⟩
theorem iR {j}:VE K X m (.Constant .none j pos) (tC .non) (vC .non):=⟨zS,fun _ _ _ _ _ _ _ k h q=>q _ _ (.d .non) _ k .refl Rep.non h⟩
theorem bw {i j}:VE K X m (.Constant (.str i) j pos) (tC (.str i)) (vC (.str i)):=⟨zT,fun _ _ _ _ _ _ _ k h q=>q _ _ (.d (.str i)) _ k .refl (Rep.str i) h⟩
theorem C6 (h:PE X e (tC v)) (r:∀N H,Rep K N AnyF H v d):VE K X false e (tC v) (vC d):=⟨h,fun _ _ _ _ _ _ _ k h q=>q _ _ (.d d) _ k .refl (show Rep K _ _ _ v d from (r _ _).mono (fun _ n _=>⟨n,rfl⟩) (fun _ _=>FM.any)) h⟩
noncomputable def rdO (i:Nat):Option Sl->Option VR
 | some (.val d)=>some (.d d)
 | some (.fre d)=>some (.d d)
 | some (.own _)=>some (.own i)
 | some (.pen _ _)=>some (.own i)
 | some (.odi _ _)=>some (.own i)
 | some (.obj _)=>some (.own i)
 | _=>none
noncomputable def rJ (i:Nat):VT:=fun S Q=>∃r,rdO i S[i]?=some r/\Q r S
theorem OK.var {H0 H:Hp} (k:OK K H0 Z σ H S) {i:Nat} (h:rdO i S[i]?=some r):∃v,σ[i]?=some (some v)/\eX K (FM H0 false) Z σ S H v r:=by
 have hl:=k.len
 cases es:S[i]? with
 | none=>rw [es] at h;cases h
 | some s=>
  have hi:i < σ.length:=by rw [hl];exact (List.getElem?_eq_some_iff.mp es).1
  have q:=k.at_ i _ s (List.getElem?_eq_getElem hi) es
  rw [es] at h
  cases s with
  | no=>cases h
  | val d=>obtain ⟨v,e,r'⟩:=q;cases h;exact ⟨v,by rw [List.getElem?_eq_getElem hi,e],r'.mono (fun _ n _=>⟨n,rfl⟩) fun _ _=>FM.any⟩
  | fre d=>obtain ⟨v,e,r'⟩:=q;cases h;exact ⟨v,by rw [List.getElem?_eq_getElem hi,e],r'.mono (fun _ n _=>⟨n,rfl⟩) fun _ x _=>x⟩
  | own ds=>obtain ⟨a,vs,e,_⟩:=q;cases h;exact ⟨.ref a,by rw [List.getElem?_eq_getElem hi,e],by show σ[i]?=_;rw [List.getElem?_eq_getElem hi,e]⟩
  | pen ad ds=>obtain ⟨a,e,_⟩:=q;cases h;exact ⟨.ref a,by rw [List.getElem?_eq_getElem hi,e],by show σ[i]?=_;rw [List.getElem?_eq_getElem hi,e]⟩
  | odi ks ds=>obtain ⟨a,_,e,_⟩:=q;cases h;exact ⟨.ref a,by rw [List.getElem?_eq_getElem hi,e],by show σ[i]?=_;rw [List.getElem?_eq_getElem hi,e]⟩
  | obj k=>obtain ⟨a,e,_⟩:=q;cases h;exact ⟨.ref a,by rw [List.getElem?_eq_getElem hi,e],by show σ[i]?=_;rw [List.getElem?_eq_getElem hi,e]⟩
theorem ab (i:Nat) (h:PE X e (cT i)):VE K X false e (cT i) (rJ i):=⟨h,fun H0 Z σ H S Q C k zq1 hc=>by
 obtain ⟨r,h,q⟩:=zq1
 obtain ⟨v,e,rr⟩:=k.var h
 exact ⟨v,e,hc _ _ _ _ k .refl rr q⟩⟩
noncomputable def rK (t:VT):VT:=fun S Q=>t S fun r S'=>(match r with | .d d=>flat d=true | .own _=>True)/\Q r S'
theorem aF (h:VE K X false e te va):VE K X m e te (rK va):=⟨h.pe,fun H0 Z σ H S Q C k t hc=>h.snd H0 Z σ H S _ C k t fun v H' r S' k' st rr ⟨f,q⟩=>hc v H' r S' k' st (by
 cases r with
 | d x=>exact Rep.flat rr f
 | own i=>exact rr) q⟩
noncomputable def v2 (w:D->D->(D->Prop)->Prop) (va vb:VT):VT:=fun S Q=>va S fun ra S1=>vb S1 fun rb S2=>∃d1 d2,get S2 ra=some d1/\get S2 rb=some d2/\w d1 d2 fun d=>Q (.d d) S2
noncomputable def dt (K:PySem.W.Frag) (r:R2) (w:D->D->(D->Prop)->Prop):Prop:=∀(x y:V) (H:Hp) (d1 d2:D) (q:D->Prop) (C:VK),Rep K Any AnyF H x d1->Rep K Any AnyF H y d2->w d1 d2 q->(∀z dz,q dz->(∀N F,Rep K N F H z dz)->C z H)->r x y H C
theorem AB {r:R2} {w:D->D->(D->Prop)->Prop} (L:dt K r w) (ha:SndE K false ta va) (hb:SndE K false tb vb):SndE K m (tOp r ta tb) (v2 w va vb):=by
 intro H0 Z σ H S Q C k t hc
 refine ha H0 Z σ H S _ _ k t fun x H1 ra S1 k1 st1 r1 t1=>?_
 refine hb H0 Z σ H1 S1 _ _ k1 t1 fun y H2 rb S2 k2 st2 r2 zr1=>?_
 obtain ⟨d1,d2,e1,e2,t2⟩:=zr1
 exact L x y H2 d1 d2 _ _ ((r1.step st2).get k2 e1) (r2.get k2 e2) t2 fun z dz q rz=>hc z H2 (.d dz) S2 k2 (st1.trans st2) (rz _ _) q
theorem ak {op:Operator} {r:R2} {w:D->D->(D->Prop)->Prop} (ho:OpR X (binaryOp op) r) (L:dt K r w) (ha:VE K X false a ta va) (hb:VE K X false b tb vb):VE K X m (.BinOp a op b pos) (tOp r ta tb) (v2 w va vb):=⟨qZ ho ha.pe hb.pe,AB L ha.snd hb.snd⟩
@[reducible] def ofV:V->D
 | .int i=>.int i
 | .bl b=>.bl b
 | .str x=>.str x
 | .ty x=>.ty x
 | _=>.non
noncomputable def scV:V->Bool
 | .int _=>true | .bl _=>true | .str _=>true | .non=>true | .ty _=>true | _=>false
theorem m9 (h:scV v=true) {N:AP}:Rep K N F H v (ofV v):=by
 cases v <;> first | exact .int _ | exact .bl _ | exact .str _ | exact .non | exact .ty _ | cases h
noncomputable def wI (C:Int->Int->Prop) (g:Int->Int->V):D->D->(D->Prop)->Prop:=fun d1 d2 q=>∃i j,d1=.int i/\d2=.int j/\C i j/\q (ofV (g i j))
noncomputable def wI0 (g:Int->Int->V):D->D->(D->Prop)->Prop:=fun d1 d2 q=>∃i j,d1=.int i/\d2=.int j/\q (ofV (g i j))
theorem cu {C:Int->Int->Prop} {g:Int->Int->V} (hg:∀i j,scV (g i j)=true:=by intro _ _;rfl):dt K (rI C g) (wI C g):=by
 rintro x y H d1 d2 q Cc r1 r2 ⟨i,j,rfl,rfl,c,h⟩ hc
 cases r1;cases r2
 exact ⟨i,j,rfl,rfl,c,hc _ _ h fun _ _=>m9 (hg i j)⟩
theorem az {g:Int->Int->V} (hg:∀i j,scV (g i j)=true:=by intro _ _;rfl):dt K (rI0 g) (wI0 g):=by
 rintro x y H d1 d2 q Cc r1 r2 ⟨i,j,rfl,rfl,h⟩ hc
 cases r1;cases r2
 exact ⟨i,j,rfl,rfl,hc _ _ h fun _ _=>m9 (hg i j)⟩
noncomputable def toV:D->Option V
 | .int i=>some (.int i)
 | .bl b=>some (.bl b)
 | .str x=>some (.str x)
 | .non=>some .non
 | _=>none
theorem ij {u:V} {N:AP} (h:Rep K N F H v d) (e:toV d=some u):v=u:=by
 cases h <;> cases e <;> rfl
noncomputable def wEq:D->D->(D->Prop)->Prop:=fun d1 d2 q=>∃x y,toV d1=some x/\toV d2=some y/\vK x y=true/\q (.bl (decide (x=y)))
noncomputable def wNe:D->D->(D->Prop)->Prop:=fun d1 d2 q=>∃x y,toV d1=some x/\toV d2=some y/\vK x y=true/\q (.bl (!decide (x=y)))
theorem bT:dt K rEq wEq:=by
 rintro x y H d1 d2 q C r1 r2 ⟨x',y',e1,e2,s,h⟩ hc
 obtain rfl:=ij r1 e1
 obtain rfl:=ij r2 e2
 exact ⟨s,hc _ _ h fun _ _=>.bl _⟩
theorem AC:dt K rNe wNe:=by
 rintro x y H d1 d2 q C r1 r2 ⟨x',y',e1,e2,s,h⟩ hc
 obtain rfl:=ij r1 e1
 obtain rfl:=ij r2 e2
 exact ⟨s,hc _ _ h fun _ _=>.bl _⟩
noncomputable def rL:D->Bool
 | .non=>true
 | _=>false
theorem lT {N:AP} (h:Rep K N F H v d):decide (v=.non)=rL d:=by cases h <;> rfl
noncomputable def AD (neg:Bool):D->D->(D->Prop)->Prop:=fun d1 d2 q=>d2=.non/\q (.bl (if neg then !rL d1 else rL d1))
theorem C7:dt K (fun x y H Q=>y=.non/\Q (.bl (decide (x=.non))) H) (AD false):=by
 rintro x y H d1 d2 q C r1 r2 ⟨rfl,h⟩ hc
 cases r2
 exact ⟨rfl,by rw [lT r1];exact hc _ _ h fun _ _=>.bl _⟩
theorem AE:dt K (fun x y H Q=>y=.non/\Q (.bl (!decide (x=.non))) H) (AD true):=by
 rintro x y H d1 d2 q C r1 r2 ⟨rfl,h⟩ hc
 cases r2
 exact ⟨rfl,by rw [lT r1];exact hc _ _ h fun _ _=>.bl _⟩
noncomputable def iS (t:VT):VTT:=fun S Q=>t S fun r S'=>∃k,r=.d (.bl k)/\Q k S'
theorem wj (h:SndE K m te va):SndT K (rm te) (iS va):=fun H0 Z σ H S Q C k t hc=>h H0 Z σ H S _ _ k t fun v H' r S' k' st rr zq1=>by
 obtain ⟨b,e,q⟩:=zq1
 subst e
 cases (show Rep K _ _ H' v (.bl b) from rr)
 exact ⟨b,rfl,hc b H' S' k' st q⟩
theorem FD (h:SndE K m te va):SndT K (tB te) (iS va):=fun H0 Z σ H S Q C k t hc=>h H0 Z σ H S _ _ k t fun v H' r S' k' st rr zq1=>by
 obtain ⟨b,e,q⟩:=zq1
 subst e
 cases (show Rep K _ _ H' v (.bl b) from rr)
 exact ⟨b,rfl,hc b H' S' k' st q⟩
theorem aD {op:CmpOp} {r:R2} {w:D->D->(D->Prop)->Prop} (ho:OpR X (compareOp op) r) (L:dt K r w) (ha:VE K X false a ta va) (hb:VE K X false b tb vb) (hm:behindInMarks op b=false):VTe K X (.Compare a [op] [b] pos) (rm (tOp r ta tb)) (iS (v2 w va vb)):=
 ⟨vN ho ha.pe hb.pe hm,wj (m:=false) (AB L ha.snd hb.snd)⟩
theorem cN {op:CmpOp} {r:R2} {w:D->D->(D->Prop)->Prop} (ho:OpR X (compareOp op) r) (L:dt K r w) (ha:VE K X false a ta va) (hb:VE K X false b tb vb) (hm:behindInMarks op b=false):VE K X m (.Compare a [op] [b] pos) (tOp r ta tb) (v2 w va vb):=
 ⟨vM ho ha.pe hb.pe hm,AB L ha.snd hb.snd⟩
theorem kF (h:VE K X false e te va) (he:∀whole,isTrue e X.env whole=(do let v <- whole;standAt e.pos;holding [v] (truthy v)):=by intro _;rfl):VTe K X e (tB te) (iS va):=⟨zU h.pe he,FD h.snd⟩
noncomputable def tru:D->Option Bool
 | .bl b=>some b
 | .int i=>some (i != 0)
 | .non=>some false
 | .lst ds=>some !ds.isEmpty
 | .tup ds=>some !ds.isEmpty
 | _=>none
section
variable {tA tB':TT} {wA wB:VTT} {rest:List Expr}
noncomputable def C8 (t u:VTT):VTT:=fun S Q=>t S fun c S1=>if c=true then u S1 Q else Q false S1
noncomputable def vOr (t u:VTT):VTT:=fun S Q=>t S fun c S1=>if c=true then Q true S1 else u S1 Q
noncomputable def C9 (t:VTT):VTT:=fun S Q=>t S fun c S1=>Q (!c) S1
theorem kG (h:VTe K X a tA wA):VWe K X (.BoolOp .And [a] pos) tA wA:=⟨vE h.pe,h.snd⟩
theorem iT (h:VTe K X a tA wA):VWe K X (.BoolOp .Or [a] pos) tA wA:=⟨zV h.pe,h.snd⟩
theorem ng (ha:VTe K X a tA wA) (hb:VWe K X (.BoolOp .And (b::rest) pos) tB' wB):VWe K X (.BoolOp .And (a::b::rest) pos) (CI tA tB') (C8 wA wB):=⟨zW ha.pe hb.pe,fun H0 Z σ H S Q C k t hc=>
 ha.snd H0 Z σ H S _ _ k t fun c H1 S1 k1 st1 q=>by
  cases c with
  | true=>rw [if_pos rfl] at q ⊢;exact hb.snd H0 Z σ H1 S1 _ _ k1 q fun c2 H2 S2 k2 st2 q2=>hc c2 H2 S2 k2 (st1.trans st2) q2
  | false=>rw [if_neg Bool.false_ne_true] at q ⊢;exact hc false H1 S1 k1 st1 q⟩
theorem gU (ha:VTe K X a tA wA) (hb:VWe K X (.BoolOp .Or (b::rest) pos) tB' wB):VWe K X (.BoolOp .Or (a::b::rest) pos) (tOr tA tB') (vOr wA wB):=⟨CK ha.pe hb.pe,fun H0 Z σ H S Q C k t hc=>
 ha.snd H0 Z σ H S _ _ k t fun c H1 S1 k1 st1 q=>by
  cases c with
  | false=>rw [if_neg Bool.false_ne_true] at q ⊢;exact hb.snd H0 Z σ H1 S1 _ _ k1 q fun c2 H2 S2 k2 st2 q2=>hc c2 H2 S2 k2 (st1.trans st2) q2
  | true=>rw [if_pos rfl] at q ⊢;exact hc true H1 S1 k1 st1 q⟩
theorem gV (h:VWe K X e tA wA):VTe K X e tA wA:=⟨h.pe.pt,h.snd⟩
theorem nh (h:VTe K X a tA wA):VTe K X (.UnaryOp .Not a pos) (CJ tA) (C9 wA):=⟨zX h.pe,fun H0 Z σ H S Q C k t hc=>h.snd H0 Z σ H S _ _ k t fun c H1 S1 k1 st1 q=>hc (!c) H1 S1 k1 st1 q⟩
noncomputable def yO (ta tb:VT):VT:=fun S Q=>ta S fun r S1=>∃c,r=.d (.bl c)/\if c=true then tb S1 Q else Q (.d (.bl false)) S1
theorem iU {op} (h:VE K X m a ta va):VE K X m (.BoolOp op [a] pos) ta va:=⟨zY h.pe,h.snd⟩
theorem gA (ha:VE K X m a ta va) (hb:VE K X m (.BoolOp .And (b::rest) pos) tb vb):VE K X m (.BoolOp .And (a::b::rest) pos) (yG ta tb) (yO va vb):=⟨zZ ha.pe hb.pe,fun H0 Z σ H S Q C k t hc=>
 ha.snd H0 Z σ H S _ _ k t fun v H1 r S1 k1 st1 rr zq1=>by
  obtain ⟨c,e,q⟩:=zq1
  subst e
  cases (show Rep K _ _ H1 v (.bl c) from rr)
  refine ⟨c,rfl,?_⟩
  cases c with
  | true=>rw [if_pos rfl] at q ⊢;exact hb.snd H0 Z σ H1 S1 _ _ k1 q fun v2 H2 r2 S2 k2 st2 rr2 q2=>hc v2 H2 r2 S2 k2 (st1.trans st2) rr2 q2
  | false=>rw [if_neg Bool.false_ne_true] at q ⊢;exact hc _ H1 (.d (.bl false)) S1 k1 st1 (Rep.bl false) q⟩
noncomputable def vIf (t:VTT) (ta tb:VT):VT:=fun S Q=>t S fun c S1=>if c=true then ta S1 Q else tb S1 Q
theorem rM (hc:VTe K X c tA wA) (ha:VE K X m a ta va) (hb:VE K X m b tb vb):VE K X m (.IfExp c a b pos) (tIf tA ta tb) (vIf wA va vb):=⟨qQ hc.pe ha.pe hb.pe,fun H0 Z σ H S Q C k t hq=>
 hc.snd H0 Z σ H S _ _ k t fun c H1 S1 k1 st1 q=>by
  cases c with
  | true=>rw [if_pos rfl] at q ⊢;exact ha.snd H0 Z σ H1 S1 _ _ k1 q fun v2 H2 r2 S2 k2 st2 rr2 q2=>hq v2 H2 r2 S2 k2 (st1.trans st2) rr2 q2
  | false=>rw [if_neg Bool.false_ne_true] at q ⊢;exact hb.snd H0 Z σ H1 S1 _ _ k1 q fun v2 H2 r2 S2 k2 st2 rr2 q2=>hq v2 H2 r2 S2 k2 (st1.trans st2) rr2 q2⟩
end
noncomputable def vUn (g:Int->V) (va:VT):VT:=fun S Q=>va S fun r S1=>∃i,get S1 r=some (.int i)/\Q (.d (ofV (g i))) S1
theorem b6 {op:UnaryOp} {g:Int->V} (ho:UnR X (unaryOp op) (rU g)) (ha:VE K X false a ta va) (hg:∀i,scV (g i)=true:=by intro _;rfl):VE K X m (.UnaryOp op a pos) (tUn (rU g) ta) (vUn g va):=⟨CS ho ha.pe,fun H0 Z σ H S Q C k t hc=>
 ha.snd H0 Z σ H S _ _ k t fun v H1 r S1 k1 st1 rr zq1=>by
  obtain ⟨i,e,q⟩:=zq1
  cases rr.get k1 e
  exact ⟨i,rfl,hc _ H1 (.d (ofV (g i))) S1 k1 st1 (m9 (hg i)) q⟩⟩
section
variable {es:List Expr} {tr:TA} {vr:VTA}
noncomputable def wm:VTA:=fun S Q=>Q [] S
noncomputable def jO (va:VT) (vr:VTA):VTA:=fun S Q=>va S fun r S1=>vr S1 fun rs S2=>Q (r::rs) S2
theorem af:VA K X m [] pZ wm:=⟨iI,fun _ _ _ _ _ _ _ k h q=>q _ _ _ _ k .refl .nil h⟩
theorem aa (ha:VE K X m e te va) (hr:VA K X m es tr vr) (hs:starEach (e::es) X.env=(false,eval e X.env)::starEach es X.env:=by rfl):VA K X m (e::es) (iH te tr) (jO va vr):=⟨cU ha.pe hr.pe hs,fun H0 Z σ H S Q C k t hc=>
 ha.snd H0 Z σ H S _ _ k t fun v H1 r S1 k1 st1 rr q=>hr.snd H0 Z σ H1 S1 _ _ k1 q fun vs H2 rs S2 k2 st2 rrs q2=>hc (v::vs) H2 (r::rs) S2 k2 (st1.trans st2) (.cons (rr.step st2) rrs) q2⟩
noncomputable def allD:List VR->Option (List D)
 | []=>some []
 | .d x::r=>(allD r).map (x::·)
 | _::_=>none
theorem cK.allD (h:cK K F Z σ S H vs rs) (e:VL.allD rs=some ds):Reps K (NM Z σ S) F H vs ds:=by
 induction h generalizing ds with
 | nil=>cases e;exact .nil
 | @cons v r vs rs h t ih=>
  cases r with
  | d x=>
   obtain ⟨es,h1,rfl⟩:=Option.map_eq_some_iff.mp (show (VL.allD rs).map (x::·)=some ds from e)
   exact .cons h (ih h1)
  | own i=>cases e
theorem cK.length (h:cK K F Z σ S H vs rs):vs.length=rs.length:=by
 induction h with
 | nil=>rfl
 | cons h t ih=>simp [ih]
theorem dZ:∀{rs:List VR} {ds:List D},allD rs=some ds->ds.length=rs.length
 | [],_,e=>by cases e;rfl
 | .d x::r,ds,e=>by
  obtain ⟨es,h1,rfl⟩:=Option.map_eq_some_iff.mp (show (VL.allD r).map (x::·)=some ds from e)
  simp [dZ h1]
 | .own _::_,_,e=>by cases e
noncomputable def Da (vr:VTA):VT:=fun S Q=>vr S fun rs S1=>∃ds,allD rs=some ds/\ds.length<=1000/\Q (.d (.tup ds)) S1
theorem small {n:Nat} (h:n<=1000):n<=sizeLine:=by rw [sizeLine_eq];lia
theorem OK.nm {H0 H:Hp} (k:OK K H0 Z σ H S) {p:Addr} (hp:H p=none):NM Z σ S p:=fun z=>by
 have e:=k.mo z
 rw [hp] at e;exact e
theorem ao {x1} (h:VA K X m es tr vr):VE K X m (.Tuple es x1 pos) (CV tr) (Da vr):=⟨Am h.pe,fun H0 Z σ H S Q C k t hc=>
 h.snd H0 Z σ H S _ _ k t fun vs H1 rs S1 k1 st1 rrs ⟨ds,e,hl,q⟩=>⟨small (by rw [rrs.length,<- dZ e];exact hl),fun p hp=>by
  have g:=aY (o:=.tup vs) hp
  exact hc _ _ (.d (.tup ds)) S1 (k1.grow g) (st1.trans (.grow g)) (Rep.tup (k1.nm hp) (.inl aK) ((rrs.allD e).mono (fun a n e=>⟨n,g a e⟩) fun _ x=>x)) q⟩⟩
noncomputable def Dc (vr:VTA):VTN:=fun S Q=>vr S fun rs S1=>∃ds,allD rs=some ds/\ds.length<=1000/\Q ds S1
theorem bU {H0 H:Hp} {p:Addr} {o:HO} (hp:H p=none) (h:Reps K (NM Z σ S) (FM H0 true) H vs ds):Reps K (fun b=>NM Z σ S b/\b≠p) (Fr H0) (upd H p o) vs ds:=
 h.mono (fun a n e=>⟨⟨n,fun z=>e (by rw [z];exact hp)⟩,aY hp a e⟩) fun _ x=>x rfl
theorem aP (h:VA K X true es tr vr):VN K X (.List es pos) (CW tr) (Dc vr):=⟨An h.pe,fun H0 Z σ H S Q C k t hc=>
 h.snd H0 Z σ H S _ _ k t fun vs H1 rs S1 k1 st1 rrs ⟨ds,e,hl,q⟩=>⟨small (by rw [rrs.length,<- dZ e];exact hl),fun p hp=>
  hc p vs ds H1 _ S1 k1 st1 hp (aY hp) aK (bU hp (rrs.allD e)) q⟩⟩
noncomputable def AF (t:VTN):VT:=fun S Q=>t S fun ds S1=>Q (.d (.lst ds)) S1
theorem aB {t:VTN} (h:VN K X e te t):VE K X m e te (AF t):=⟨h.pe,fun H0 Z σ H S Q C k t hc=>h.snd H0 Z σ H S _ _ k t fun a vs ds H1 H' S1 k1 st1 ha hg hl rr q=>by
 refine hc _ H' (.d (.lst ds)) S1 (k1.grow hg) (st1.trans (.grow hg)) (Rep.lst (k1.nm ha) (fun _=>⟨a,rfl,k1.dom a ha⟩) hl (rr.mono (fun b n e=>⟨n.1,rfl⟩) fun _ x _=>x)) q⟩
end
theorem eX.elems {H0 H:Hp} (h:eX K F Z σ S H v r) (k:OK K H0 Z σ H S) (e:VL.get S r=some (.lst ds)):∃a vs,v=.ref a/\SqL K H a vs/\Reps K (NM Z σ S) AnyF H vs ds:=by
 cases r with
 | d y=>
  cases e
  obtain ⟨a,vs,rfl,hq,rr⟩:=Rep.sqL h
  exact ⟨a,vs,rfl,hq,rr.mono (fun _ n _=>⟨n,rfl⟩) fun _ _=>trivial⟩
 | own i=>
  have h:σ[i]?=some (some v):=h
  have e:getO S[i]?=some (.lst ds):=e
  cases es:S[i]? with
  | none=>rw [es] at e;cases e
  | some s=>
   rw [es] at e
   cases s with
   | no=>cases e
   | val d=>cases e
   | fre d=>cases e
   | own ds=>
    cases e
    obtain ⟨a,vs,h1,h2,h3,h4⟩:=k.at_ i _ _ h es
    cases h1
    exact ⟨a,vs,rfl,.inl (.inl h2),h4.mono (fun _ n _=>⟨n,rfl⟩) fun _ _=>trivial⟩
   | pen ad ns=>
    cases e
    obtain ⟨a,h1,_,h2⟩:=k.at_ i _ _ h es
    cases h1
    exact ⟨a,_,rfl,.inl (.inl h2),Reps.ints⟩
   | odi ks ds=>cases e
   | obj k=>cases e
theorem eX.elemsT {H0 H:Hp} (h:eX K F Z σ S H v r) (k:OK K H0 Z σ H S) (e:VL.get S r=some (.tup ds)):∃a vs,v=.ref a/\SqT K H a vs/\Reps K (NM Z σ S) AnyF H vs ds:=by
 cases r with
 | d y=>
  cases e
  cases (show Rep K (NM Z σ S) F H v (.tup ds) from h) with
  | tup n h2 r2=>exact ⟨_,_,rfl,.inl h2,r2.mono (fun _ n _=>⟨n,rfl⟩) fun _ _=>trivial⟩
  | tupK h2 r2=>exact ⟨_,_,rfl,fB h2,r2.mono (fun _ n _=>⟨n,rfl⟩) fun _ _=>trivial⟩
 | own i=>
  have e:getO S[i]?=some (.tup ds):=e
  cases es:S[i]? with
  | none=>rw [es] at e;cases e
  | some s=>rw [es] at e;cases s <;> cases e
end
end VL
end
section
namespace VL
open PySem L2
section
variable {K:PySem.W.Frag} {X:Cx} {m:Bool} {e a b c:Expr} {ta tb tc te:TE} {va vb vc:VT} {pos:Pos}
theorem fC {N:AP} {i:Int} (r:Reps K N F H vs ds) (h:atI ds i=some d):∃v,atI vs i=some v/\Rep K N F H v d:=by
 unfold atI at h ⊢
 rw [r.length]
 cases e:ixN ds.length i with
 | none=>rw [e] at h;cases h
 | some j=>
  rw [e] at h
  exact r.getD h
noncomputable def vIx (va vb:VT):VT:=fun S Q=>va S fun ra S1=>vb S1 fun rb S2=>∃ds i d,(get S2 ra=some (.lst ds)\/get S2 ra=some (.tup ds))/\get S2 rb=some (.int i)/\atI ds i=some d/\Q (.d d) S2
theorem aq (hK:X.K=K) (ha:VE K X false a ta va) (hb:VE K X false b tb vb) (hs:cV b):VE K X false (.Subscript a b pos) (tOp (rIx K) ta tb) (vIx va vb):=⟨by subst hK;exact lM mY ha.pe hb.pe hs,fun H0 Z σ H S Q C k t hc=>
 ha.snd H0 Z σ H S _ _ k t fun x H1 ra S1 k1 st1 r1 t1=>hb.snd H0 Z σ H1 S1 _ _ k1 t1 fun y H2 rb S2 k2 st2 r2 zq1=>by
  obtain ⟨ds,i,d,e1,e2,e3,q⟩:=zq1
  cases r2.get k2 e2
  have fin:∀v,Rep K (NM Z σ S2) AnyF H2 v d->C v H2:=fun v rv=>hc v H2 (.d d) S2 k2 (st1.trans st2) (show Rep K _ _ H2 v d from rv.mono (fun _ n _=>⟨n,rfl⟩) fun _ _=>FM.any) q
  rcases e1 with e1 | e1
  ·obtain ⟨p,vs,rfl,hq,rr⟩:=(r1.step st2).elems k2 e1
   obtain ⟨v,h1,h2⟩:=fC rr e3
   exact .inl ⟨p,vs,i,v,rfl,rfl,hq,h1,fin v h2⟩
  ·obtain ⟨p,vs,rfl,hq,rr⟩:=(r1.step st2).elemsT k2 e1
   obtain ⟨v,h1,h2⟩:=fC rr e3
   exact .inr (.inl ⟨p,vs,i,v,rfl,rfl,hq,h1,fin v h2⟩)⟩
section
variable {es:List Expr} {tr:TA} {vr:VTA} {x:Str} {p:Pos} {id T:String} {r:List V->Hp->VK->Prop}
noncomputable def vCB (w:List D->(D->Prop)->Prop) (vr:VTA):VT:=fun S Q=>vr S fun rs S1=>∃ds,gets S1 rs=some ds/\w ds fun d=>Q (.d d) S1
noncomputable def gW (K:PySem.W.Frag) (r:List V->Hp->VK->Prop) (w:List D->(D->Prop)->Prop):Prop:=∀(xs:List V) (H:Hp) (ds:List D) (q:D->Prop) (C:VK),Reps K Any AnyF H xs ds->w ds q->(∀z dz,q dz->(∀N F,Rep K N F H z dz)->C z H)->r xs H C
theorem Dd {w:List D->(D->Prop)->Prop} (L:gW K r w) (ha:AA K false tr vr):SndE K m (tCB r tr) (vCB w vr):=fun H0 Z σ H S Q C k t hc=>
 ha H0 Z σ H S _ _ k t fun vs H1 rs S1 k1 st1 rrs zt1=>by obtain ⟨ds,e,q⟩:=zt1;exact L vs H1 ds _ _ (rrs.gets k1 e) q fun z dz q rz=>hc z H1 (.d dz) S1 k1 st1 (rz _ _) q
theorem aO {w:List D->(D->Prop)->Prop} (hc:cI X (.builtin id) r) (L:gW K r w) (hg:Gl X x) (hm:X.mg x=none) (hv:bootBuiltins x=some (.builtin id)) (ha:VA K X false (e::es) tr vr) (hn:x≠"__name__":=by decide) (hdb:(x==("__debug__":Str))=false:=by decide)
  (he:starEach (e::es) X.env=(false,eval e X.env)::starEach es X.env:=by rfl) (hpl:(backTo pos (starEach es X.env)).any (·.1)=false:=by rfl):VE K X m (.Call (.Name x p) (e::es) [] pos) (tCB r tr) (vCB w vr):=⟨iK hc hg hm hv ha.pe hn hdb he hpl,Dd L ha.snd⟩
theorem qb {w:List D->(D->Prop)->Prop} (hc:cI X (.type T) r) (L:gW K r w) (hg:Gl X x) (hm:X.mg x=none) (hv:bootBuiltins x=some (.type T)) (ha:VA K X false (e::es) tr vr) (hn:x≠"__name__":=by decide) (hdb:(x==("__debug__":Str))=false:=by decide)
  (he:starEach (e::es) X.env=(false,eval e X.env)::starEach es X.env:=by rfl) (hpl:(backTo pos (starEach es X.env)).any (·.1)=false:=by rfl):VE K X m (.Call (.Name x p) (e::es) [] pos) (tCB r tr) (vCB w vr):=⟨gu hc hg hm hv ha.pe hn hdb he hpl,Dd L ha.snd⟩
theorem rep1 {N:AP} {xs:List V} (h:Reps K N F H xs [d]):∃v,xs=[v]/\Rep K N F H v d:=by
 cases h with | cons h t=>cases t;exact ⟨_,rfl,h⟩
theorem rep2 {N:AP} {xs:List V} {d d':D} (h:Reps K N F H xs [d,d']):∃v u,xs=[v,u]/\Rep K N F H v d/\Rep K N F H u d':=by
 cases h with | cons h t=>cases t with | cons h' t=>cases t;exact ⟨_,_,rfl,h,h'⟩
noncomputable def AG:List D->(D->Prop)->Prop:=fun ds q=>∃es,(ds=[.lst es]\/ds=[.tup es])/\q (.int es.length)
theorem cC:gW K (fun xs H Q=>∃p ys,xs=[.ref p]/\(SqL K H p ys\/SqT K H p ys)/\Q (.int ys.length) H) AG:=by
 rintro xs H ds q C r ⟨es,rfl | rfl,h⟩ hc
 ·obtain ⟨v,rfl,rv⟩:=rep1 r
  obtain ⟨a,vs,rfl,hq,rr⟩:=rv.sqL
  exact ⟨a,vs,rfl,.inl hq,by rw [rr.length];exact hc _ _ h fun _ _=>.int _⟩
 ·obtain ⟨v,rfl,rv⟩:=rep1 r
  obtain ⟨a,vs,rfl,hq,rr⟩:=rv.sqT
  exact ⟨a,vs,rfl,.inr hq,by rw [rr.length];exact hc _ _ h fun _ _=>.int _⟩
noncomputable def FE:List D->(D->Prop)->Prop:=fun ds q=>(∃i,ds=[.int i]/\q (.int i))\/∃k:Bool,ds=[.bl k]/\q (.int (if k then 1 else 0))
theorem De:gW K (fun xs H Q=>(∃i,xs=[.int i]/\Q (.int i) H)\/∃k,xs=[.bl k]/\Q (.int (if k then 1 else 0)) H) FE:=by
 rintro xs H ds q C r (⟨i,rfl,h⟩ | ⟨i,rfl,h⟩) hc
 ·obtain ⟨v,rfl,rv⟩:=rep1 r
  cases rv
  exact .inl ⟨i,rfl,hc _ _ h fun _ _=>.int _⟩
 ·obtain ⟨v,rfl,rv⟩:=rep1 r
  cases rv
  exact .inr ⟨i,rfl,hc _ _ h fun _ _=>.int _⟩
noncomputable def tyD:D->String
 | .int _=>"int" | .bl _=>"bool" | .non=>"NoneType" | .str _=>"str" | .tup _=>"tuple" | .lst _=>"list" | .ty _=>"type" | .dic _ _=>"dict" | .exc _=>"" | .dib _ _=>"dict"
noncomputable def isE:D->Bool
 | .exc _=>true
 | _=>false
noncomputable def Df:List D->(D->Prop)->Prop:=fun ds q=>∃x c b,ds=[x,.ty c]/\(∀n,x≠.ty n)/\isE x=false/\rD (tyD x) c=some b/\q (.bl b)
theorem Dg:gW K (Ax K) Df:=by
 rintro xs H ds q C r ⟨x,c,b,rfl,hn,hE,e,h⟩ hc
 obtain ⟨v,u,rfl,rv,ru⟩:=rep2 r
 cases ru
 refine ⟨v,tyD x,c,b,rfl,?_,e,hc _ _ h fun _ _=>.bl _⟩
 cases rv with
 | int i=>exact .int i
 | bl i=>exact .bl i
 | non=>exact .non
 | str i=>exact .str i
 | ty i=>exact (hn _ rfl).elim
 | tup n h r=>exact .tup (.inl h)
 | tupK h r=>exact .tup (fB h)
 | lst n f h r=>exact .lst (.inl (.inl h))
 | lstF n f h r=>exact .lst (.inl (.inr ⟨_,h⟩))
 | lstK f h r=>exact .lst (iQ h)
 | dic n f h e _ r=>exact .dE h
 | exc n h e=>cases hE
 | dib n f h e _ _ r=>exact .dE h
theorem cK.one {r:VR} (h:cK K F Z σ S H vs [r]):∃v,vs=[v]/\eX K F Z σ S H v r:=by
 cases h with | cons h t=>cases t;exact ⟨_,rfl,h⟩
noncomputable def oA (vr:VTA):VTN:=fun S Q=>vr S fun rs S1=>∃r ds,rs=[r]/\(get S1 r=some (.lst ds)\/get S1 r=some (.tup ds))/\flats ds=true/\Q ds S1
theorem jP {H0 H:Hp} {p:Addr} {o:HO} (hp:H p=none) (h:Reps K (NM Z σ S) F H vs ds) (f:flats ds=true):Reps K (fun b=>NM Z σ S b/\b≠p) (Fr H0) (upd H p o) vs ds:=
 bU hp (Reps.flat h f)
theorem oB (hK:X.K=K) (hg:Gl X "list") (hm:X.mg "list"=none) (ha:VA K X false [e] tr vr) (he:starEach [e] X.env=[(false,eval e X.env)]:=by rfl) :
  VN K X (.Call (.Name "list" p) [e] [] pos) (tCB (fun xs H Q=>∃p ys,xs=[.ref p]/\(SqL K H p ys\/SqT K H p ys)/\∀l,H l=none->Q (.ref l) (upd H l (.lst ys))) tr) (oA vr):=
 ⟨by subst hK;exact gu kB hg hm vV ha.pe (by decide) (by decide) he rfl,fun H0 Z σ H S Q C k t hc=>ha.snd H0 Z σ H S _ _ k t fun vs H1 rs S1 k1 st1 rrs zq1=>by
  obtain ⟨r,ds,e1,e2,f,q⟩:=zq1
  subst e1
  obtain ⟨v,rfl,rv⟩:=rrs.one
  rcases e2 with e2 | e2
  ·obtain ⟨a,ys,rfl,hq,rr⟩:=rv.elems k1 e2
   exact ⟨a,ys,rfl,.inl hq,fun l hl=>hc l ys ds H1 _ S1 k1 st1 hl (aY hl) aK (jP hl rr f) q⟩
  ·obtain ⟨a,ys,rfl,hq,rr⟩:=rv.elemsT k1 e2
   exact ⟨a,ys,rfl,.inr hq,fun l hl=>hc l ys ds H1 _ S1 k1 st1 hl (aY hl) aK (jP hl rr f) q⟩⟩
noncomputable def rN (vr:VTA):VT:=fun S Q=>vr S fun rs S1=>∃r ds,rs=[r]/\(get S1 r=some (.lst ds)\/r=.d (.tup ds))/\flats ds=true/\Q (.d (.tup ds)) S1
theorem eY (hK:X.K=K) (hg:Gl X "tuple") (hm:X.mg "tuple"=none) (ha:VA K X false [e] tr vr) (he:starEach [e] X.env=[(false,eval e X.env)]:=by rfl) :
  VE K X m (.Call (.Name "tuple" p) [e] [] pos) (tCB (fun xs H Q=>∃p ys,xs=[.ref p]/\((SqL K H p ys/\∀l,H l=none->Q (.ref l) (upd H l (.tup ys)))\/(SqT K H p ys/\Q (.ref p) H))) tr) (rN vr):=
 ⟨by subst hK;exact gu jA hg hm rB ha.pe (by decide) (by decide) he rfl,fun H0 Z σ H S Q C k t hc=>ha.snd H0 Z σ H S _ _ k t fun vs H1 rs S1 k1 st1 rrs zq1=>by
  obtain ⟨r,ds,e1,e2,f,q⟩:=zq1
  subst e1
  obtain ⟨v,rfl,rv⟩:=rrs.one
  rcases e2 with e2 | e2
  ·obtain ⟨a,ys,rfl,hq,rr⟩:=rv.elems k1 e2
   refine ⟨a,ys,rfl,.inl ⟨hq,fun l hl=>?_⟩⟩
   have g:=aY (o:=.tup ys) hl
   exact hc _ _ (.d (.tup ds)) S1 (k1.grow g) (st1.trans (.grow g)) (Rep.tup (k1.nm hl) (.inl aK) ((Reps.flat rr f).mono (fun a n e=>⟨n,g a e⟩) fun _ x=>x)) q
  ·subst e2
   obtain ⟨a,ys,rfl,hq,rr⟩:=Rep.sqT (show Rep K _ _ H1 v (.tup ds) from rv)
   refine ⟨a,ys,rfl,.inr ⟨hq,hc _ _ (.d (.tup ds)) S1 k1 st1 ?_ q⟩⟩
   exact Rep.flat (show Rep K _ _ H1 _ (.tup ds) from rv) (by simpa [flat] using f)⟩
@[reducible] def eT (ms:List Int):D:=.tup (ms.map .int)
@[reducible] def eL (mss:List (List Int)):D:=.lst (mss.map eT)
theorem bu:∀ms:List Int,flats (ms.map D.int)=true
 | []=>rfl
 | _::r=>by simp [flats,flat,bu r]
theorem d0:∀mss:List (List Int),flats (mss.map eT)=true
 | []=>rfl
 | _::r=>by simp [flats,eT,flat,bu,d0 r]
theorem jQ {N:AP}:∀{vs:List V} {mss:List (List Int)},Reps K N F H vs (mss.map eT)->∃ps,vs=ps.map V.ref/\iM K H ps mss/\(∀p∈ps,H p=none->N p->False\/True)
 | _,[],.nil=>⟨[],rfl,.nil,fun _ h=>nomatch h⟩
 | _,ms::r,.cons h t=>by
  obtain ⟨ps,rfl,h1,h2⟩:=jQ t
  obtain ⟨a,vs,rfl,hq,rr⟩:=Rep.sqT h
  cases Reps.toInts rr
  exact ⟨a::ps,rfl,.cons hq h1,fun _ _ _ _=>.inr trivial⟩
theorem fD {N:AP} (hN:∀p vs,Rd H p (.tup vs)->N p):∀{ps:List Addr} {mss:List (List Int)},iM K H ps mss->Reps K N F H (ps.map V.ref) (mss.map eT)
 | _,_,.nil=>.nil
 | _,_,.cons h t=>by
  refine .cons ?_ (fD hN t)
  rcases h with h | h
  ·exact .tup (hN _ _ h) h Reps.ints
  ·exact .tupK (.inr h) Reps.ints
theorem OK.tupN {H0 H:Hp} (k:OK K H0 Z σ H S):∀p vs,Rd H p (.tup vs)->NM Z σ S p:=fun p vs h z=>by
 have e:=k.mo z
 rcases h with h | ⟨o,h⟩ <;> rw [h] at e <;> exact e
end
noncomputable def spP (K:PySem.W.Frag) (p:List D->(D->Prop)->Prop):Sp:=fun vs H Q _=>∃ds R,Reps K Any AnyF H vs ds/\p ds R/\∀d v H',R d->(∀a,H a≠none->H' a=H a)->Rep K Any (Fr H) H' v d->Q v H'
noncomputable def spI (K:PySem.W.Frag) (j:Nat) (p:List Int->List D->(D->List Int->Prop)->Prop):Sp:=fun vs H Q _=>∃a ws us ns ds es R,vs=ws++.ref a::us/\ws.length=j/\H a=some (.lst (ns.map .int))/\Reps K (·≠a) AnyF H ws ds/\Reps K (·≠a) AnyF H us es/\p ns (ds++es) R /\
 ∀d ns' v H',R d ns'->(∀b,b≠a->H b≠none->H' b=H b)->H' a=some (.lst (ns'.map .int))->Rep K (·≠a) (Fr H) H' v d->Q v H'
section
variable {es:List Expr} {tr:TA} {vr:VTA} {x:Str} {p0:Pos} {j k:Nat} {ps:List Str}
noncomputable def vFn (p:List D->(D->Prop)->Prop) (vr:VTA):VT:=fun S Q=>vr S fun rs S1=>∃ds,gets S1 rs=some ds/\p ds fun d=>Q (.d d) S1
noncomputable def Dh (p:List D->(D->Prop)->Prop) (vr:VTA):VTN:=fun S Q=>vr S fun rs S1=>∃ds,gets S1 rs=some ds/\p ds fun d=>∃es,d=.lst es/\flats es=true/\Q es S1
theorem bz (E:Has X.prog X.w X.K X.mg X.base k x ps (spP K p)) (hr:bY j X.A) (ha:VA K X false (e::es) tr vr)
  (hk:k<=j:=by decide) (hg:Gl X x:=by rfl) (hdb:(x==("__debug__":Str))=false:=by decide) (he:starEach (e::es) X.env=(false,eval e X.env)::starEach es X.env:=by rfl)
  (hpl:(backTo pos (starEach es X.env)).any (·.1)=false:=by rfl):VE K X m (.Call (.Name x p0) (e::es) [] pos) (gS (spP K p) [] E0 tr) (vFn p vr):=⟨jJ E hr ha.pe hk hg hdb he hpl,fun H0 Z σ H S Q C k t hc=>
 ha.snd H0 Z σ H S _ _ k t fun vs H1 rs S1 k1 st1 rrs zq1=>by
  obtain ⟨ds,e,q⟩:=zq1
  refine ⟨ds,_,by rw [List.append_nil];exact rrs.gets k1 e,q,fun d v H' q g r=>?_⟩
  refine hc v H' (.d d) S1 (k1.grow g) (st1.trans (.grow g)) (show Rep K _ _ H' v d from ?_) q
  refine (Rep.avoid (N':=NM Z σ S1) (fun a z=>?_) (fun a zq1=>by obtain ⟨b,e,f⟩:=zq1;cases e;exact k1.nm f) r).mono (fun _ n _=>⟨n,rfl⟩) (fun o zt1 _=>by obtain ⟨b,e,f⟩:=zt1;exact ⟨b,e,k1.dom b f⟩)
  have e:=k1.mo (Classical.not_not.mp z)
  rw [g a e.ne];exact e⟩
theorem Di (E:Has X.prog X.w X.K X.mg X.base k x ps (spP K p)) (hr:bY j X.A) (ha:VA K X false (e::es) tr vr)
  (hk:k<=j:=by decide) (hg:Gl X x:=by rfl) (hdb:(x==("__debug__":Str))=false:=by decide) (he:starEach (e::es) X.env=(false,eval e X.env)::starEach es X.env:=by rfl)
  (hpl:(backTo pos (starEach es X.env)).any (·.1)=false:=by rfl):VN K X (.Call (.Name x p0) (e::es) [] pos) (gS (spP K p) [] E0 tr) (Dh p vr):=⟨jJ E hr ha.pe hk hg hdb he hpl,fun H0 Z σ H S Q C k t hc=>
 ha.snd H0 Z σ H S _ _ k t fun vs H1 rs S1 k1 st1 rrs zq1=>by
  obtain ⟨ds,e,q⟩:=zq1
  refine ⟨ds,_,by rw [List.append_nil];exact rrs.gets k1 e,q,fun d v H' ⟨es,ed,hf,q⟩ g r=>?_⟩
  subst ed
  have r2:=Rep.avoid (N':=NM Z σ S1) (fun a z=>by
   have e:=k1.mo (Classical.not_not.mp z)
   rw [g a e.ne];exact e) (fun a zq1=>by obtain ⟨b,e,f⟩:=zq1;cases e;exact k1.nm f) r
  cases r2 with
  | @lst a ws _ n f h rs=>
   obtain ⟨b,e,f⟩:=f
   cases e
   refine hc a ws es H1 H' S1 k1 st1 f g h ?_ q
   refine (Reps.avoid (N':=fun b=>NM Z σ S1 b/\b≠a) (fun b z=>?_) (fun b fb=>fb.elim) (Reps.flat (F':=fun _=>False) rs hf)).mono (fun _ n _=>⟨n,rfl⟩) (fun o f=>f.elim)
   by_cases hb:b=a
   ·subst hb;rw [h];trivial
   ·have e:=k1.mo (Classical.byContradiction fun y=>z ⟨y,hb⟩)
    rw [g b e.ne];exact e
  | lstF n f h rs=>obtain ⟨b,e,f⟩:=f;cases e
  | lstK f h rs=>obtain ⟨b,e,f⟩:=f;cases e⟩
end
end
end VL
end
section
namespace VL
open PySem L2
section
variable {K:PySem.W.Frag} {H H' H0:Hp} {Z:AP} {σ:St} {S:List Sl}
theorem OK.put (k:OK K H0 Z σ H S) {i:Nat} {o:Option V} {s:Sl} (hi:i < S.length)
  (hN:∀a,NM Z σ S a->H a≠none->NM Z (σ.set i o) (S.set i s) a/\H' a=H a)
  (hM:∀j s',j≠i->S[j]?=some s'->s'.mut=true->∀a,σ[j]?=some (some (V.ref a))->H' a=H a)
  (hs:qa K H0 (NM Z (σ.set i o) (S.set i s)) H' o s)
  (hj:∀j a t,j≠i->S[j]?=some t->t.mut=true->s.mut=true->o=some (V.ref a)->σ[j]?≠some (some (V.ref a)))
  (hd:∀a,H' a=none->H a=none) (hz:∀a,Z a->IsM (H' a)) (hnz:∀a,s.mut=true->o=some (V.ref a)->¬Z a):OK K H0 Z (σ.set i o) H' (S.set i s) where
 len:=by simp [k.len]
 dom:=fun a e=>k.dom a (hd a e)
 zl:=hz
 nz:=fun j t a h1 h2 h3=>by
  have hi':i < σ.length:=by rw [k.len];exact hi
  by_cases hji:i=j
  ·subst hji
   rw [List.getElem?_set_self hi] at h1
   rw [List.getElem?_set_self hi'] at h3
   cases h1
   exact hnz a h2 (Option.some.inj h3)
  ·rw [List.getElem?_set_ne hji] at h1 h3
   exact k.nz j t a h1 h2 h3
 inj:=fun a b c t u h1 h2 m1 m2 h3 h4=>by
  have hi':i < σ.length:=by rw [k.len];exact hi
  by_cases ha:i=a
  ·by_cases hb:i=b
   ·lia
   ·subst ha
    rw [List.getElem?_set_self hi] at h1
    rw [List.getElem?_set_self hi'] at h3
    rw [List.getElem?_set_ne hb] at h2 h4
    cases h1
    exact (hj b c u (fun z=>hb z.symm) h2 m2 m1 (Option.some.inj h3) h4).elim
  ·by_cases hb:i=b
   ·subst hb
    rw [List.getElem?_set_self hi] at h2
    rw [List.getElem?_set_self hi'] at h4
    rw [List.getElem?_set_ne ha] at h1 h3
    cases h2
    exact (hj a c t (fun z=>ha z.symm) h1 m1 m2 (Option.some.inj h4) h3).elim
   ·rw [List.getElem?_set_ne ha] at h1 h3
    rw [List.getElem?_set_ne hb] at h2 h4
    exact k.inj a b c t u h1 h2 m1 m2 h3 h4
 at_:=fun j o' s' h1 h2=>by
  have hi':i < σ.length:=by rw [k.len];exact hi
  by_cases hji:i=j
  ·subst hji
   rw [List.getElem?_set_self hi'] at h1
   rw [List.getElem?_set_self hi] at h2
   cases h1;cases h2
   exact hs
  ·rw [List.getElem?_set_ne hji] at h1 h2
   have q:=k.at_ j o' s' h1 h2
   cases s' with
   | no=>trivial
   | val d=>obtain ⟨v,e,r⟩:=q;exact ⟨v,e,r.mono hN fun _ x=>x⟩
   | fre d=>obtain ⟨v,e,r⟩:=q;exact ⟨v,e,r.mono hN fun _ x=>x⟩
   | own ds=>
    obtain ⟨a,vs,e,e',e0,r⟩:=q
    exact ⟨a,vs,e,by rw [hM j _ (fun z=>hji z.symm) h2 rfl a (by rw [h1,e])];exact e',e0,r.mono hN fun _ x=>x⟩
   | pen ad ns=>
    obtain ⟨a,e,e1,e'⟩:=q
    exact ⟨a,e,e1,by rw [hM j _ (fun z=>hji z.symm) h2 rfl a (by rw [h1,e])];exact e'⟩
   | odi ks ds=>
    obtain ⟨a,vs,e,e',e0,ek,r⟩:=q
    exact ⟨a,vs,e,by rw [hM j _ (fun z=>hji z.symm) h2 rfl a (by rw [h1,e])];exact e',e0,⟨ek.1,ek.2.mono hN fun _ x=>x⟩,r.mono hN fun _ x=>x⟩
   | obj k=>
    obtain ⟨a,e,e0,r⟩:=q
    exact ⟨a,e,e0,k.mono hN (hM j _ (fun z=>hji z.symm) h2 rfl a (by rw [h1,e])) r⟩
theorem kH {i:Nat} {o:Option V} {s:Sl} {a:Addr} (h:Mo Z (σ.set i o) (S.set i s) a):Mo Z σ S a\/(s.mut=true/\o=some (V.ref a)):=by
 rcases h with ⟨j,t,h1,h2,h3⟩ | h
 ·by_cases hji:i=j
  ·subst hji
   have l1:=(List.getElem?_eq_some_iff.mp h1).1
   have l2:=(List.getElem?_eq_some_iff.mp h3).1
   rw [List.length_set] at l1 l2
   rw [List.getElem?_set_self l1] at h1
   rw [List.getElem?_set_self l2] at h3
   cases h1
   exact .inr ⟨h2,Option.some.inj h3⟩
  ·rw [List.getElem?_set_ne hji] at h1 h3
   exact .inl (.inl ⟨j,t,h1,h2,h3⟩)
 ·exact .inl (.inr h)
theorem OK.setVal (k:OK K H0 Z σ H S) {i:Nat} (hi:i < S.length) (h:Rep K (NM Z σ S) AnyF H v d):OK K H0 Z (σ.set i (some v)) H (S.set i (.val d))/\Step Z σ S H (σ.set i (some v)) (S.set i (.val d)) H:=by
 have n:∀a,NM Z σ S a->NM Z (σ.set i (some v)) (S.set i (.val d)) a:=fun a x z=>by
  rcases kH z with z | ⟨z,_⟩
  ·exact x z
  ·cases z
 exact ⟨k.put hi (fun a x _=>⟨n a x,rfl⟩) (fun _ _ _ _ _ _ _=>rfl) ⟨v,rfl,h.mono (fun a x _=>⟨n a x,rfl⟩) fun _ x=>x⟩ (fun _ _ _ _ _ _ z=>nomatch z) (fun _ e=>e) k.zl (fun _ z=>nomatch z),fun a x _=>⟨rfl,n a x⟩,fun _ e=>e,fun _ _ _=>rfl⟩
theorem OK.setNew (k:OK K H0 Z σ H S) {i:Nat} {a:Addr} {s:Sl} (hi:i < S.length) (ha:H a=none) (hg:∀b,H b≠none->H' b=H b) (hs:qa K H0 (fun b=>NM Z σ S b/\b≠a) H' (some (.ref a)) s) (hm:s.mut=true) :
  OK K H0 Z (σ.set i (some (.ref a))) H' (S.set i s)/\Step Z σ S H (σ.set i (some (.ref a))) (S.set i s) H':=by
 have n:∀b,NM Z σ S b/\b≠a->NM Z (σ.set i (some (.ref a))) (S.set i s) b:=fun b x z=>by
  rcases kH z with z | ⟨_,z⟩
  ·exact x.1 z
  ·cases z;exact x.2 rfl
 have n':∀b,NM Z σ S b->H b≠none->NM Z (σ.set i (some (.ref a))) (S.set i s) b:=fun b x e=>n b ⟨x,fun z=>e (by rw [z];exact ha)⟩
 refine ⟨k.put hi (fun b x e=>⟨n' b x e,hg b e⟩) (fun j s' hj h1 h2 b h3=>?_) ?_ (fun j b t hj h1 h2 h3 h4 h5=>?_) (fun b e=>Classical.byContradiction fun z=>by rw [hg b z] at e;exact z e) (fun b z=>?_) (fun b h1 h2 z=>?_),fun b x e=>⟨hg b e,n' b x e⟩,fun b e=>Classical.byContradiction fun z=>by rw [hg b z] at e;exact z e,fun b z e=>hg b e⟩
 ·have e:=k.mo (.inl ⟨j,s',h1,h2,h3⟩)
  exact hg b e.ne
 ·cases s with
  | no=>trivial
  | val d=>cases hm
  | fre d=>cases hm
  | own ds=>obtain ⟨b,vs,e,e',e0,r⟩:=hs;exact ⟨b,vs,e,e',e0,r.mono (fun c x _=>⟨n c x,rfl⟩) fun _ x=>x⟩
  | pen ad ns=>exact hs
  | obj k=>obtain ⟨b,e,e0,r⟩:=hs;exact ⟨b,e,e0,k.mono (fun c x _=>⟨n c x,rfl⟩) rfl r⟩
  | odi ks ds=>obtain ⟨b,vs,e,e',e0,ek,r⟩:=hs;exact ⟨b,vs,e,e',e0,⟨ek.1,ek.2.mono (fun c x _=>⟨n c x,rfl⟩) fun _ x=>x⟩,r.mono (fun c x _=>⟨n c x,rfl⟩) fun _ x=>x⟩
 ·cases h4
  have e:=k.mo (.inl ⟨j,t,h1,h2,h5⟩)
  rw [ha] at e;exact e
 ·have e:=k.zl b z
  rw [hg b e.ne];exact e
 ·cases h2
  have e:=k.zl _ z
  rw [ha] at e;exact e
theorem rO {α:Type} {l:List α} {i:Nat} {o:α} (h:l[i]?=some o):l.set i o=l:=by
 obtain ⟨h1,rfl⟩:=List.getElem?_eq_some_iff.mp h
 exact List.set_getElem_self h1
theorem OK.chgD (k:OK K H0 Z σ H S) {i:Nat} {a:Addr} {s₀ s:Sl} {o:HO} (h1:S[i]?=some s₀) (h2:s₀.mut=true) (h3:σ[i]?=some (some (.ref a))) (hm:s.mut=true) (hs:qa K H0 (NM Z σ S) (upd H a o) (some (.ref a)) s) :
  OK K H0 Z σ (upd H a o) (S.set i s)/\Step Z σ S H σ (S.set i s) (upd H a o):=by
 have hi:i < S.length:=(List.getElem?_eq_some_iff.mp h1).1
 have ma:Mo Z σ S a:=.inl ⟨i,s₀,h1,h2,h3⟩
 have ea:=k.mo ma
 have hza:¬Z a:=k.nz i s₀ a h1 h2 h3
 have e3:=rO h3
 have n:∀b,NM Z σ S b->NM Z σ (S.set i s) b:=fun b x z=>by
  rw [<- e3] at z
  rcases kH z with z | ⟨_,z⟩
  ·exact x z
  ·cases z;exact x ma
 have ne:∀b,NM Z σ S b->b≠a:=fun b x z=>x (by rw [z];exact ma)
 have q:=k.put (H':=upd H a o) (i:=i) (o:=some (.ref a)) (s:=s) hi (fun b x e=>⟨by rw [e3];exact n b x,aL (ne b x)⟩) (fun j s' hj g1 g2 b g3=>aL fun z=>hj (by subst z;exact k.inj j i b s' s₀ g1 h1 g2 h2 g3 h3)) (by
  rw [e3]
  cases s with
  | no=>trivial
  | val d=>cases hm
  | fre d=>cases hm
  | own ds=>obtain ⟨b,vs,e,e',e0,r⟩:=hs;exact ⟨b,vs,e,e',e0,r.mono (fun c x _=>⟨n c x,rfl⟩) fun _ x=>x⟩
  | pen ad ns=>exact hs
  | obj k=>obtain ⟨b,e,e0,r⟩:=hs;exact ⟨b,e,e0,k.mono (fun c x _=>⟨n c x,rfl⟩) rfl r⟩
  | odi ks ds=>obtain ⟨b,vs,e,e',e0,ek,r⟩:=hs;exact ⟨b,vs,e,e',e0,⟨ek.1,ek.2.mono (fun c x _=>⟨n c x,rfl⟩) fun _ x=>x⟩,r.mono (fun c x _=>⟨n c x,rfl⟩) fun _ x=>x⟩) (fun j b t hj g1 g2 g3 g4 g5=>by
   cases g4
   exact hj (k.inj j i a t s₀ g1 h1 g2 h2 g5 h3)) (fun b e=>by
   by_cases hb:b=a
   ·subst hb;rw [aK] at e;cases e
   ·rw [aL hb] at e;exact e) (fun b z=>by
   by_cases hb:b=a
   ·subst hb;exact (hza z).elim
   ·have e:=k.zl b z
    rw [aL hb];exact e) (fun b _ e=>by cases e;exact hza)
 rw [e3] at q
 refine ⟨q,fun b x e=>⟨aL (ne b x),n b x⟩,fun b e=>?_,fun b z e=>aL fun y=>hza (by rw [<- y];exact z)⟩
 by_cases hb:b=a
 ·subst hb;rw [aK] at e;cases e
 ·rw [aL hb] at e;exact e
theorem OK.chg (k:OK K H0 Z σ H S) {i:Nat} {a:Addr} {s₀ s:Sl} {o:HO} (h1:S[i]?=some s₀) (h2:s₀.mut=true) (h3:σ[i]?=some (some (.ref a))) (ho:∃us,o=.lst us) (hm:s.mut=true) (hs:qa K H0 (NM Z σ S) (upd H a o) (some (.ref a)) s) :
  OK K H0 Z σ (upd H a o) (S.set i s)/\Step Z σ S H σ (S.set i s) (upd H a o):=k.chgD h1 h2 h3 hm hs
end
structure bh where
 nx:List Sl->Prop
 rt:D->List Sl->Prop
 bk:List Sl->Prop:=fun _=>False
 ct:List Sl->Prop:=fun _=>False
noncomputable abbrev VTS:=bh->List Sl->Prop
noncomputable def NP (σ:St) (S:List Sl):AP:=fun a=>∀(i:Nat) (ad:Option Addr) (ns:List Int),S[i]?=some (.pen ad ns)->σ[i]?≠some (some (V.ref a))
structure Lf (K:PySem.W.Frag) (H0:Hp) (Z:AP) (σ:St) (S:List Sl) (H:Hp) (V:bh) (E:Ends):Prop where
 nx:∀ σ' H' S',OK K H0 Z σ' H' S'->Step Z σ S H σ' S' H'->V.nx S'->E.nx σ' H'
 bk:∀ σ' H' S',OK K H0 Z σ' H' S'->Step Z σ S H σ' S' H'->V.bk S'->E.bk σ' H'
 ct:∀ σ' H' S',OK K H0 Z σ' H' S'->Step Z σ S H σ' S' H'->V.ct S'->E.ct σ' H'
 rt:∀v d σ' H' S',OK K H0 Z σ' H' S'->Step Z σ S H σ' S' H'->Rep K (NP σ' S') (Fr H0) H' v d->V.rt d S'->E.rt v H'
theorem Lf.step {H0 H H1:Hp} {σ σ1:St} {S S1:List Sl} {V:bh} {E:Ends} (l:Lf K H0 Z σ S H V E) (st:Step Z σ S H σ1 S1 H1):Lf K H0 Z σ1 S1 H1 V E:=
 ⟨fun _ _ _ k s=>l.nx _ _ _ k (st.trans s),fun _ _ _ k s=>l.bk _ _ _ k (st.trans s),fun _ _ _ k s=>l.ct _ _ _ k (st.trans s),fun _ _ _ _ _ k s=>l.rt _ _ _ _ _ k (st.trans s)⟩
noncomputable def AH (K:PySem.W.Frag) (ts:TS) (t:VTS):Prop:=∀H0 Z σ H S V E,OK K H0 Z σ H S->t V S->Lf K H0 Z σ S H V E->ts E σ H
structure VS (K:PySem.W.Frag) (X:Cx) (st:Stmt) (ts:TS) (t:VTS):Prop where
 ps:PS X st ts
 snd:AH K ts t
structure VSs (K:PySem.W.Frag) (X:Cx) (st:List Stmt) (ts:TS) (t:VTS):Prop where
 ps:PSs X st ts
 snd:AH K ts t
inductive Wk:List Sl->List Sl->Prop where
 | nil:Wk [] []
 | keep {s:Sl} {S S':List Sl}:Wk S S'->Wk (s::S) (s::S')
 | fz {ds:List D} {S S':List Sl}:Wk S S'->Wk (.own ds::S) (.val (.lst ds)::S')
 | fd {ks:List (List Int)} {ds:List D} {S S':List Sl}:Wk S S'->Wk (.odi ks ds::S) (.val (.dic ks ds)::S')
 | drop {s:Sl} {S S':List Sl}:Wk S S'->Wk (s::S) (.no::S')
theorem Wk.refl:∀S,Wk S S
 | []=>.nil
 | _::r=>.keep (Wk.refl r)
theorem Wk.len {S S':List Sl} (h:Wk S S'):S.length=S'.length:=by induction h <;> simp_all
theorem Wk.at_ {S S':List Sl} (h:Wk S S'):∀{i:Nat} {s:Sl},S'[i]?=some s->∃s₀,S[i]?=some s₀/\(s=s₀\/s=.no\/(∃ds,s₀=.own ds/\s=.val (.lst ds))\/∃ks ds,s₀=.odi ks ds/\s=.val (.dic ks ds)):=by
 induction h with
 | nil=>intro i s h;simp at h
 | keep h ih=>
  intro i s e
  cases i with
  | zero=>simp at e;subst e;exact ⟨_,rfl,.inl rfl⟩
  | succ i=>simpa using ih (i:=i) (by simpa using e)
 | fz h ih=>
  intro i s e
  cases i with
  | zero=>simp at e;subst e;exact ⟨_,rfl,.inr (.inr (.inl ⟨_,rfl,rfl⟩))⟩
  | succ i=>simpa using ih (i:=i) (by simpa using e)
 | fd h ih=>
  intro i s e
  cases i with
  | zero=>simp at e;subst e;exact ⟨_,rfl,.inr (.inr (.inr ⟨_,_,rfl,rfl⟩))⟩
  | succ i=>simpa using ih (i:=i) (by simpa using e)
 | drop h ih=>
  intro i s e
  cases i with
  | zero=>simp at e;subst e;exact ⟨_,rfl,.inr (.inl rfl)⟩
  | succ i=>simpa using ih (i:=i) (by simpa using e)
theorem Wk.mut {S S':List Sl} (h:Wk S S') {i:Nat} {s:Sl} (e:S'[i]?=some s) (m:s.mut=true):S[i]?=some s:=by
 obtain ⟨s₀,h1,rfl | rfl | ⟨ds,rfl,rfl⟩ | ⟨ks,ds,rfl,rfl⟩⟩:=h.at_ e
 ·exact h1
 ·cases m
 ·cases m
 ·cases m
theorem OK.wk {H H0:Hp} {S S':List Sl} (k:OK K H0 Z σ H S) (w:Wk S S'):OK K H0 Z σ H S'/\Step Z σ S H σ S' H:=by
 have n:∀a,NM Z σ S a->NM Z σ S' a:=fun a x z=>by
  rcases z with ⟨i,s,h1,h2,h3⟩ | z
  ·exact x (.inl ⟨i,s,w.mut h1 h2,h2,h3⟩)
  ·exact x (.inr z)
 refine ⟨⟨by rw [k.len,w.len],fun i o s h1 h2=>?_,fun i j a s t h1 h2 m1 m2 h3 h4=>k.inj i j a s t (w.mut h1 m1) (w.mut h2 m2) m1 m2 h3 h4,k.dom,k.zl,fun i s a h1 m h3=>k.nz i s a (w.mut h1 m) m h3⟩,fun a x _=>⟨rfl,n a x⟩,fun _ e=>e,fun _ _ _=>rfl⟩
 obtain ⟨s₀,e,rfl | rfl | ⟨ds,rfl,rfl⟩ | ⟨ks,ds,rfl,rfl⟩⟩:=w.at_ h2
 ·have q:=k.at_ i o s h1 e
  cases s with
  | no=>trivial
  | val d=>obtain ⟨v,e,r⟩:=q;exact ⟨v,e,r.mono (fun a x _=>⟨n a x,rfl⟩) fun _ x=>x⟩
  | fre d=>obtain ⟨v,e,r⟩:=q;exact ⟨v,e,r.mono (fun a x _=>⟨n a x,rfl⟩) fun _ x=>x⟩
  | own ds=>obtain ⟨a,vs,e,e',e0,r⟩:=q;exact ⟨a,vs,e,e',e0,r.mono (fun a x _=>⟨n a x,rfl⟩) fun _ x=>x⟩
  | pen ad ns=>exact q
  | odi ks ds=>obtain ⟨a,vs,e,e',e0,ek,r⟩:=q;exact ⟨a,vs,e,e',e0,⟨ek.1,ek.2.mono (fun a x _=>⟨n a x,rfl⟩) fun _ x=>x⟩,r.mono (fun a x _=>⟨n a x,rfl⟩) fun _ x=>x⟩
  | obj k=>obtain ⟨a,e,e0,r⟩:=q;exact ⟨a,e,e0,k.mono (fun a x _=>⟨n a x,rfl⟩) rfl r⟩
 ·trivial
 ·obtain ⟨a,vs,e1,e2,e3,r⟩:=k.at_ i o _ h1 e
  subst e1
  refine ⟨.ref a,rfl,.lst ?_ trivial e2 (r.mono (fun a x _=>⟨n a x,rfl⟩) fun _ _=>trivial)⟩
  intro z
  rcases z with ⟨j,s,g1,g2,g3⟩ | z
  ·have:=k.inj i j a _ s e (w.mut g1 g2) rfl g2 h1 g3
   subst this
   rw [h2] at g1;cases g1;cases g2
  ·exact k.nz i _ a e rfl h1 z
 ·obtain ⟨a,vs,e1,⟨ob,e2⟩,e3,ek,r⟩:=k.at_ i o _ h1 e
  subst e1
  refine ⟨.ref a,rfl,.dic ?_ trivial e2 ek.1 (ek.2.mono (fun a x _=>⟨n a x,rfl⟩) fun _ _=>trivial) (r.mono (fun a x _=>⟨n a x,rfl⟩) fun _ _=>trivial)⟩
  intro z
  rcases z with ⟨j,s,g1,g2,g3⟩ | z
  ·have:=k.inj i j a _ s e (w.mut g1 g2) rfl g2 h1 g3
   subst this
   rw [h2] at g1;cases g1;cases g2
  ·exact k.nz i _ a e rfl h1 z
section
variable {K:PySem.W.Frag} {X:Cx} {m:Bool} {e a b c:Expr} {ta tb tc te:TE} {va vb vc:VT} {pos:Pos} {st:Stmt} {rest:List Stmt} {t u:TS} {v w:VTS}
noncomputable def yP:VTS:=fun V S=>V.nx S
noncomputable def wq (t u:VTS):VTS:=fun V S=>t { V with nx:=fun S'=>∃S'',Wk S' S''/\u V S'' } S
theorem aE:VSs K X [] yH yP:=⟨vF,fun H0 Z σ H S V E k h l=>l.nx σ H S k .refl h⟩
theorem ai (h:VS K X st t v):VSs K X [st] t v:=⟨vG h.ps,h.snd⟩
theorem ah (h1:VS K X st t v) (h2:VSs K X rest u w):VSs K X (st::rest) (CL t u) (wq v w):=⟨qR h1.ps h2.ps,fun H0 Z σ H S V E k h l=>
 h1.snd H0 Z σ H S _ _ k h ⟨fun σ' H' S' k' st zt1=>by obtain ⟨S'',wk,q⟩:=zt1;exact h2.snd H0 Z σ' H' S'' V E (k'.wk wk).1 q (l.step (st.trans (k'.wk wk).2)),l.bk,l.ct,l.rt⟩⟩
noncomputable def AI:VTS:=fun _ _=>False
theorem rP:VS K X st qS AI:=⟨qT,fun _ _ _ _ _ _ _ _ h _=>h.elim⟩
noncomputable def yQ (va:VT):VTS:=fun V S=>va S fun _ S1=>V.nx S1
theorem dI (h:VE K X false e te va) (hs:swapsWith e none pos.line X.env=pure false:=by rfl):VS K X (.Expr e pos) (yI te) (yQ va):=⟨vH h.pe hs,fun H0 Z σ H S V E k t l=>h.snd H0 Z σ H S _ _ k t fun v H' r S' k' st _ q=>l.nx σ H' S' k' st q⟩
noncomputable def retO:Option Sl->Option D
 | some (.own ds)=>some (.lst ds)
 | some (.odi ks ds)=>some (.dic ks ds)
 | _=>none
noncomputable def retD (S:List Sl):VR->Option D
 | .d x=>some x
 | .own i=>retO S[i]?
noncomputable def Dj (va:VT):VTS:=fun V S=>va S fun r S1=>∃d,retD S1 r=some d/\V.rt d S1
theorem OK.ret {H0 H:Hp} {v:V} (k:OK K H0 Z σ H S) (h:eX K (FM H0 true) Z σ S H v r) (e:retD S r=some d):Rep K (NP σ S) (Fr H0) H v d:=by
 have np:∀a,NM Z σ S a->NP σ S a:=fun a n i ad ns h1 h2=>n (.inl ⟨i,_,h1,rfl,h2⟩)
 cases r with
 | d x=>cases e;exact Rep.mono (fun a n _=>⟨np a n,rfl⟩) (fun _ x=>x rfl) h
 | own i=>
  have h:σ[i]?=some (some v):=h
  have e:retO S[i]?=some d:=e
  cases es:S[i]? with
  | none=>rw [es] at e;cases e
  | some s=>
   rw [es] at e
   cases s with
   | fre d=>cases e
   | own ds=>
    cases e
    obtain ⟨a,vs,h1,h2,h3,h4⟩:=k.at_ _ _ _ h es
    cases h1
    refine .lst (fun i2 ad ns g1 g2=>?_) ⟨a,rfl,h3⟩ h2 (h4.mono (fun a n _=>⟨np a n,rfl⟩) fun _ x=>x)
    have:=k.inj _ _ a _ _ es g1 rfl rfl h g2
    subst this
    rw [es] at g1;cases g1
   | odi ks ds=>
    cases e
    obtain ⟨a,vs,h1,⟨ob,h2⟩,h3,hk,h4⟩:=k.at_ _ _ _ h es
    cases h1
    refine .dic (fun i2 ad ns g1 g2=>?_) ⟨a,rfl,h3⟩ h2 hk.1 (Reps.flat (hk.2.mono (fun a n _=>⟨np a n,rfl⟩) fun _ x=>x) (iP _)) (h4.mono (fun a n _=>⟨np a n,rfl⟩) fun _ x=>x)
    have:=k.inj _ _ a _ _ es g1 rfl rfl h g2
    subst this
    rw [es] at g1;cases g1
   | no=>cases e
   | val x=>cases e
   | pen a b=>cases e
   | obj k=>cases e
theorem aw (h:VE K X true e te va):VS K X (.Return (some e) pos) (CM te) (Dj va):=⟨Aa h.pe,fun H0 Z σ H S V E k t l=>h.snd H0 Z σ H S _ _ k t fun v H' r S' k' st rr zt1=>by obtain ⟨d,e,q⟩:=zt1;exact l.rt v d σ H' S' k' st (k'.ret rr e) q⟩
noncomputable def Dk (c:VTT) (t u:VTS):VTS:=fun V S=>c S fun b S1=>if b=true then t V S1 else u V S1
theorem aQ {A B:List Stmt} {tA:TT} {wA:VTT} (hc:VTe K X c tA wA) (ha:VSs K X A t v) (hb:VSs K X B u w):VS K X (.If c A B pos) (CN tA t u) (Dk wA v w):=⟨CO hc.pe ha.ps hb.ps,fun H0 Z σ H S V E k t l=>
 hc.snd H0 Z σ H S _ _ k t fun b H1 S1 k1 st1 q=>by
  cases b with
  | true=>rw [if_pos rfl] at q ⊢;exact ha.snd H0 Z σ H1 S1 V E k1 q (l.step st1)
  | false=>rw [if_neg Bool.false_ne_true] at q ⊢;exact hb.snd H0 Z σ H1 S1 V E k1 q (l.step st1)⟩
noncomputable abbrev VG:=D->List Sl->(List Sl->Prop)->Prop
noncomputable def SndG (K:PySem.W.Frag) (g:TG) (vg:VG):Prop:=∀H0 Z σ H S v d Q C,OK K H0 Z σ H S->Rep K (NM Z σ S) AnyF H v d->vg d S Q->(∀ σ' H' S',OK K H0 Z σ' H' S'->Step Z σ S H σ' S' H'->Q S'->C σ' H')->g v σ H C
noncomputable def Dl (g:TG):Prop:=∀x σ H Q1 Q2,(∀ σ H,Q1 σ H->Q2 σ H)->g x σ H Q1->g x σ H Q2
noncomputable def AJ (g:TGs):Prop:=∀x σ H Q1 Q2,(∀ σ H,Q1 σ H->Q2 σ H)->g x σ H Q1->g x σ H Q2
structure VGe (K:PySem.W.Frag) (X:Cx) (e:Expr) (g:TG) (vg:VG):Prop where
 pg:PG X e g
 snd:SndG K g vg
 mono:Dl g
noncomputable def vgN (i:Nat):VG:=fun d S Q=>i < S.length/\Q (S.set i (.val d))
theorem aC {i:Nat} (h:PG X e (bI i)):VGe K X e (bI i) (vgN i):=⟨h,fun H0 Z σ H S v d Q C k r zt1 hc=>by obtain ⟨hi,q⟩:=zt1;exact hc _ _ _ (k.setVal hi r).1 (k.setVal hi r).2 q,fun _ _ _ _ _ h q=>h _ _ q⟩
noncomputable def Dm (K:PySem.W.Frag) (g:TGs) (vg:List D->List Sl->(List Sl->Prop)->Prop):Prop:=∀H0 Z σ H S vs ds Q C,OK K H0 Z σ H S->Reps K (NM Z σ S) AnyF H vs ds->vg ds S Q->(∀ σ' H' S',OK K H0 Z σ' H' S'->Step Z σ S H σ' S' H'->Q S'->C σ' H')->g vs σ H C
structure VGs (K:PySem.W.Frag) (X:Cx) (es:List Expr) (g:TGs) (vg:List D->List Sl->(List Sl->Prop)->Prop):Prop where
 pg:PGs X es g
 snd:Dm K g vg
 mono:AJ g
noncomputable def yR:List D->List Sl->(List Sl->Prop)->Prop:=fun ds S Q=>ds=[]/\Q S
noncomputable def rQ (t:VG) (u:List D->List Sl->(List Sl->Prop)->Prop):List D->List Sl->(List Sl->Prop)->Prop:=fun ds S Q=>∃d r,ds=d::r/\t d S fun S1=>u r S1 Q
theorem bJ:VGs K X [] qU yR:=⟨vI,fun H0 Z σ H S vs ds Q C k r zq1 hc=>by obtain ⟨e,q⟩:=zq1;subst e;cases r;exact ⟨rfl,hc _ _ _ k .refl q⟩,fun _ _ _ _ _ h q=>⟨q.1,h _ _ q.2⟩⟩
theorem aI {es:List Expr} {g:TG} {gs:TGs} {vg:VG} {vgs:List D->List Sl->(List Sl->Prop)->Prop} (h1:VGe K X e g vg) (h2:VGs K X es gs vgs) (hs:(assignEach (e::es) X.env).map (·.2)=assign e X.env::(assignEach es X.env).map (·.2):=by rfl) :
  VGs K X (e::es) (gR g gs) (rQ vg vgs):=⟨qV h1.pg h2.pg hs,fun H0 Z σ H S vs ds Q C k r zq1 hc=>by
 obtain ⟨d,rd,e,q⟩:=zq1
 subst e
 cases r with
 | cons rv rr=>exact ⟨_,_,rfl,h1.snd H0 Z σ H S _ _ _ _ k rv q fun σ1 H1 S1 k1 st1 q1=>h2.snd H0 Z σ1 H1 S1 _ _ _ _ k1 (rr.step st1) q1 fun σ2 H2 S2 k2 st2 q2=>hc _ _ _ k2 (st1.trans st2) q2⟩,fun x σ H Q1 Q2 h zt1=>by obtain ⟨v,r,e,q⟩:=zt1;exact ⟨v,r,e,h1.mono _ _ _ _ _ (fun σ' H' q'=>h2.mono _ _ _ _ _ h q') q⟩⟩
noncomputable def vgT (n:Nat) (u:List D->List Sl->(List Sl->Prop)->Prop):VG:=fun d S Q=>∃ds,d=.tup ds/\ds.length=n/\u ds S Q
theorem b7 {es:List Expr} {kk:Nat} {gs:TGs} {vgs:List D->List Sl->(List Sl->Prop)->Prop} {n:Nat} (hK:X.K=K) (hc:X.calm=true) (h:VGs K X es gs vgs) (hn:(assignEach es X.env).length=n:=by rfl) (hst:(assignEach es X.env).findIdx? (·.1)=none:=by rfl) :
  VGe K X (.Tuple es kk pos) (qW K n gs) (vgT n vgs):=⟨by subst hK;exact Ac hc h.pg hn hst,fun H0 Z σ H S v d Q C k r zq1 hcc=>by
 obtain ⟨ds,e,hl,q⟩:=zq1
 subst e
 obtain ⟨a,vs,rfl,hq,rr⟩:=r.sqT
 exact ⟨a,vs,rfl,hq,by rw [rr.length];exact hl,h.snd H0 Z σ H S _ _ _ _ k rr q hcc⟩,fun x σ H Q1 Q2 hh zt1=>by obtain ⟨a,xs,e1,e2,e3,q⟩:=zt1;exact ⟨a,xs,e1,e2,e3,h.mono _ _ _ _ _ hh q⟩⟩
noncomputable def qc (va:VT) (g:VG):VTS:=fun V S=>va S fun r S1=>∃d,r=.d d/\g d S1 V.nx
theorem ni {g:TG} {vg:VG} (ha:SndE K m te va) (hg:SndG K g vg):AH K (dD te g) (qc va vg):=fun H0 Z σ H S V E k t l=>ha H0 Z σ H S _ _ k t fun v H1 r S1 k1 st1 rr zq1=>by
 obtain ⟨d,e,q⟩:=zq1
 subst e
 exact hg H0 Z σ H1 S1 v d _ _ k1 (Rep.mono (fun _ n _=>⟨n,rfl⟩) (fun _ _=>trivial) rr) q fun σ2 H2 S2 k2 st2 q2=>l.nx σ2 H2 S2 k2 (st1.trans st2) q2
theorem AK {i:Nat} {x:Str} {pos':Pos} (ps:∀te,PE X e te->PS X (.Assign [.Name x pos'] e pos) (dD te (bI i))) (h:VE K X false e te va):VS K X (.Assign [.Name x pos'] e pos) (dD te (bI i)) (qc va (vgN i)):=
 ⟨ps te h.pe,ni h.snd fun H0 Z σ H S v d Q C k r zt1 hc=>by obtain ⟨hi,q⟩:=zt1;exact hc _ _ _ (k.setVal hi r).1 (k.setVal hi r).2 q⟩
theorem kI {tg:Expr} {g:TG} {vg:VG} (h:VE K X false e te va) (hg:VGe K X tg g vg) (hs:swapsWithSole [tg] e pos.line X.env=pure false:=by rfl) (hw:swappedStores [tg] e X.env=pure none:=by rfl)
  (h1:(assignEach [tg] X.env).map (·.2)=[assign tg X.env]:=by rfl):VS K X (.Assign [tg] e pos) (dD te g) (qc va vg):=⟨mT h.pe hg.pg hs hw h1,ni h.snd hg.snd⟩
noncomputable def rR (i:Nat) (t:VTN):VTS:=fun V S=>t S fun ds S1=>i < S1.length/\V.nx (S1.set i (.own ds))
theorem eG {i:Nat} {x:Str} {pos':Pos} {tn:VTN} (ps:∀te,PE X e te->PS X (.Assign [.Name x pos'] e pos) (dD te (bI i))) (h:VN K X e te tn):VS K X (.Assign [.Name x pos'] e pos) (dD te (bI i)) (rR i tn):=
 ⟨ps te h.pe,fun H0 Z σ H S V E k t l=>h.snd H0 Z σ H S _ _ k t fun a vs ds H1 H' S' k1 st1 ha hg hl rr zq1=>by
  obtain ⟨hi,q⟩:=zq1
  obtain ⟨k2,st2⟩:=k1.setNew (s:=.own ds) hi ha hg ⟨a,vs,rfl,hl,k1.dom a ha,rr⟩ rfl
  exact l.nx _ _ _ k2 (st1.trans st2) q⟩
noncomputable def yS (i:Nat) (t:VTN):VTS:=fun V S=>t S fun ds S1=>∃ns:List Int,ds=ns.map .int/\i < S1.length/\V.nx (S1.set i (.pen none ns))
theorem wt {i:Nat} {x:Str} {pos':Pos} {tn:VTN} (ps:∀te,PE X e te->PS X (.Assign [.Name x pos'] e pos) (dD te (bI i))) (h:VN K X e te tn):VS K X (.Assign [.Name x pos'] e pos) (dD te (bI i)) (yS i tn):=
 ⟨ps te h.pe,fun H0 Z σ H S V E k t l=>h.snd H0 Z σ H S _ _ k t fun a vs ds H1 H' S' k1 st1 ha hg hl rr zq1=>by
  obtain ⟨ns,e,hi,q⟩:=zq1
  subst e
  obtain ⟨k2,st2⟩:=k1.setNew (s:=.pen none ns) hi ha hg ⟨a,rfl,(fun _ z=>nomatch z),by rw [<- Reps.toInts rr];exact hl⟩ rfl
  exact l.nx _ _ _ k2 (st1.trans st2) q⟩
end
end VL
end
section
namespace VL
open PySem L2
section
variable {K:PySem.W.Frag} {X:Cx} {m:Bool} {e a b c:Expr} {ta tb tc te ti:TE} {va vb vc vi:VT} {pos:Pos} {st:Stmt} {rest:List Stmt} {t u:TS} {v w:VTS}
theorem OK.ownAt {H0 H:Hp} (k:OK K H0 Z σ H S) {i:Nat} {s:Sl} (e:S[i]?=some s):∃o,σ[i]?=some o/\qa K H0 (NM Z σ S) H o s:=by
 have hi:i < σ.length:=by rw [k.len];exact (List.getElem?_eq_some_iff.mp e).1
 exact ⟨_,List.getElem?_eq_getElem hi,k.at_ i _ s (List.getElem?_eq_getElem hi) e⟩
noncomputable def AL (i:Nat) (ve:VT):VT:=fun S Q=>(∃ds,S[i]?=some (.own ds))/\ve S fun r S1=>∃d ds,r=.d d/\S1[i]?=some (.own ds)/\ds.length<=1000000/\Q (.d .non) (S1.set i (.own (ds++[d])))
theorem AM {apos:Pos} {o:Expr} (i:Nat) (hK:X.K=K) (ho:PE X o (cT i)) (h:VE K X true e te va) (pe:∀te,PE X e te->PE X (.Call (.Attribute o "append" apos) [e] [] pos) (tBM X.K "list" ig (cT i) (iH te pZ))) :
  VE K X m (.Call (.Attribute o "append" apos) [e] [] pos) (tBM K "list" ig (cT i) (iH te pZ)) (AL i va):=⟨by subst hK;exact pe te h.pe,fun H0 Z σ H S Q C k zq1 hc=>by
 obtain ⟨⟨ds0,e0⟩,t⟩:=zq1
 obtain ⟨o,h1,a,vs,rfl,h2,h3,h4⟩:=k.ownAt e0
 refine ⟨.ref a,h1,.inl ⟨rfl,vs,.inl (.inl h2)⟩,?_⟩
 refine h.snd H0 Z σ H S _ _ k t fun x H1 r S1 k1 st1 rr zr1=>?_
 obtain ⟨d,ds,er,e1,hl,q⟩:=zr1
 subst er
 obtain ⟨o',g1,a',vs',rfl,g2,g3,g4⟩:=k1.ownAt e1
 rw [h1] at g1;cases g1
 refine ⟨a,vs',x,rfl,rfl,g2,by rw [g4.length,sizeLine_eq];lia,?_⟩
 have na:NM Z σ S1 a->False:=fun n=>n (.inl ⟨i,_,e1,rfl,h1⟩)
 have hm:∀b,NM Z σ S1 b->H1 b≠none->NM Z σ S1 b/\upd H1 a (.lst (vs'++[x])) b=H1 b:=fun b n _=>⟨n,aL fun z=>na (by rw [<- z];exact n)⟩
 obtain ⟨k2,st2⟩:=k1.chg (s:=.own (ds++[d])) (o:=.lst (vs'++[x])) e1 rfl h1 ⟨_,rfl⟩ rfl ⟨a,_,rfl,aK,g3,Reps.append (g4.mono hm fun _ x=>x) (.cons (Rep.mono hm (fun _ x=>x rfl) rr) .nil)⟩
 exact hc .non _ (.d .non) _ k2 (st1.trans st2) Rep.non q⟩
theorem kJ {apos:Pos} {o:Expr} (i:Nat) (hK:X.K=K) (ho:PE X o (cT i)) (h:VE K X true e te va) (hbase:attributeBase o "append" X.env (eval o X.env)=eval o X.env:=by rfl)
  (hfew:((backTo pos (starEach (e::[]) X.env)).all (fun x=>!x.1)&&(backToKw pos (keywordEach [] X.env)).all (fun x=>x.1.isSome)
   && decide ((e::[]).length+([]:List Keyword).length+(if ([]:List Keyword).isEmpty then 0 else 1) < 30))=true:=by rfl)
  (hline:(apos.endLine==pos.line)=true:=by rfl) (hs:starEach (e::[]) X.env=(false,eval e X.env)::starEach [] X.env:=by rfl) (hplain:(backTo pos (starEach [] X.env)).any (·.1)=false:=by rfl) :
  VE K X m (.Call (.Attribute o "append" apos) [e] [] pos) (tBM K "list" ig (cT i) (iH te pZ)) (AL i va):=
 AM i hK ho h fun te hp=>C2 PySem.F.plainAttrs_list PySem.F.slot_list_append PySem.F.type_list_append p7 ho (cU hp iI hs) hbase hfew hline hs hplain
noncomputable def rS (i:Nat) (ve vi:VT):VTS:=fun V S=>ve S fun r S1=>(∃s,S1[i]?=some s/\s.mut=true)/\vi S1 fun ri S2=>∃j,get S2 ri=some (.int j) /\
  ((∃ad ns k n,S2[i]?=some (.pen ad ns)/\ixN ns.length j=some k/\r=.d (.int n)/\V.nx (S2.set i (.pen ad (ns.set k n)))) \/
   (∃ds k d,S2[i]?=some (.own ds)/\ixN ds.length j=some k/\r=.d d/\V.nx (S2.set i (.own (ds.set k d)))))
theorem lU {o ie:Expr} {posS:Pos} (i:Nat) (ho:PE X o (cT i)) (h:VE K X true e te va) (hi:VE K X false ie ti vi)
  (ha:∀v,assign (.Subscript o ie posS) X.env v=(do
   let ov <- holding [v] (eval o X.env)
   let iv <- holding [v,ov] (eval ie X.env)
   standAt posS
   holding [v,ov,iv] (setItem ov iv v)
   release [v,ov,iv] []):=by intro _;rfl)
  (hs:swapsWithSole [.Subscript o ie posS] e pos.line X.env=pure false:=by rfl) (hw:swappedStores [.Subscript o ie posS] e X.env=pure none:=by rfl)
  (h1:(assignEach [.Subscript o ie posS] X.env).map (·.2)=[assign (.Subscript o ie posS) X.env]:=by rfl) :
  VS K X (.Assign [.Subscript o ie posS] e pos) (dD te (Ad (cT i) ti rq)) (rS i va vi):=⟨mT h.pe (Ae ho hi.pe set_list ha) hs hw h1,fun H0 Z σ H S V E k t l=>by
 refine h.snd H0 Z σ H S _ _ k t fun x H1 r S1 k1 st1 rr zr1=>?_
 obtain ⟨⟨s1,em,hm1⟩,q⟩:=zr1
 -- the slot's address stays: σ is one
 have fin:∀(p:Addr),σ[i]?=some (some (.ref p))->Ad (cT i) ti rq x σ H1 E.nx:=fun p hp=>by
  refine ⟨.ref p,hp,hi.snd H0 Z σ H1 S1 _ _ k1 q fun y H2 ri S2 k2 st2 r2 zr1=>?_⟩
  obtain ⟨j,ej,q2⟩:=zr1
  cases r2.get k2 ej
  have rr2:=rr.step st2
  rcases q2 with ⟨ad,ns,kk,n,e1,e2,er,q2⟩ | ⟨ds,kk,d,e1,e2,er,q2⟩
  ·subst er
   cases (show Rep K _ _ H2 x (.int n) from rr2)
   obtain ⟨o',g1,a',rfl,g2,g3⟩:=k2.ownAt e1
   rw [hp] at g1;cases g1
   refine ⟨p,_,j,kk,rfl,rfl,g3,by rw [List.length_map];exact e2,?_⟩
   obtain ⟨k3,st3⟩:=k2.chg (s:=.pen ad (ns.set kk n)) (o:=.lst ((ns.map L2.V.int).set kk (.int n))) e1 rfl hp ⟨_,rfl⟩ rfl ⟨p,rfl,g2,by rw [aK,List.map_set]⟩
   exact l.nx _ _ _ k3 ((st1.trans st2).trans st3) q2
  ·subst er
   obtain ⟨o',g1,a',vs,rfl,g2,g3,g4⟩:=k2.ownAt e1
   rw [hp] at g1;cases g1
   refine ⟨p,_,j,kk,rfl,rfl,g2,by rw [g4.length];exact e2,?_⟩
   have na:NM Z σ S2 p->False:=fun n=>n (.inl ⟨i,_,e1,rfl,hp⟩)
   have hm:∀b,NM Z σ S2 b->H2 b≠none->NM Z σ S2 b/\upd H2 p (.lst (vs.set kk x)) b=H2 b:=fun b n _=>⟨n,aL fun z=>na (by rw [<- z];exact n)⟩
   obtain ⟨k3,st3⟩:=k2.chg (s:=.own (ds.set kk d)) (o:=.lst (vs.set kk x)) e1 rfl hp ⟨_,rfl⟩ rfl ⟨p,_,rfl,aK,g3,Reps.set (Rep.mono hm (fun _ x=>x rfl) rr2) kk (g4.mono hm fun _ x=>x)⟩
   exact l.nx _ _ _ k3 ((st1.trans st2).trans st3) q2
 -- which address it is: look once
 obtain ⟨o1,g1,g2⟩:=k1.ownAt em
 cases s1 with
 | no=>cases hm1
 | val d=>cases hm1
 | fre d=>cases hm1
 | own ds=>obtain ⟨p,_,rfl,_⟩:=g2;exact fin p g1
 | pen ad ns=>obtain ⟨p,rfl,_⟩:=g2;exact fin p g1
 | odi ks ds=>obtain ⟨p,_,rfl,_⟩:=g2;exact fin p g1
 | obj k=>obtain ⟨p,rfl,_⟩:=g2;exact fin p g1⟩
noncomputable def pick:List VR->Nat->Option (Nat×List VR)
 | .own i::r,0=>some (i,r)
 | x::r,j+1=>(pick r j).map fun p=>(p.1,x::p.2)
 | _,_=>none
noncomputable def wu (j:Nat) (p:List Int->List D->(D->List Int->Prop)->Prop) (vr:VTA):VT:=fun S Q=>vr S fun rs S1=>∃i rs' ad ns ds,pick rs j=some (i,rs')/\S1[i]?=some (.pen ad ns)/\allD rs'=some ds/\p ns ds fun d ns'=>Q (.d d) (S1.set i (.pen ad ns'))
theorem cK.pick:∀{j:Nat} {vs:List V} {rs:List VR} {i:Nat} {rs':List VR},cK K F Z σ S H vs rs->VL.pick rs j=some (i,rs')->∃v ws us,vs=ws++v::us/\ws.length=j/\σ[i]?=some (some v)/\cK K F Z σ S H (ws++us) rs'/\ws.length<=(ws++us).length
 | 0,_,_,i,rs',.cons (r:=r) h t,e=>by
  cases r with
  | d x=>cases e
  | own k=>cases e;exact ⟨_,[],_,rfl,rfl,h,t,by simp⟩
 | j+1,_,_,i,rs',.cons (r:=r) (rs:=rs) h t,e=>by
  have e':(VL.pick rs j).map (fun p=>(p.1,r::p.2))=some (i,rs'):=by cases r <;> exact e
  obtain ⟨⟨i',q⟩,h1,h2⟩:=Option.map_eq_some_iff.mp e'
  cases h2
  obtain ⟨v,ws,us,rfl,hl,hs,rr,_⟩:=cK.pick t h1
  exact ⟨v,_::ws,us,rfl,by simp [hl],hs,.cons h rr,by simp⟩
 | _,_,_,_,_,.nil,e=>by cases e
theorem Reps.splitAt {N:AP}:∀{ws us:List V} {ds:List D},Reps K N F H (ws++us) ds->∃d1 d2,ds=d1++d2/\Reps K N F H ws d1/\Reps K N F H us d2
 | [],us,ds,h=>⟨[],ds,rfl,.nil,h⟩
 | w::ws,us,_,.cons h t=>by
  obtain ⟨d1,d2,rfl,h1,h2⟩:=Reps.splitAt (ws:=ws) t
  exact ⟨_::d1,d2,rfl,.cons h h1,h2⟩
section
variable {es:List Expr} {tr:TA} {vr:VTA} {x:Str} {p0:Pos} {j k:Nat} {ps:List Str}
theorem aM {jj:Nat} {p:List Int->List D->(D->List Int->Prop)->Prop} (E:Has X.prog X.w X.K X.mg X.base k x ps (spI K jj p)) (hr:bY j X.A) (ha:VA K X false (e::es) tr vr)
  (hk:k<=j:=by decide) (hg:Gl X x:=by rfl) (hdb:(x==("__debug__":Str))=false:=by decide) (he:starEach (e::es) X.env=(false,eval e X.env)::starEach es X.env:=by rfl)
  (hpl:(backTo pos (starEach es X.env)).any (·.1)=false:=by rfl):VE K X m (.Call (.Name x p0) (e::es) [] pos) (gS (spI K jj p) [] E0 tr) (wu jj p vr):=⟨jJ E hr ha.pe hk hg hdb he hpl,fun H0 Z σ H S Q C k t hc=>
 ha.snd H0 Z σ H S _ _ k t fun vs H1 rs S1 k1 st1 rrs zq1=>by
  obtain ⟨i,rs',ad,ns,ds,e1,e2,e3,q⟩:=zq1
  obtain ⟨v,ws,us,rfl,hl,hs,rr,_⟩:=rrs.pick e1
  obtain ⟨o,g1,a,rfl,g2,g3⟩:=k1.ownAt e2
  rw [hs] at g1;cases g1
  have ma:Mo Z σ S1 a:=.inl ⟨i,_,e2,rfl,hs⟩
  obtain ⟨d1,d2,rfl,r1,r2⟩:=Reps.splitAt (rr.allD e3)
  have hm:∀b,NM Z σ S1 b->H1 b≠none->b≠a/\H1 b=H1 b:=fun b n _=>⟨fun z=>n (by rw [z];exact ma),rfl⟩
  refine ⟨a,ws,us,ns,d1,d2,_,by rw [List.append_nil],hl,g3,r1.mono hm fun _ _=>trivial,r2.mono hm fun _ _=>trivial,q,fun d ns' v H' q g ga rv=>?_⟩
  -- the pen changed,and the heap grown
  have hG:∀b,upd H1 a (.lst (ns'.map V.int)) b≠none->H' b=upd H1 a (.lst (ns'.map V.int)) b:=fun b hb=>by
   by_cases hba:b=a
   ·subst hba;rw [aK];exact ga
   ·rw [aL hba] at hb ⊢;exact g b hba hb
  obtain ⟨k2,st2⟩:=k1.chg (s:=.pen ad ns') (o:=.lst (ns'.map V.int)) e2 rfl hs ⟨_,rfl⟩ rfl ⟨a,rfl,g2,aK⟩
  have k3:=k2.grow hG
  refine hc v H' (.d d) _ k3 ((st1.trans st2).trans (.grow hG)) (show Rep K _ _ H' v d from ?_) q
  refine (Rep.avoid (N':=NM Z σ (S1.set i (.pen ad ns'))) (fun b z=>k3.mo (Classical.not_not.mp z)) (fun b zr1=>?_) rv).mono (fun _ n _=>⟨n,rfl⟩) (fun o zt1 _=>by obtain ⟨c,ec,f⟩:=zt1;exact ⟨c,ec,k1.dom c f⟩)
  obtain ⟨c,ec,f⟩:=zr1
  cases ec
  refine k2.nm ?_
  rw [aL]
  ·exact f
  ·intro z;subst z;rw [g3] at f;cases f⟩
end
end
end VL
end
section
namespace VL
open PySem L2
noncomputable def Gd (K:PySem.W.Frag) (Z:AP) (J:It) (ds:List D) (σ:St) (S:List Sl) (H:Hp):Prop:=∀ σ2 S2 H2,(∀p,H2 p=none->NM Z σ2 S2 p)->(∀a,NM Z σ S a->H a≠none->H2 a=H a/\NM Z σ2 S2 a)->∀i,(i < ds.length->J.go i H2)/\(∀x H3,J.yld i H2 x H3->i < ds.length->(∀a,H2 a≠none->H3 a=H2 a)/\∃d,ds[i]?=some d/\Rep K (NM Z σ2 S2) AnyF H3 x d)/\(i=ds.length->J.stop i H2)
noncomputable def FF (K:PySem.W.Frag) (wi:TI) (vi:VTN):Prop:=∀H0 Z σ H S Q C,OK K H0 Z σ H S->vi S Q->(∀J ds H' S',OK K H0 Z σ H' S'->Step Z σ S H σ S' H'->Gd K Z J ds σ S' H'->Q ds S'->C J H')->wi σ H C
structure VI (K:PySem.W.Frag) (X:Cx) (tg e:Expr) (wi:TI) (vi:VTN):Prop where
 pi:PI X tg e wi
 snd:FF K wi vi
section
variable {K:PySem.W.Frag} {X:Cx} {m:Bool} {e a b c tg:Expr} {ta tb tc te ti:TE} {va vb vc:VT} {pos:Pos} {st:Stmt} {rest:List Stmt} {t u:TS} {v w:VTS}
noncomputable def Do (va:VT):VTN:=fun S Q=>va S fun r S1=>∃ds,r=.d (.lst ds)/\Q ds S1
theorem bE (hK:X.K=K) (h:VE K X false e te va):VI K X tg e (yJ K te) (Do va):=⟨by subst hK;exact vJ h.pe,fun H0 Z σ H S Q C k t hc=>h.snd H0 Z σ H S _ _ k t fun v H1 r S1 k1 st1 rr zq1=>by
 obtain ⟨ds,e,q⟩:=zq1
 subst e
 have rr:Rep K _ _ H1 v (.lst ds):=rr
 obtain ⟨a,vs,rfl,hq,_⟩:=rr.sqL
 refine ⟨a,rfl,⟨vs,hq⟩,hc _ ds H1 S1 k1 st1 (fun σ2 S2 H2 _ st2 i=>?_) q⟩
 obtain ⟨a',vs',e,hq2,r2⟩:=(rr.stp st2).sqL
 cases e
 refine ⟨fun hi=>?_,fun x H3 hy hi=>?_,fun hi=>⟨vs',hq2,by rw [r2.length];lia⟩⟩
 ·obtain ⟨v,h1,_⟩:=r2.getD (List.getElem?_eq_getElem hi)
  exact ⟨vs',v,hq2,h1⟩
 ·obtain ⟨e,h2⟩:=hy
  obtain ⟨d,h3,h4⟩:=r2.get (h2 vs' hq2)
  exact ⟨fun _ _=>by rw [e],d,h3,h4.mono (fun _ n _=>⟨n,by rw [e]⟩) fun _ _=>trivial⟩⟩
noncomputable def rg (lo:Int) (n:Nat):List D:=(List.range n).map fun (i:Nat)=>D.int (lo+(i:Int))
theorem gB (lo:Int) (n:Nat):(rg lo n).length=n:=by simp [rg]
theorem rT {lo:Int} {n i:Nat} (h:i < n):(rg lo n)[i]?=some (.int (lo+(i:Int))):=by simp [rg,h]
theorem rV {lo:Int} {n:Nat}:Gd K Z (Itr lo n) (rg lo n) σ S H:=fun σ2 S2 H2 _ st2 i=>by
 rw [gB]
 refine ⟨fun h=>h,fun x H3 zt1 hi=>by obtain ⟨e,hx⟩:=zt1;exact ⟨fun _ _=>by rw [e],_,rT hi,by rw [hx];exact .int _⟩,fun h=>by rw [h];exact Nat.le_refl _⟩
section
variable {tr:TA} {vr:VTA} {p:Pos}
noncomputable def Dp (vr:VTA):VTN:=fun S Q=>vr S fun rs S1=>∃j:Int,rs=[.d (.int j)]/\-(2 ^ 62)<=j/\j < 2 ^ 62/\Q (rg 0 j.toNat) S1
noncomputable def Dq (vr:VTA):VTN:=fun S Q=>vr S fun rs S1=>∃i j:Int,rs=[.d (.int i),.d (.int j)]/\(-(2 ^ 62)<=i/\i < 2 ^ 62/\-(2 ^ 62)<=j/\j < 2 ^ 62)/\Q (rg i (j-i).toNat) S1
theorem bO (hg:Gl X "range") (hm:X.mg "range"=none) (ha:VA K X false [a] tr vr) (hs:starEach [a] X.env=[(false,eval a X.env)]:=by rfl):VI K X tg (.Call (.Name "range" p) [a] [] pos) (yK tr) (Dp vr):=⟨pU hg hm ha.pe hs,fun H0 Z σ H S Q C k t hc=>
 ha.snd H0 Z σ H S _ _ k t fun vs H1 rs S1 k1 st1 rrs zq1=>by
  obtain ⟨j,e,h1,h2,q⟩:=zq1
  subst e
  cases rrs with
  | cons r t=>
   cases t
   cases (show Rep K _ _ H1 _ (.int j) from r)
   exact ⟨j,rfl,h1,h2,hc _ _ H1 S1 k1 st1 rV q⟩⟩
theorem jR (hg:Gl X "range") (hm:X.mg "range"=none) (ha:VA K X false [a,b] tr vr) (hs:starEach [a,b] X.env=[(false,eval a X.env),(false,eval b X.env)]:=by rfl) (hs2:starEach [b] X.env=[(false,eval b X.env)]:=by rfl):VI K X tg (.Call (.Name "range" p) [a,b] [] pos) (yL tr) (Dq vr):=⟨pV hg hm ha.pe hs hs2,fun H0 Z σ H S Q C k t hc=>
 ha.snd H0 Z σ H S _ _ k t fun vs H1 rs S1 k1 st1 rrs zq1=>by
  obtain ⟨i,j,e,h1,q⟩:=zq1
  subst e
  cases rrs with
  | cons r t=>
   cases t with
   | cons r' t=>
    cases t
    cases (show Rep K _ _ H1 _ (.int i) from r)
    cases (show Rep K _ _ H1 _ (.int j) from r')
    exact ⟨i,j,rfl,h1,hc _ _ H1 S1 k1 st1 rV q⟩⟩
end
noncomputable def runFor (vg:VG) (vb:VTS) (V:bh):List D->List Sl->Prop
 | []=>V.nx
 | d::r=>fun S=>vg d S fun S3=>vb ⟨runFor vg vb V r,V.rt,V.nx,runFor vg vb V r⟩ S3
noncomputable def Dr (vi:VTN) (vg:VG) (vb:VTS):VTS:=fun V S=>vi S fun ds S1=>runFor vg vb V ds S1\/∃Iv:Nat->List Sl->Prop,Iv 0 S1/\(∀i d S2,ds[i]?=some d->Iv i S2->vg d S2 fun S3=>vb { V with nx:=Iv (i+1),ct:=Iv (i+1),bk:=V.nx } S3)/\∀S2,Iv ds.length S2->V.nx S2
theorem b8 {body:List Stmt} {wi:TI} {vi:VTN} {g:TG} {vg:VG} (hp:PassesOwn (model X.prog X.w) X.A X.env X.xe) (hc:X.calm=true) (hi:VI K X tg e wi vi) (hg:VGe K X tg g vg) (hb:VSs K X body t v) (hs:∀x,foldedSetIterable e X.env x=pure x:=by intro _;rfl) :
  VS K X (.For tg e body [] pos) (CQ wi g t) (Dr vi vg v):=⟨Ag hp hc hi.pi hg.pg hb.ps hs,fun H0 Z σ H S V E k t l=>hi.snd H0 Z σ H S _ _ k t fun J ds H1 S1 k1 st1 gd hh=>by
 rcases hh with hr | ⟨Iv,i0,hs,hd⟩
 ·refine ⟨fun i m σ H=>m=ds.length-i/\i<=ds.length/\∃S2,OK K H0 Z σ H S2/\Step Z _ S1 H1 σ S2 H/\runFor vg v V (ds.drop i) S2,⟨ds.length,by simp,Nat.zero_le _,S1,k1,.refl,by simpa using hr⟩,?_⟩
  rintro i m σ2 H2 ⟨rfl,hi,S2,k2,st2,p⟩
  obtain ⟨g1,g2,g3⟩:=gd σ2 S2 H2 (fun _=>k2.nm) st2.1 i
  by_cases hlt:i < ds.length
  ·rw [List.drop_eq_getElem_cons hlt] at p
   refine .inr ⟨g1 hlt,fun σ' H'=>∃S',OK K H0 Z σ' H' S'/\Step Z σ S1 H1 σ' S' H'/\runFor vg v V (ds.drop (i+1)) S',fun σ' H' p'=>⟨ds.length-(i+1),by lia,rfl,hlt,p'⟩,fun x H3 y=>?_⟩
   obtain ⟨hgr,d,hd',rd⟩:=g2 x H3 y hlt
   replace k2:=k2.grow hgr
   replace st2:=st2.trans (.grow hgr)
   rw [List.getElem?_eq_getElem hlt] at hd'
   cases hd'
   refine hg.snd H0 Z σ2 H3 S2 x _ _ _ k2 rd p fun σ4 H4 S4 k4 st4 q4=>?_
   refine hb.snd H0 Z σ4 H4 S4 _ _ k4 q4 ⟨fun σ' H' S' k' s' q'=>⟨S',k',(st2.trans st4).trans s',q'⟩,fun σ' H' S' k' s' q'=>l.nx σ' H' S' k' (((st1.trans st2).trans st4).trans s') q',fun σ' H' S' k' s' q'=>⟨S',k',(st2.trans st4).trans s',q'⟩,fun v d σ' H' S' k' s' r' q'=>l.rt v d σ' H' S' k' (((st1.trans st2).trans st4).trans s') r' q'⟩
  ·have e:i=ds.length:=by lia
   rw [e,List.drop_length] at p
   exact .inl ⟨g3 e,l.nx _ _ _ k2 (st1.trans st2) p⟩
 refine ⟨fun i m σ H=>m=ds.length-i/\i<=ds.length/\∃S2,OK K H0 Z σ H S2/\Step Z _ S1 H1 σ S2 H/\Iv i S2,⟨ds.length,by simp,Nat.zero_le _,S1,k1,.refl,i0⟩,?_⟩
 rintro i m σ2 H2 ⟨rfl,hi,S2,k2,st2,p⟩
 obtain ⟨g1,g2,g3⟩:=gd σ2 S2 H2 (fun _=>k2.nm) st2.1 i
 by_cases hlt:i < ds.length
 ·refine .inr ⟨g1 hlt,fun σ' H'=>∃S',OK K H0 Z σ' H' S'/\Step Z σ S1 H1 σ' S' H'/\Iv (i+1) S',fun σ' H' p'=>⟨ds.length-(i+1),by lia,rfl,hlt,p'⟩,fun x H3 y=>?_⟩
  obtain ⟨hgr,d,hd',rd⟩:=g2 x H3 y hlt
  replace k2:=k2.grow hgr
  replace st2:=st2.trans (.grow hgr)
  refine hg.snd H0 Z σ2 H3 S2 x d _ _ k2 rd (hs i d S2 hd' p) fun σ4 H4 S4 k4 st4 q4=>?_
  refine hb.snd H0 Z σ4 H4 S4 _ _ k4 q4 ⟨fun σ' H' S' k' s' q'=>⟨S',k',(st2.trans st4).trans s',q'⟩,fun σ' H' S' k' s' q'=>l.nx σ' H' S' k' (((st1.trans st2).trans st4).trans s') q',fun σ' H' S' k' s' q'=>⟨S',k',(st2.trans st4).trans s',q'⟩,fun v d σ' H' S' k' s' r' q'=>l.rt v d σ' H' S' k' (((st1.trans st2).trans st4).trans s') r' q'⟩
 ·have e:i=ds.length:=by lia
  exact .inl ⟨g3 e,l.nx _ _ _ k2 (st1.trans st2) (hd S2 (by rw [<- e];exact p))⟩⟩
end
noncomputable def bA (n:Nat) (ix:List Nat) (S:List Sl):List Sl:=List.replicate n .no++ix.map fun i=>(S[i]?).getD .no
noncomputable def lV (s t:Sl):Sl:=if s.mut then (if t.mut then t else .no) else s
noncomputable def bV (n:Nat) (ix:List Nat) (T:List Sl):Nat->List Sl->List Sl
 | _,[]=>[]
 | k,s::r=>(match ix.idxOf? k with | some j=>lV s ((T[n+j]?).getD .no) | none=>s)::bV n ix T (k+1) r
noncomputable def backS (n:Nat) (ix:List Nat) (S T:List Sl):List Sl:=bV n ix T 0 S
noncomputable def Zin (Z:AP) (ix:List Nat) (σ:St) (S:List Sl):AP:=fun a=>Z a\/∃(i:Nat) (s:Sl),i∉ix/\S[i]?=some s/\s.mut=true/\σ[i]?=some (some (V.ref a))
section
variable {K:PySem.W.Frag} {H H' H0:Hp} {Z:AP} {σ σ':St} {S T:List Sl} {n:Nat} {ix:List Nat}
theorem iV (k:Nat):(bV n ix T k S).length=S.length:=by
 induction S generalizing k with
 | nil=>rfl
 | cons s r ih=>simp [bV,ih]
theorem wy (k:Nat) {i:Nat} {s:Sl} (h:S[i]?=some s):(bV n ix T k S)[i]?=some (match ix.idxOf? (k+i) with | some j=>lV s ((T[n+j]?).getD .no) | none=>s):=by
 induction S generalizing k i with
 | nil=>simp at h
 | cons s' r ih=>
  cases i with
  | zero=>simp at h;subst h;rfl
  | succ i=>
   simp at h
   simp only [bV,List.getElem?_cons_succ]
   rw [ih (k+1) h,show k+1+i=k+(i+1) by lia]
theorem kK {j:Nat} {s:Sl} (h:(bA n ix S)[j]?=some s) (m:s.mut=true):∃k i,j=n+k/\ix[k]?=some i/\S[i]?=some s:=by
 unfold bA at h
 by_cases hj:j < n
 ·rw [List.getElem?_append_left (by simpa using hj)] at h
  simp [hj] at h
  subst h;cases m
 ·rw [List.getElem?_append_right (by simp;lia)] at h
  simp only [List.length_replicate,List.getElem?_map] at h
  cases hk:ix[j-n]? with
  | none=>rw [hk] at h;cases h
  | some i=>
   rw [hk] at h
   simp at h
   refine ⟨j-n,i,by lia,hk,?_⟩
   cases hs:S[i]? with
   | none=>rw [hs] at h;simp at h;subst h;cases m
   | some s'=>rw [hs] at h;simp at h;subst h;rfl
theorem wz {j:Nat} {s:Sl} (h:(bA n ix S)[j]?=some s):s=.no\/∃k i,j=n+k/\ix[k]?=some i/\S[i]?=some s:=by
 unfold bA at h
 by_cases hj:j < n
 ·rw [List.getElem?_append_left (by simpa using hj)] at h
  simp [hj] at h
  exact .inl h.symm
 ·rw [List.getElem?_append_right (by simp;lia)] at h
  simp only [List.length_replicate,List.getElem?_map] at h
  cases hk:ix[j-n]? with
  | none=>rw [hk] at h;cases h
  | some i=>
   rw [hk] at h
   simp at h
   cases hs:S[i]? with
   | none=>rw [hs] at h;simp at h;exact .inl h.symm
   | some s'=>rw [hs] at h;simp at h;subst h;exact .inr ⟨j-n,i,by lia,hk,hs⟩
theorem fF {k i:Nat} (h:ix[k]?=some i):(capt n ix σ)[n+k]?=some ((σ[i]?).getD none):=by
 unfold capt
 rw [List.getElem?_append_right (by simp)]
 simp [h]
theorem wC {k i:Nat} (h:ix[k]?=some i):(bA n ix S)[n+k]?=some ((S[i]?).getD .no):=by
 unfold bA
 rw [List.getElem?_append_right (by simp)]
 simp [h]
theorem dr {k i:Nat} (h:ix[k]?=some i) (e:(capt n ix σ)[n+k]?=some (some v)):σ[i]?=some (some v):=by
 rw [fF h] at e
 cases hs:σ[i]? with
 | none=>rw [hs] at e;cases e
 | some o=>rw [hs] at e;simp at e;rw [e]
theorem iW {a:Addr}:Mo (Zin Z ix σ S) (capt n ix σ) (bA n ix S) a↔Mo Z σ S a:=by
 constructor
 ·rintro (⟨j,s,h1,h2,h3⟩ | h | ⟨i,s,_,h1,h2,h3⟩)
  ·obtain ⟨k,i,rfl,hk,hs⟩:=kK h1 h2
   exact .inl ⟨i,s,hs,h2,dr hk h3⟩
  ·exact .inr h
  ·exact .inl ⟨i,s,h1,h2,h3⟩
 ·rintro (⟨i,s,h1,h2,h3⟩ | h)
  ·by_cases hi:i∈ix
   ·obtain ⟨k,hk⟩:=List.getElem?_of_mem hi
    refine .inl ⟨n+k,s,?_,h2,?_⟩
    ·rw [wC hk,h1];rfl
    ·rw [fF hk,h3];rfl
   ·exact .inr (.inr ⟨i,s,hi,h1,h2,h3⟩)
  ·exact .inr (.inl h)
theorem qf {l:List Nat} (h:l.Nodup):∀{i j x:Nat},l[i]?=some x->l[j]?=some x->i=j:=fun {i j x} h1 h2=>by
 obtain ⟨a,e1⟩:=List.getElem?_eq_some_iff.mp h1
 obtain ⟨b,e2⟩:=List.getElem?_eq_some_iff.mp h2
 have hp:=List.pairwise_iff_getElem.mp h
 rcases Nat.lt_trichotomy i j with c | c | c
 ·exact (hp i j a b c (by rw [e1,e2])).elim
 ·exact c
 ·exact (hp j i b a c (by rw [e1,e2])).elim
theorem OK.capt (k:OK K H0 Z σ H S) (hn:ix.Nodup):OK K H0 (Zin Z ix σ S) (L2.capt n ix σ) H (bA n ix S) where
 len:=by simp [L2.capt,bA]
 dom:=k.dom
 zl:=fun a z=>by
  rcases z with z | ⟨i,s,_,h1,h2,h3⟩
  ·exact k.zl a z
  ·exact k.mo (.inl ⟨i,s,h1,h2,h3⟩)
 nz:=fun j s a h1 h2 h3 z=>by
  obtain ⟨q,i,rfl,hk,hs⟩:=kK h1 h2
  have e:=dr hk h3
  rcases z with z | ⟨i',s',hi',g1,g2,g3⟩
  ·exact k.nz i s a hs h2 e z
  ·have:=k.inj i i' a s s' hs g1 h2 g2 e g3
   subst this
   exact hi' (List.mem_of_getElem? hk)
 inj:=fun j j' a s s' h1 h2 m1 m2 h3 h4=>by
  obtain ⟨q,i,rfl,hk,hs⟩:=kK h1 m1
  obtain ⟨q',i',rfl,hk',hs'⟩:=kK h2 m2
  have:=k.inj i i' a s s' hs hs' m1 m2 (dr hk h3) (dr hk' h4)
  subst this
  rw [qf hn hk hk']
 at_:=fun j o s h1 h2=>by
  have hN:∀a,NM Z σ S a->NM (Zin Z ix σ S) (L2.capt n ix σ) (bA n ix S) a:=fun a x z=>x (iW.mp z)
  rcases wz h2 with rfl | ⟨q,i,rfl,hk,hs⟩
  ·trivial
  ·rw [fF hk] at h1
   obtain ⟨o',e1,sl⟩:=k.ownAt hs
   rw [e1] at h1
   simp at h1
   subst h1
   cases s with
   | no=>trivial
   | val d=>obtain ⟨v,e,r⟩:=sl;exact ⟨v,e,r.mono (fun a x _=>⟨hN a x,rfl⟩) fun _ x=>x⟩
   | fre d=>obtain ⟨v,e,r⟩:=sl;exact ⟨v,e,r.mono (fun a x _=>⟨hN a x,rfl⟩) fun _ x=>x⟩
   | own ds=>obtain ⟨a,vs,e,e',e0,r⟩:=sl;exact ⟨a,vs,e,e',e0,r.mono (fun a x _=>⟨hN a x,rfl⟩) fun _ x=>x⟩
   | pen ad ns=>exact sl
   | odi ks ds=>obtain ⟨a,vs,e,e',e0,ek,r⟩:=sl;exact ⟨a,vs,e,e',e0,⟨ek.1,ek.2.mono (fun a x _=>⟨hN a x,rfl⟩) fun _ x=>x⟩,r.mono (fun a x _=>⟨hN a x,rfl⟩) fun _ x=>x⟩
   | obj k=>obtain ⟨a,e,e0,r⟩:=sl;exact ⟨a,e,e0,k.mono (fun a x _=>⟨hN a x,rfl⟩) rfl r⟩
theorem rW {i j:Nat} (h:ix.idxOf? i=some j):ix[j]?=some i:=by
 unfold List.idxOf? at h
 obtain ⟨h1,h2,_⟩:=List.findIdx?_eq_some_iff_getElem.mp h
 rw [List.getElem?_eq_getElem h1]
 simpa using h2
theorem rX {i:Nat} (h:ix.idxOf? i=none):i∉ix:=by
 unfold List.idxOf? at h
 intro hm
 have:=List.findIdx?_eq_none_iff.mp h i hm
 simp at this
theorem lW {i:Nat} {s:Sl} (h:S[i]?=some s):(backS n ix S T)[i]?=some (match ix.idxOf? i with | some j=>lV s ((T[n+j]?).getD .no) | none=>s):=by
 have:=wy (n:=n) (ix:=ix) (T:=T) 0 h
 rwa [Nat.zero_add] at this
theorem du {i:Nat} {s':Sl} (h:(backS n ix S T)[i]?=some s') (m:s'.mut=true):∃s,S[i]?=some s/\s.mut=true/\((∃j,ix[j]?=some i/\T[n+j]?=some s')\/(i∉ix/\s=s')):=by
 have hl:i < S.length:=by
  have:=(List.getElem?_eq_some_iff.mp h).1
  rwa [show (backS n ix S T).length=S.length from iV 0] at this
 have e:=lW (n:=n) (ix:=ix) (T:=T) (List.getElem?_eq_getElem hl)
 rw [h] at e
 have e:=Option.some.inj e
 refine ⟨_,List.getElem?_eq_getElem hl,?_⟩
 cases hx:ix.idxOf? i with
 | none=>
  rw [hx] at e
  have e:s'=S[i]:=e
  exact ⟨by rw [<- e];exact m,.inr ⟨rX hx,e.symm⟩⟩
 | some j=>
  rw [hx] at e
  simp only [lV] at e
  by_cases hm:(S[i]).mut=true
  ·rw [if_pos hm] at e
   refine ⟨hm,.inl ⟨j,rW hx,?_⟩⟩
   cases ht:T[n+j]? with
   | none=>rw [ht] at e;simp [Sl.mut] at e;subst e;cases m
   | some t=>
    rw [ht] at e
    simp only [Option.getD_some] at e
    by_cases htm:t.mut=true
    ·rw [if_pos htm] at e;rw [e]
    ·rw [if_neg htm] at e;subst e;cases m
  ·rw [if_neg hm] at e;subst e;exact (hm m).elim
theorem qg {i:Nat} {s':Sl} (h:(backS n ix S T)[i]?=some s') (m:s'.mut=false):s'=.no\/S[i]?=some s':=by
 have hl:i < S.length:=by
  have:=(List.getElem?_eq_some_iff.mp h).1
  rwa [show (backS n ix S T).length=S.length from iV 0] at this
 have e:=lW (n:=n) (ix:=ix) (T:=T) (List.getElem?_eq_getElem hl)
 rw [h] at e
 have e:=Option.some.inj e
 cases hx:ix.idxOf? i with
 | none=>rw [hx] at e;exact .inr (by rw [List.getElem?_eq_getElem hl,e])
 | some j=>
  rw [hx] at e
  simp only [lV] at e
  by_cases hm:(S[i]).mut=true
  ·rw [if_pos hm] at e
   by_cases htm:((T[n+j]?).getD .no).mut=true
   ·rw [if_pos htm] at e;rw [e,htm] at m;cases m
   ·rw [if_neg htm] at e;exact .inl e
  ·rw [if_neg hm] at e;exact .inr (by rw [List.getElem?_eq_getElem hl,e])
theorem OK.back (k:OK K H0 Z σ H S) (k':OK K H0 (Zin Z ix σ S) σ' H' T) (st:Step (Zin Z ix σ S) (L2.capt n ix σ) (bA n ix S) H σ' T H') (hσ:∀(i:Nat) (v:V),(L2.capt n ix σ)[i]?=some (some v)->σ'[i]?=some (some v)) :
  OK K H0 Z σ H' (backS n ix S T)/\Step Z σ S H σ (backS n ix S T) H'/\∀a,NM (Zin Z ix σ S) σ' T a->NM Z σ (backS n ix S T) a:=by
 have mo':∀a,Mo Z σ (backS n ix S T) a->Mo (Zin Z ix σ S) σ' T a:=fun a z=>by
  rcases z with ⟨i,s',h1,h2,h3⟩ | z
  ·obtain ⟨s,e,em,⟨j,hj,ht⟩ | ⟨hi,rfl⟩⟩:=du h1 h2
   ·exact .inl ⟨n+j,s',ht,h2,hσ _ _ (by rw [fF hj,h3];rfl)⟩
   ·exact .inr (.inr ⟨i,s,hi,e,em,h3⟩)
  ·exact .inr (.inl z)
 have nm':∀a,NM (Zin Z ix σ S) σ' T a->NM Z σ (backS n ix S T) a:=fun a x z=>x (mo' a z)
 have nm0:∀a,NM Z σ S a->NM (Zin Z ix σ S) (L2.capt n ix σ) (bA n ix S) a:=fun a x z=>x (iW.mp z)
 have old:∀a,NM Z σ S a->H a≠none->NM Z σ (backS n ix S T) a/\H' a=H a:=fun a x e=>⟨nm' a (st.1 a (nm0 a x) e).2,(st.1 a (nm0 a x) e).1⟩
 refine ⟨⟨by rw [show (backS n ix S T).length=S.length from iV 0];exact k.len,fun i o s' h1 h2=>?_,fun i j a s t h1 h2 m1 m2 h3 h4=>?_,fun a e=>k'.dom a e,fun a z=>k'.zl a (.inl z),fun i s a h1 m h3 z=>?_⟩,⟨fun a x e=>⟨(old a x e).2,(old a x e).1⟩,st.2.1,fun a z e=>st.2.2 a (.inl z) e⟩,nm'⟩
 ·cases hm:s'.mut with
  | true=>
   obtain ⟨s,e,em,⟨j,hj,ht⟩ | ⟨hi,rfl⟩⟩:=du h2 hm
   ·have eo:∃v,o=some v:=by
     obtain ⟨o',e1,q⟩:=k.ownAt e
     rw [h1] at e1;cases e1
     cases s with
     | no=>cases em
     | val d=>cases em
     | fre d=>cases em
     | own ds=>obtain ⟨a,_,e,_⟩:=q;exact ⟨_,e⟩
     | pen ad ns=>obtain ⟨a,e,_⟩:=q;exact ⟨_,e⟩
     | odi ks ds=>obtain ⟨a,_,e,_⟩:=q;exact ⟨_,e⟩
     | obj k=>obtain ⟨a,e,_⟩:=q;exact ⟨_,e⟩
    obtain ⟨v,rfl⟩:=eo
    have q:=k'.at_ (n+j) (some v) s' (hσ _ _ (by rw [fF hj,h1];rfl)) ht
    cases s' with
    | no=>cases hm
    | val d=>cases hm
    | fre d=>cases hm
    | own ds=>obtain ⟨a,vs,e,e',e0,r⟩:=q;exact ⟨a,vs,e,e',e0,r.mono (fun a x _=>⟨nm' a x,rfl⟩) fun _ x=>x⟩
    | pen ad ns=>exact q
    | odi ks ds=>obtain ⟨a,vs,e,e',e0,ek,r⟩:=q;exact ⟨a,vs,e,e',e0,⟨ek.1,ek.2.mono (fun a x _=>⟨nm' a x,rfl⟩) fun _ x=>x⟩,r.mono (fun a x _=>⟨nm' a x,rfl⟩) fun _ x=>x⟩
    | obj k=>obtain ⟨a,e,e0,r⟩:=q;exact ⟨a,e,e0,k.mono (fun a x _=>⟨nm' a x,rfl⟩) rfl r⟩
   ·obtain ⟨o',e1,q⟩:=k.ownAt e
    rw [h1] at e1;cases e1
    have hz:∀a us,o=some (V.ref a)->H a=some us->H' a=H a:=fun a us eo ea=>st.2.2 a (.inr ⟨i,s,hi,e,em,by rw [h1,eo]⟩) (by simp [ea])
    cases s with
    | no=>cases hm
    | val d=>cases hm
    | fre d=>cases hm
    | own ds=>obtain ⟨a,vs,e,e',e0,r⟩:=q;exact ⟨a,vs,e,(hz a _ e e').trans e',e0,r.mono old fun _ x=>x⟩
    | pen ad ns=>obtain ⟨a,e,e1,e'⟩:=q;exact ⟨a,e,e1,(hz a _ e e').trans e'⟩
    | odi ks ds=>obtain ⟨a,vs,e,⟨ob,e'⟩,e0,ek,r⟩:=q;exact ⟨a,vs,e,⟨ob,(hz a _ e e').trans e'⟩,e0,⟨ek.1,ek.2.mono old fun _ x=>x⟩,r.mono old fun _ x=>x⟩
    | obj k=>obtain ⟨a,e,e0,r⟩:=q;exact ⟨a,e,e0,k.mono old (hz a _ e (Option.ne_none_iff_exists'.mp (k.ism r).ne).choose_spec) r⟩
  | false=>
   rcases qg h2 hm with rfl | e
   ·trivial
   ·have q:=k.at_ i o s' h1 e
    cases s' with
    | no=>trivial
    | val d=>obtain ⟨v,e,r⟩:=q;exact ⟨v,e,r.mono old fun _ x=>x⟩
    | fre d=>obtain ⟨v,e,r⟩:=q;exact ⟨v,e,r.mono old fun _ x=>x⟩
    | own ds=>cases hm
    | pen ad ns=>cases hm
    | odi ks ds=>cases hm
    | obj k=>cases hm
 ·obtain ⟨s0,e0,em0,c1⟩:=du h1 m1
  obtain ⟨t0,f0,fm0,c2⟩:=du h2 m2
  exact k.inj i j a s0 t0 e0 f0 em0 fm0 h3 h4
 ·obtain ⟨s0,e0,em0,c1⟩:=du h1 m
  exact k.nz i s0 a e0 em0 h3 z
end
section
variable {K:PySem.W.Frag} {X:Cx} {e a b c tg elt iter:Expr} {te:TE} {va:VT} {pos:Pos}
structure VTs (K:PySem.W.Frag) (X:Cx) (ifs:List Expr) (te:TT) (t:VTT):Prop where
 pe:PTs X ifs te
 snd:SndT K te t
noncomputable def rY:VTT:=fun S Q=>Q true S
theorem cW:VTs K X [] yN rY:=⟨wc,fun _ _ _ _ _ _ _ k h q=>q _ _ _ k .refl h⟩
theorem dJ {tA:TT} {wA:VTT} (h:VTe K X c tA wA):VTs K X [c] tA wA:=⟨wd h.pe,h.snd⟩
noncomputable def oC (vi:VTN) (n:Nat) (ix:List Nat) (vg:VG) (vt:VTT) (ve:VT):VTN:=fun S Q=>vi S fun ds S1=>ds.length<=1000000/\∃Iv:Nat->List D->List Sl->Prop,Iv 0 [] S1 /\
 (∀i d ys S2,ds[i]?=some d->Iv i ys S2->vg d (bA n ix S2) fun S3=>vt S3 fun b S4=>if b=true then ve S4 fun r S5=>∃x,r=.d x/\Iv (i+1) (ys++[x]) (backS n ix S2 S5) else Iv (i+1) ys (backS n ix S2 S4)) /\
 ∀ys S2,Iv ds.length ys S2->Q ys S2
theorem cz {ifs:List Expr} {scope:Scope} {tg cs:List Str} {target:Expr} {wi:TI} {vi:VTN} {g:TG} {vg:VG} {tc:TT} {vt:VTT} {te:TE} {ve:VT} (Sc:bq X scope tg cs ix) (hcalm:X.calm=true) (kg:cH tg.length ix g) (hnd:ix.Nodup)
  (hi:VI K X target iter wi vi) (hg:∀C fp s H,VGe K (au X scope (tg++cs) C fp s H) target g vg) (hc:∀C fp s H,VTs K (au X scope (tg++cs) C fp s H) ifs tc vt) (he:∀C fp s H,VE K (au X scope (tg++cs) C fp s H) true elt te ve)
  (hs:∀x,foldedSetIterable iter X.env x=pure x:=by intro _;rfl):VN K X (.ListComp elt [⟨target,iter,ifs,0⟩] scope pos) (jL wi tg.length ix g tc te) (oC vi tg.length ix vg vt ve):=by
 have sg:SndG K g vg:=(hg 0 [] X.s₀ (fun _=>none)).snd
 have sc:SndT K tc vt:=(hc 0 [] X.s₀ (fun _=>none)).snd
 have se:SndE K true te ve:=(he 0 [] X.s₀ (fun _=>none)).snd
 refine ⟨we Sc hcalm kg hi.pi (fun C fp s H=>(hg C fp s H).pg) (fun C fp s H=>(hc C fp s H).pe) (fun C fp s H=>(he C fp s H).pe) hs,fun H0 Z σ H S Q C k t hq=>?_⟩
 refine hi.snd H0 Z σ H S _ _ k t fun J ds H1 S1 k1 st1 gd zr1=>?_
 obtain ⟨hl,Iv,i0,hs,hd⟩:=zr1
 refine ⟨fun i m ys H=>m=ds.length-i/\i<=ds.length/\ys.length<=i/\∃S2 zs,OK K H0 Z σ H S2/\Step Z σ S1 H1 σ S2 H/\Reps K (NM Z σ S2) (Fr H0) H ys zs/\Iv i zs S2,⟨ds.length,by simp,Nat.zero_le _,Nat.le_refl _,S1,[],k1,.refl,.nil,i0⟩,?_⟩
 rintro i m ys H2 ⟨rfl,hi,hy,S2,zs,k2,st2,rz,p⟩
 obtain ⟨g1,g2,g3⟩:=gd σ S2 H2 (fun _=>k2.nm) st2.1 i
 have hsz:(1000000:Nat) < sizeLine:=by rw [sizeLine_eq];lia
 by_cases hlt:i < ds.length
 ·refine .inr ⟨g1 hlt,by lia,fun ys' H'=>ys'.length<=i+1/\∃S' zs',OK K H0 Z σ H' S'/\Step Z σ S1 H1 σ S' H'/\Reps K (NM Z σ S') (Fr H0) H' ys' zs'/\Iv (i+1) zs' S',fun ys' H' zt1=>by obtain ⟨p1,p2⟩:=zt1;exact ⟨ds.length-(i+1),by lia,rfl,hlt,p1,p2⟩,fun x H3 y=>?_⟩
  obtain ⟨hgr,d,hd',rd⟩:=g2 x H3 y hlt
  replace k2:=k2.grow hgr
  replace st2:=st2.trans (.grow hgr)
  replace rz:=rz.step (.grow hgr)
  have kc:=k2.capt (n:=tg.length) hnd
  have rd':Rep K (NM (Zin Z ix σ S2) (L2.capt tg.length ix σ) (bA tg.length ix S2)) AnyF H3 x d:=rd.mono (fun a n _=>⟨fun z=>n (iW.mp z),rfl⟩) fun _ x=>x
  -- the target leaves what the block took over
  have h1:=sg H0 _ _ H3 _ x d _ (fun σ4 H4=>∃S4,OK K H0 (Zin Z ix σ S2) σ4 H4 S4/\Step (Zin Z ix σ S2) (L2.capt tg.length ix σ) (bA tg.length ix S2) H3 σ4 S4 H4/\vt S4 fun b S5=>if b=true then ve S5 fun r S6=>∃x,r=.d x/\Iv (i+1) (zs++[x]) (backS tg.length ix S2 S6) else Iv (i+1) zs (backS tg.length ix S2 S5)) kc rd' (hs i d zs S2 hd' p) (fun σ4 H4 S4 k4 st4 q4=>⟨S4,k4,st4,q4⟩)
  have h2:=kg x σ H3 _ h1
  refine (hg 0 [] X.s₀ (fun _=>none)).mono _ _ _ _ _ ?_ h2
  rintro σ4 H4 ⟨⟨hl4,hσ4⟩,S4,k4,st4,q4⟩
  refine sc H0 _ σ4 H4 S4 _ _ k4 q4 fun bb H5 S5 k5 st5 q5=>?_
  cases bb with
  | false=>
   rw [if_neg Bool.false_ne_true] at q5 ⊢
   obtain ⟨kb,sb,nb⟩:=k2.back k5 (st4.trans st5) hσ4
   exact ⟨by lia,_,zs,kb,st2.trans sb,rz.step sb,q5⟩
  | true=>
   rw [if_pos rfl] at q5 ⊢
   refine se H0 _ σ4 H5 S5 _ _ k5 q5 fun vv H6 r S6 k6 st6 rr zr1=>?_
   obtain ⟨xx,er,q6⟩:=zr1
   subst er
   obtain ⟨kb,sb,nb⟩:=k2.back k6 ((st4.trans st5).trans st6) hσ4
   refine ⟨by simp;lia,_,zs++[xx],kb,st2.trans sb,Reps.append (rz.step sb) (.cons (Rep.mono (fun a n _=>⟨nb a n,rfl⟩) (fun _ x=>x rfl) rr) .nil),q6⟩
 ·have e:i=ds.length:=by lia
  refine .inl ⟨g3 e,by lia,fun l hp=>?_⟩
  exact hq l ys zs H2 _ S2 k2 (st1.trans st2) hp (aY hp) aK (bU hp (rz.mono (fun _ n _=>⟨n,rfl⟩) fun _ x _=>x)) (hd zs S2 (by rw [<- e];exact p))
theorem rZ {elt iter:Expr} {pos spos py:Pos} {yy:Str} {ii:Nat} {ifs:List Expr} {scope:Scope} {tg cs:List Str} {target:Expr} {wi:TI} {vi:VTN} {g:TG} {vg:VG} {tc:TT} {vt:VTT} {te:TE} {ve:VT} (hN0:X.N.Nodup) (hi0:X.N[ii]?=some yy) (hx0:Loc X.env.scope yy) (hf0:X.fn yy=true\/X.env.scope.names.lookup yy=some .local)
  (Sc:bq X scope tg cs ix) (hcalm:X.calm=true) (kg:cH tg.length ix g) (hnd:ix.Nodup)
  (hi:VI K X target iter wi vi) (hg:∀C fp s H,VGe K (au X scope (tg++cs) C fp s H) target g vg) (hc:∀C fp s H,VTs K (au X scope (tg++cs) C fp s H) ifs tc vt) (he:∀C fp s H,VE K (au X scope (tg++cs) C fp s H) true elt te ve)
  (hsw:swapsWith (.ListComp elt [⟨target,iter,ifs,0⟩] scope pos) (some (.Name yy py)) spos.line X.env=pure true:=by rfl) (hs:∀x,foldedSetIterable iter X.env x=pure x:=by intro _;rfl):VS K X (.Assign [.Name yy py] (.ListComp elt [⟨target,iter,ifs,0⟩] scope pos) spos) (dD (jL wi tg.length ix g tc te) (bI ii)) (rR ii (oC vi tg.length ix vg vt ve)):=by
 have h:=cz (pos:=pos) Sc hcalm kg hnd hi hg hc he hs
 refine ⟨lS hN0 hi0 hx0 Sc hcalm kg hi.pi (fun C fp s H=>(hg C fp s H).pg) (fun C fp s H=>(hc C fp s H).pe) (fun C fp s H=>(he C fp s H).pe) hf0 hsw hs,fun H0 Z σ H S V E k t l=>h.snd H0 Z σ H S _ _ k t fun a vs ds H1 H' S' k1 st1 ha hg hl rr zr1=>?_⟩
 obtain ⟨hi,q⟩:=zr1
 obtain ⟨k2,st2⟩:=k1.setNew (s:=.own ds) hi ha hg ⟨a,vs,rfl,hl,k1.dom a ha,rr⟩ rfl
 exact l.nx _ _ _ k2 (st1.trans st2) q
theorem fG {elt iter:Expr} {pos spos py:Pos} {yy:Str} {ii:Nat} {ifs:List Expr} {scope:Scope} {tg cs:List Str} {target:Expr} {wi:TI} {vi:VTN} {g:TG} {vg:VG} {tc:TT} {vt:VTT} {te:TE} {ve:VT} (hN0:X.N.Nodup) (hi0:X.N[ii]?=some yy) (hx0:Loc X.env.scope yy) (hf0:X.fn yy=true\/X.env.scope.names.lookup yy=some .local)
  (Sc:bq X scope tg cs ix) (hcalm:X.calm=true) (kg:cH tg.length ix g) (hnd:ix.Nodup)
  (hi:VI K X target iter wi vi) (hg:∀C fp s H,VGe K (au X scope (tg++cs) C fp s H) target g vg) (hc:∀C fp s H,VTs K (au X scope (tg++cs) C fp s H) ifs tc vt) (he:∀C fp s H,VE K (au X scope (tg++cs) C fp s H) true elt te ve)
  (hsw:swapsWith (.ListComp elt [⟨target,iter,ifs,0⟩] scope pos) (some (.Name yy py)) spos.line X.env=pure true:=by rfl) (hs:∀x,foldedSetIterable iter X.env x=pure x:=by intro _;rfl):VS K X (.Assign [.Name yy py] (.ListComp elt [⟨target,iter,ifs,0⟩] scope pos) spos) (dD (jL wi tg.length ix g tc te) (bI ii)) (qc (AF (oC vi tg.length ix vg vt ve)) (vgN ii)):=by
 have h:=cz (pos:=pos) Sc hcalm kg hnd hi hg hc he hs
 refine ⟨lS hN0 hi0 hx0 Sc hcalm kg hi.pi (fun C fp s H=>(hg C fp s H).pg) (fun C fp s H=>(hc C fp s H).pe) (fun C fp s H=>(he C fp s H).pe) hf0 hsw hs,ni (aB (m:=false) h).snd fun H0 Z σ H S v d Q C k r zt1 hc=>by obtain ⟨hi,q⟩:=zt1;exact hc _ _ _ (k.setVal hi r).1 (k.setVal hi r).2 q⟩
end
end VL
end
section
namespace VL
open PySem L2
section
variable {P:Program} {w:World} {K:PySem.W.Frag} {mg:Str->Option Value} {base:Heap}
noncomputable def slots (n:Nat) (ds:List D):List Sl:=ds.map .val++List.replicate (n-ds.length) .no
theorem dw {N:List Str} {i:Nat} (h:vs[i]?=some v):(start N vs)[i]?=some (some v):=by
 unfold L2.start
 have hi:=(List.getElem?_eq_some_iff.mp h).1
 rw [List.getElem?_append_left (by simpa using hi)]
 simp [h]
theorem lX {n:Nat} {i:Nat} {s:Sl} (h:(slots n ds)[i]?=some s):s=.no\/∃d,s=.val d/\ds[i]?=some d:=by
 unfold slots at h
 by_cases hi:i < ds.length
 ·rw [List.getElem?_append_left (by simpa using hi)] at h
  simp [hi] at h
  subst h
  exact .inr ⟨_,rfl,by simp [hi]⟩
 ·rw [List.getElem?_append_right (by simpa using hi)] at h
  have:=List.mem_of_getElem? h
  exact .inl (List.eq_of_mem_replicate this)
theorem cX {n:Nat} {i:Nat} {s:Sl} (h:(slots n ds)[i]?=some s):s.mut=false:=by
 rcases lX h with rfl | ⟨d,rfl,_⟩ <;> rfl
theorem sd {N:List Str} (r:Reps K Any AnyF H vs ds):OK K H (fun _=>False) (start N vs) H (slots N.length ds) where
 len:=by simp [L2.start,slots,r.length]
 dom:=fun _ e=>e
 zl:=fun _ z=>z.elim
 nz:=fun i s a h m _=>by rw [cX h] at m;cases m
 inj:=fun i j a s t h1 h2 m1=>by rw [cX h1] at m1;cases m1
 at_:=fun i o s h1 h2=>by
  rcases lX h2 with rfl | ⟨d,rfl,e⟩
  ·trivial
  ·obtain ⟨v,e1,e2⟩:=r.getD e
   rw [dw e1] at h1
   cases h1
   refine ⟨v,rfl,e2.mono (fun a _ _=>⟨?_,rfl⟩) fun _ x=>x⟩
   rintro (⟨j,s,g1,g2,_⟩ | z)
   ·rw [cX g1] at g2;cases g2
   ·exact z
theorem bM {x:Str} {st:Stmt} {N ps:List Str} {k:Nat} (S:Src K mg x st) (sc:aH N ps (aj st))
  (hb:∀(kV doc pm:Value) (an:Option Addr) (cdv ct:Value) (us:List Value),us.length=ps.length->bindArgs (PySem.W.fnOf x x (bZ st) (bt st) (aj st) .none kV doc pm an cdv ct) ⟨us,[]⟩=pure (ps.zip us))
  (len:∀ds R,p ds R->ds.length=ps.length)
  (hbody:∀(f:Addr) (cdv:Value) (A:Around) (outer:List Env) (s:Shared) (H:Hp) (E:XK),bY k (A.deeper (PyProof.Rows.envOfC x (aj st) s.heap.objs.size f cdv)) ->
   ∃ts t,VSs K (iJ CX0 P w K mg base N x (aj st) f cdv A outer s H E).nox (bt st) ts t/\∀ds R,p ds R->t { nx:=fun _=>R .non,rt:=fun d _=>R d } (slots N.length ds)):Has P w K mg base (k+1) x ps (spP K p):=by
 refine S.has sc hb (fun vs H Q E zq1=>by obtain ⟨ds,R,r,h,_⟩:=zq1;rw [r.length];exact len ds R h) fun f cdv A outer s H vs Q E hr ⟨ds,R,r,h,fin⟩=>?_
 obtain ⟨ts,t,vs',q⟩:=hbody f cdv A outer s H E hr
 have k0:=sd (N:=N) r
 have st0:∀{σ' S' H'},Step (fun _=>False) (start N vs) (slots N.length ds) H σ' S' H'->∀a,H a≠none->H' a=H a:=fun st a e=>(st.1 a (by
  rintro (⟨j,s,g1,g2,_⟩ | z)
  ·rw [cX g1] at g2;cases g2
  ·exact z) e).1
 refine ⟨ts,vs'.ps,vs'.snd H _ _ H _ _ _ k0 (q ds R h) ⟨fun σ' H' S' k' st q=>fin .non .non H' q (st0 st) .non,fun σ' H' S' k' st q=>q.elim,fun σ' H' S' k' st q=>q.elim,fun v d σ' H' S' k' st rr q=>fin d v H' q (st0 st) (rr.mono (fun _ _ _=>⟨trivial,rfl⟩) fun _ x=>x)⟩⟩
noncomputable def dM (n:Nat) (a:Addr) (ns:List Int) (ds es:List D):List Sl:=ds.map .val++.pen (some a) ns::(es.map .val++List.replicate (n-(ds.length+1+es.length)) .no)
theorem jS {n:Nat} {a:Addr} {ds es:List D} {i:Nat} {s:Sl} (h:(dM n a ns ds es)[i]?=some s):s=.no\/(∃d,s=.val d/\(ds++.non::es)[i]?=some d/\i≠ds.length)\/(i=ds.length/\s=.pen (some a) ns):=by
 unfold dM at h
 by_cases hi:i < ds.length
 ·rw [List.getElem?_append_left (by simpa using hi)] at h
  simp [hi] at h
  subst h
  exact .inr (.inl ⟨_,rfl,by rw [List.getElem?_append_left hi];simp [hi],by lia⟩)
 ·by_cases hi2:i=ds.length
  ·subst hi2
   rw [List.getElem?_append_right (by simp)] at h
   simp at h
   exact .inr (.inr ⟨rfl,h.symm⟩)
  ·rw [List.getElem?_append_right (by simp;lia)] at h
   rw [List.length_map] at h
   obtain ⟨j,hj⟩:∃j,i-ds.length=j+1:=⟨i-ds.length-1,by lia⟩
   rw [hj,List.getElem?_cons_succ] at h
   by_cases hj2:j < es.length
   ·rw [List.getElem?_append_left (by simpa using hj2)] at h
    simp [hj2] at h
    subst h
    refine .inr (.inl ⟨_,rfl,?_,hi2⟩)
    rw [List.getElem?_append_right (by lia),hj,List.getElem?_cons_succ]
    simp [hj2]
   ·rw [List.getElem?_append_right (by simpa using hj2)] at h
    exact .inl (List.eq_of_mem_replicate (List.mem_of_getElem? h))
theorem jT {x:Str} {st:Stmt} {N ps:List Str} {k:Nat} (j:Nat) {p:List Int->List D->(D->List Int->Prop)->Prop} (S:Src K mg x st) (sc:aH N ps (aj st))
  (hb:∀(kV doc pm:Value) (an:Option Addr) (cdv ct:Value) (us:List Value),us.length=ps.length->bindArgs (PySem.W.fnOf x x (bZ st) (bt st) (aj st) .none kV doc pm an cdv ct) ⟨us,[]⟩=pure (ps.zip us))
  (len:∀ns ds R,p ns ds R->ds.length+1=ps.length)
  (hbody:∀(f:Addr) (cdv:Value) (A:Around) (outer:List Env) (s:Shared) (H:Hp) (E:XK),bY k (A.deeper (PyProof.Rows.envOfC x (aj st) s.heap.objs.size f cdv)) ->
   ∃ts t,VSs K (iJ CX0 P w K mg base N x (aj st) f cdv A outer s H E).nox (bt st) ts t/\∀a ns ds es R,ds.length=j->p ns (ds++es) R->t { nx:=fun S'=>∃ns',S'[j]?=some (.pen (some a) ns')/\R .non ns',rt:=fun d S'=>∃ns',S'[j]?=some (.pen (some a) ns')/\R d ns' } (dM N.length a ns ds es)) :
  Has P w K mg base (k+1) x ps (spI K j p):=by
 refine S.has sc hb (fun vs H Q E zq1=>by
  obtain ⟨a,ws,us,ns,ds,es,R,e,hl,hp,r1,r2,h,_⟩:=zq1
  have:=len _ _ _ h
  rw [e,List.length_append,List.length_cons,r1.length,r2.length]
  rw [List.length_append] at this
  lia) fun f cdv A outer s H vs Q E hr zr1=>?_
 obtain ⟨a,ws,us,ns,ds,es,R,e,hl,hp,r1,r2,h,fin⟩:=zr1
 subst e
 obtain ⟨ts,t,vs',q⟩:=hbody f cdv A outer s H E hr
 have hdl:ds.length=j:=by rw [<- r1.length];exact hl
 subst hdl
 have hmut:∀{i:Nat} {s:Sl},(dM N.length a ns ds es)[i]?=some s->s.mut=true->i=ds.length/\s=.pen (some a) ns:=fun {i s} h m=>by
  rcases jS h with rfl | ⟨d,rfl,_⟩ | h
  ·cases m
  ·cases m
  ·exact h
 have hpen:(start N (ws++.ref a::us))[ds.length]?=some (some (V.ref a)):=dw (by rw [<- hl];simp)
 have hmo:∀b,Mo (fun _=>False) (start N (ws++.ref a::us)) (dM N.length a ns ds es) b->b=a:=fun b z=>by
  rcases z with ⟨i,s,g1,g2,g3⟩ | z
  ·obtain ⟨rfl,_⟩:=hmut g1 g2
   rw [hpen] at g3;cases g3;rfl
  ·exact z.elim
 have hll:N.length-(ws.length+(us.length+1))=N.length-(ds.length+1+es.length):=by rw [r1.length,r2.length];lia
 have k0:OK K H (fun _=>False) (start N (ws++.ref a::us)) H (dM N.length a ns ds es):={
  len:=by simp [L2.start,dM,r1.length,r2.length];lia
  dom:=fun _ e=>e
  zl:=fun _ z=>z.elim
  nz:=fun _ _ _ _ _ _ z=>z
  inj:=fun i j a s t h1 h2 m1 m2 _ _=>by rw [(hmut h1 m1).1,(hmut h2 m2).1]
  at_:=fun i o s h1 h2=>by
   rcases jS h2 with rfl | ⟨d,rfl,e,hi⟩ | ⟨rfl,rfl⟩
   ·trivial
   ·have rr:∃v,(ws++.ref a::us)[i]?=some v/\Rep K (·≠a) AnyF H v d:=by
     by_cases hi2:i < ds.length
     ·rw [List.getElem?_append_left hi2] at e
      obtain ⟨v,e1,e2⟩:=r1.getD e
      exact ⟨v,by rw [List.getElem?_append_left (by rw [r1.length];exact hi2)];exact e1,e2⟩
     ·rw [List.getElem?_append_right (by lia)] at e
      obtain ⟨j,hj⟩:∃j,i-ds.length=j+1:=⟨i-ds.length-1,by lia⟩
      rw [hj,List.getElem?_cons_succ] at e
      obtain ⟨v,e1,e2⟩:=r2.getD e
      exact ⟨v,by rw [List.getElem?_append_right (by rw [r1.length];lia),r1.length,hj,List.getElem?_cons_succ];exact e1,e2⟩
    obtain ⟨v,e1,e2⟩:=rr
    rw [dw e1] at h1
    cases h1
    exact ⟨v,rfl,e2.mono (fun b n _=>⟨fun z=>n (hmo b z),rfl⟩) fun _ x=>x⟩
   ·rw [hpen] at h1
    cases h1
    exact ⟨a,rfl,fun b z=>by cases z;rfl,hp⟩ }
 have st0:∀{σ' S' H'},Step (fun _=>False) (start N (ws++.ref a::us)) (dM N.length a ns ds es) H σ' S' H'->∀b,b≠a->H b≠none->H' b=H b:=fun st b n e=>(st.1 b (fun z=>n (hmo b z)) e).1
 have pn:∀{σ' S' H' ns'},OK K H (fun _=>False) σ' H' S'->S'[ds.length]?=some (.pen (some a) ns')->σ'[ds.length]?=some (some (V.ref a))/\H' a=some (.lst (ns'.map .int)):=fun k' e=>by
  obtain ⟨o,e1,b,rfl,e2,e3⟩:=k'.ownAt e
  obtain rfl:=e2 a rfl
  exact ⟨e1,e3⟩
 refine ⟨ts,vs'.ps,vs'.snd H _ _ H _ _ _ k0 (q a ns ds es R rfl h) ⟨fun σ' H' S' k' st zt1=>by obtain ⟨ns',e,q⟩:=zt1;exact fin .non ns' .non H' q (st0 st) (pn k' e).2 .non,fun σ' H' S' k' st q=>q.elim,fun σ' H' S' k' st q=>q.elim,fun v d σ' H' S' k' st rr ⟨ns',e,q⟩=>fin d ns' v H' q (st0 st) (pn k' e).2 (rr.mono (fun b n _=>⟨fun z=>?_,rfl⟩) fun _ x=>x)⟩⟩
 subst z
 exact n _ _ _ e (pn k' e).1
end
end VL
end
section
namespace VL
open PySem L2
mutual
noncomputable def pd:D->PyData
 | .int i=>.int i
 | .bl b=>.bool b
 | .non=>.none
 | .str x=>.str x
 | .ty _=>.none
 | .dic _ _=>.none
 | .exc _=>.none
 | .dib _ _=>.none
 | .tup ds=>.tuple (pds ds)
 | .lst ds=>.list (pds ds)
noncomputable def pds:List D->List PyData
 | []=>[]
 | d::r=>pd d::pds r
end
mutual
noncomputable def noTy:D->Bool
 | .ty _=>false
 | .dic _ _=>false
 | .exc _=>false
 | .dib _ _=>false
 | .tup ds=>iX ds
 | .lst ds=>iX ds
 | _=>true
noncomputable def iX:List D->Bool
 | []=>true
 | d::r=>noTy d&&iX r
end
section
variable {K:PySem.W.Frag} {X:Cx} {pins:List (Addr×Obj)} {σ:St} {H:Hp} {s:Shared} {N:AP} {F:FP}
mutual
theorem bB (I:Inv X pins σ H s) (hK:X.K=K) {v:V} {d:D} {u:Value}:Rep K N F H v d->noTy d=true->RelV v u->∃as,Reads s.heap u (pd d) as:=fun hh ee rr=>by
 cases hh with
 | int i=>have r:=rr;obtain ⟨t,rfl⟩:=r;exact ⟨_,.int i t⟩
 | bl b=>have r:=rr;cases r;exact ⟨_,.bool b⟩
 | non=>have r:=rr;cases r;exact ⟨_,.none⟩
 | str x=>have r:=rr;obtain ⟨t,rfl⟩:=r;exact ⟨_,.str x t⟩
 | ty x=>have e:=ee;cases e
 | dic n f h _ _ rs=>have e:=ee;simp [noTy] at e
 | exc n h _=>have e:=ee;simp [noTy] at e
 | dib n f h _ _ _ rs=>have e:=ee;simp [noTy] at e
 | tup n h rs=>
  have e:=ee
  have r:=rr
  cases r
  obtain ⟨its,rv,⟨o,ho,hc,n,hd⟩,_⟩:=I.tuple (xs:=_) (.inl h)
  obtain ⟨as,ra⟩:=cw I hK rs (by simpa [noTy] using e) rv
  exact ⟨as,.tuple ho hc hd (by simpa using ra)⟩
 | tupK h rs=>
  have e:=ee
  have r:=rr
  cases r
  obtain ⟨its,rv,⟨o,ho,hc,n,hd⟩,_⟩:=I.tuple (xs:=_) (by rw [hK];exact fB h)
  obtain ⟨as,ra⟩:=cw I hK rs (by simpa [noTy] using e) rv
  exact ⟨as,.tuple ho hc hd (by simpa using ra)⟩
 | lst n f h rs=>
  have e:=ee
  have r:=rr
  cases r
  obtain ⟨its,rv,pl,_⟩:=I.list (xs:=_) (.inl (.inl h))
  obtain ⟨o,ho,hc,n,hd⟩:=pl.isList
  obtain ⟨as,ra⟩:=cw I hK rs (by simpa [noTy] using e) rv
  exact ⟨_,.list ho hc hd (by simpa using ra)⟩
 | lstF n f h rs=>
  have e:=ee
  have r:=rr
  cases r
  obtain ⟨its,rv,pl,_⟩:=I.list (xs:=_) (.inl (.inr ⟨_,h⟩))
  obtain ⟨o,ho,hc,n,hd⟩:=pl.isList
  obtain ⟨as,ra⟩:=cw I hK rs (by simpa [noTy] using e) rv
  exact ⟨_,.list ho hc hd (by simpa using ra)⟩
 | lstK f h rs=>
  have e:=ee
  have r:=rr
  cases r
  obtain ⟨its,rv,pl,_⟩:=I.list (xs:=_) (by rw [hK];exact iQ h)
  obtain ⟨o,ho,hc,n,hd⟩:=pl.isList
  obtain ⟨as,ra⟩:=cw I hK rs (by simpa [noTy] using e) rv
  exact ⟨_,.list ho hc hd (by simpa using ra)⟩
theorem cw (I:Inv X pins σ H s) (hK:X.K=K) {vs:List V} {ds:List D} {us:List Value}:Reps K N F H vs ds->iX ds=true->Vals vs us->∃as,ReadsAll s.heap us (pds ds) as:=fun hh ee rr=>by
 cases hh with
 | nil=>have r:=rr;cases r;exact ⟨_,.nil⟩
 | cons h t=>
  have e:=ee
  have r:=rr
  simp only [iX,Bool.and_eq_true] at e
  cases r with
  | cons r1 r2=>
   obtain ⟨as,ra⟩:=bB I hK h e.1 r1
   obtain ⟨bs,rb⟩:=cw I hK t e.2 r2
   exact ⟨_,.cons ra rb⟩
end
end
structure Okd (d:D):Prop where
 ty:noTy d=true
 lay:(pd d).canLay0=true
 dep:(pd d).depth<=40
noncomputable def AN (K:PySem.W.Frag) (neg:Bool):R2:=fun x y H Q=>∃d1 d2,Rep K Any AnyF H x d1/\Rep K Any AnyF H y d2/\Okd d1/\Okd d2/\Q (.bl (if neg then !PyData.eqv (pd d1) (pd d2) else PyData.eqv (pd d1) (pd d2))) H
noncomputable def dN (neg:Bool):D->D->(D->Prop)->Prop:=fun d1 d2 q=>Okd d1/\Okd d2/\q (.bl (if neg then !PyData.eqv (pd d1) (pd d2) else PyData.eqv (pd d1) (pd d2)))
noncomputable def AO (K:PySem.W.Frag) (neg:Bool):R2:=fun x y H Q=>∃d ds,Rep K Any AnyF H x d/\(Rep K Any AnyF H y (.lst ds)\/Rep K Any AnyF H y (.tup ds))/\Okd d/\Okd (.lst ds)/\Q (.bl (if neg then !(pds ds).any (fun y=>PyData.eqv y (pd d)) else (pds ds).any (fun y=>PyData.eqv y (pd d)))) H
noncomputable def nj (neg:Bool):D->D->(D->Prop)->Prop:=fun d d2 q=>∃ds,(d2=.lst ds\/d2=.tup ds)/\Okd d/\Okd (.lst ds)/\q (.bl (if neg then !(pds ds).any (fun y=>PyData.eqv y (pd d)) else (pds ds).any (fun y=>PyData.eqv y (pd d))))
section
variable {K:PySem.W.Frag} {X:Cx}
theorem gC (hK:X.K=K) (hu:X.A.units+64 < cLine):OpR X (compareOp .Eq) (AN K false):=by
 rintro pins s σ H x y v u Q I rx ry ⟨d1,d2,r1,r2,o1,o2,q⟩
 obtain ⟨as,ra⟩:=bB I hK r1 o1.ty rx
 obtain ⟨bs,rb⟩:=bB I hK r2 o2.ty ry
 exact SeqAt.compareEq_reads ra rb o1.lay o2.lay (by have:=o1.dep;lia) ⟨.bl _,H,I,rfl,q⟩
theorem dO (hK:X.K=K) (hu:X.A.units+64 < cLine):OpR X (compareOp .NotEq) (AN K true):=by
 rintro pins s σ H x y v u Q I rx ry ⟨d1,d2,r1,r2,o1,o2,q⟩
 obtain ⟨as,ra⟩:=bB I hK r1 o1.ty rx
 obtain ⟨bs,rb⟩:=bB I hK r2 o2.ty ry
 exact SeqAt.compareNe_reads ra rb o1.lay o2.lay (by have:=o1.dep;lia) ⟨.bl _,H,I,rfl,q⟩
theorem jU (o:Okd (.lst ds)):PyData.canLayAll0 (pds ds)=true/\PyData.depthAll (pds ds)<=40/\noTy (.tup ds)=true:=by
 refine ⟨by simpa [pd,PyData.canLay0] using o.lay,?_,by simpa [noTy] using o.ty⟩
 have:=o.dep
 simp only [pd,PyData.depth] at this
 lia
theorem sf (hK:X.K=K) (hu:X.A.units+64 < cLine):OpR X (compareOp .In) (AO K false):=by
 rintro pins s σ H x y v u Q I rx ry ⟨d,ds,r1,r2,o1,o2,q⟩
 obtain ⟨as,ra⟩:=bB I hK r1 o1.ty rx
 obtain ⟨h1,h2,h3⟩:=jU o2
 rcases r2 with r2 | r2
 ·obtain ⟨bs,rb⟩:=bB I hK r2 o2.ty ry
  exact SeqAt.in_list_reads (by simpa [pd] using rb) ra h1 o1.lay (by lia) ⟨.bl _,H,I,rfl,q⟩
 ·obtain ⟨bs,rb⟩:=bB I hK r2 h3 ry
  exact SeqAt.in_tuple_reads (by simpa [pd] using rb) ra h1 o1.lay (by lia) ⟨.bl _,H,I,rfl,q⟩
theorem jV (hK:X.K=K) (hu:X.A.units+64 < cLine):OpR X (compareOp .NotIn) (AO K true):=by
 rintro pins s σ H x y v u Q I rx ry ⟨d,ds,r1,r2,o1,o2,q⟩
 obtain ⟨as,ra⟩:=bB I hK r1 o1.ty rx
 obtain ⟨h1,h2,h3⟩:=jU o2
 rcases r2 with r2 | r2
 ·obtain ⟨bs,rb⟩:=bB I hK r2 o2.ty ry
  exact SeqAt.notIn_list_reads (by simpa [pd] using rb) ra h1 o1.lay (by lia) ⟨.bl _,H,I,rfl,q⟩
 ·obtain ⟨bs,rb⟩:=bB I hK r2 h3 ry
  exact SeqAt.notIn_tuple_reads (by simpa [pd] using rb) ra h1 o1.lay (by lia) ⟨.bl _,H,I,rfl,q⟩
theorem cO {neg:Bool}:dt K (AN K neg) (dN neg):=fun x y H d1 d2 q C r1 r2 zt1 hc=>by obtain ⟨o1,o2,h⟩:=zt1;exact ⟨d1,d2,r1,r2,o1,o2,hc _ _ h fun _ _=>.bl _⟩
theorem oD {neg:Bool}:dt K (AO K neg) (nj neg):=fun x y H d1 d2 q C r1 r2 zt1 hc=>by obtain ⟨ds,e,o1,o2,h⟩:=zt1;exact ⟨d1,ds,r1,e.imp (fun e=>by rw [<- e];exact r2) (fun e=>by rw [<- e];exact r2),o1,o2,hc _ _ h fun _ _=>.bl _⟩
end
theorem cY {α:Type} (f:α->D):∀l:List α,pds (l.map f)=l.map fun x=>pd (f x)
 | []=>rfl
 | _::r=>by simp [pds,cY f r]
theorem gE {α:Type} {f:α->D} (h:∀x,noTy (f x)=true):∀l:List α,iX (l.map f)=true
 | []=>rfl
 | _::r=>by simp [iX,h,gE h r]
theorem iY {α:Type} {f:α->PyData} (h:∀x,(f x).canLay0=true):∀l:List α,PyData.canLayAll0 (l.map f)=true
 | []=>rfl
 | _::r=>by simp [PyData.canLayAll0,h,iY h r]
theorem iZ {α:Type} {f:α->PyData} {n:Nat} (h:∀x,(f x).depth<=n):∀l:List α,PyData.depthAll (l.map f)<=n
 | []=>by simp [PyData.depthAll]
 | x::r=>by simp only [List.map_cons,PyData.depthAll];exact Nat.max_le.mpr ⟨h x,iZ h r⟩
structure Enc {α:Type} (n:Nat) (f:α->D):Prop where
 ty:∀x,noTy (f x)=true
 lay:∀x,(pd (f x)).canLay0=true
 dep:∀x,(pd (f x)).depth<=n
 eq:∀x y,PyData.eqv (pd (f x)) (pd (f y))=true↔x=y
theorem eZ {α:Type} {f:α->PyData} (h:∀x y,PyData.eqv (f x) (f y)=true↔x=y):∀l m:List α,PyData.eqvAll (l.map f) (m.map f)=true↔l=m
 | [],[]=>by simp [PyData.eqvAll]
 | [],_::_=>by simp [PyData.eqvAll]
 | _::_,[]=>by simp [PyData.eqvAll]
 | x::r,y::t=>by simp [PyData.eqvAll,h,eZ h r t]
theorem dP:Enc 0 D.int:=⟨fun _=>rfl,fun _=>rfl,fun _=>Nat.le_refl _,fun x y=>by simp [pd,PyData.eqv]⟩
theorem Enc.tup {α:Type} {n:Nat} {f:α->D} (e:Enc n f):Enc (n+1) (fun l:List α=>D.tup (l.map f)) where
 ty:=fun l=>by simp only [noTy];exact gE e.ty l
 lay:=fun l=>by simp only [pd,PyData.canLay0,cY];exact iY e.lay l
 dep:=fun l=>by simp only [pd,PyData.depth,cY];exact Nat.succ_le_succ (iZ e.dep l)
 eq:=fun l m=>by simp only [pd,PyData.eqv,cY];exact eZ e.eq l m
theorem Enc.lst {α:Type} {n:Nat} {f:α->D} (e:Enc n f):Enc (n+1) (fun l:List α=>D.lst (l.map f)) where
 ty:=fun l=>by simp only [noTy];exact gE e.ty l
 lay:=fun l=>by simp only [pd,PyData.canLay0,cY];exact iY e.lay l
 dep:=fun l=>by simp only [pd,PyData.depth,cY];exact Nat.succ_le_succ (iZ e.dep l)
 eq:=fun l m=>by simp only [pd,PyData.eqv,cY];exact eZ e.eq l m
theorem dQ:Enc 1 eT:=dP.tup
theorem b9:Enc 2 eL:=dQ.lst
theorem Enc.okd {α:Type} {n:Nat} {f:α->D} (e:Enc n f) (hn:n<=40) (x:α):Okd (f x):=⟨e.ty x,e.lay x,Nat.le_trans (e.dep x) hn⟩
theorem Enc.eqv {α:Type} [DecidableEq α] {n:Nat} {f:α->D} (e:Enc n f) (x y:α):PyData.eqv (pd (f x)) (pd (f y))=decide (x=y):=by
 rw [Bool.eq_iff_iff,e.eq,decide_eq_true_iff]
theorem Enc.any {α:Type} [DecidableEq α] {n:Nat} {f:α->D} (e:Enc n f) (x:α) (l:List α):(pds (l.map f)).any (fun y=>PyData.eqv y (pd (f x)))=decide (x∈l):=by
 rw [cY,List.any_map]
 induction l with
 | nil=>simp
 | cons a r ih=>
  rw [List.any_cons,ih]
  simp only [Function.comp,e.eqv]
  rw [Bool.eq_iff_iff]
  simp only [Bool.or_eq_true,decide_eq_true_eq,List.mem_cons]
  exact ⟨fun z=>z.elim (fun z=>.inl z.symm) .inr,fun z=>z.elim (fun z=>.inl z.symm) .inr⟩
theorem yT {α:Type} [DecidableEq α] {n:Nat} {f:α->D} (e:Enc n f) {x y:α} (h:q (.bl (decide (x=y)))) (hn:n<=40:=by decide):dN false (f x) (f y) q:=⟨e.okd hn x,e.okd hn y,by simpa [e.eqv] using h⟩
theorem yU {α:Type} [DecidableEq α] {n:Nat} {f:α->D} (e:Enc n f) {x y:α} (h:q (.bl (!decide (x=y)))) (hn:n<=40:=by decide):dN true (f x) (f y) q:=⟨e.okd hn x,e.okd hn y,by simpa [e.eqv] using h⟩
theorem lY {α:Type} [DecidableEq α] {n:Nat} {f:α->D} (e:Enc n f) {x:α} {l:List α} (h:q (.bl (!decide (x∈l)))) (hn:n+1<=40:=by decide):nj true (f x) (.lst (l.map f)) q:=⟨_,.inl rfl,e.okd (by lia) x,e.lst.okd hn l,by simpa only [e.any,if_true] using h⟩
end VL
namespace VL
open PySem L2
section
variable {K:PySem.W.Frag} {X:Cx}
theorem cD (hK:X.K=K):cI X (.builtin "len") (fun xs H Q=>∃p ys,xs=[.ref p]/\(SqL K H p ys\/SqT K H p ys)/\Q (.int ys.length) H):=by subst hK;exact kA
theorem Ds (hK:X.K=K):cI X (.builtin "isinstance") (Ax K):=by subst hK;exact rF
theorem eH:bootBuiltins "sorted"=some (.builtin "sorted"):=by decide +kernel
theorem si:bootBuiltins "max"=some (.builtin "max"):=by decide +kernel
theorem sj:bootBuiltins "min"=some (.builtin "min"):=by decide +kernel
theorem sr:bootBuiltins "all"=some (.builtin "all"):=by decide +kernel
end
end VL
end
section
namespace VL
open PySem L2
section
variable {S S1:List Sl} {Q:VR->List Sl->Prop} {QT:Bool->List Sl->Prop} {QN:List D->List Sl->Prop} {QA:List VR->List Sl->Prop} {W:bh} {va vb:VT} {vr:VTA} {vt vu:VTT} {vn:VTN} {s t:VTS} {g:VG}
noncomputable def Dt (u:VTS) (W:bh):List Sl->Prop:=fun S'=>∃S'',Wk S' S''/\u W S''
theorem Du {u:VTS} (h:t ⟨Dt u W,W.rt,W.bk,W.ct⟩ S):wq t u W S:=h
theorem AQ {u:VTS} (h:u W S):Dt u W S:=⟨S,Wk.refl S,h⟩
noncomputable def Dv (g:VG) (W:bh):VR->List Sl->Prop:=fun r S1=>∃d,r=.d d/\g d S1 W.nx
theorem Dw (h:va S (Dv g W)):qc va g W S:=h
theorem AR (h:g d S W.nx):Dv g W (.d d) S:=⟨d,rfl,h⟩
theorem FG {i:Nat} {q:List Sl->Prop} (e:Nat.ble (i+1) S.length=true) (h:q (S.set i (.val d))):vgN i d S q:=⟨Nat.le_of_ble_eq_true e,h⟩
theorem Dy {n:Nat} {u:List D->List Sl->(List Sl->Prop)->Prop} {q:List Sl->Prop} (e:ds.length=n) (h:u ds S q):vgT n u (.tup ds) S q:=⟨ds,rfl,e,h⟩
theorem AS {q:List Sl->Prop} (h:q S):yR [] S q:=⟨rfl,h⟩
theorem wD {r:List D} {u:List D->List Sl->(List Sl->Prop)->Prop} {q:List Sl->Prop} (h:g d S fun S1=>u r S1 q):rQ g u (d::r) S q:=⟨d,r,rfl,h⟩
noncomputable def yV (i:Nat) (W:bh):List D->List Sl->Prop:=fun ds S1=>i < S1.length/\W.nx (S1.set i (.own ds))
theorem AT {i:Nat} (h:vn S (yV i W)):rR i vn W S:=h
theorem wF {i:Nat} (e:Nat.ble (i+1) S.length=true) (h:W.nx (S.set i (.own ds))):yV i W ds S:=⟨Nat.le_of_ble_eq_true e,h⟩
noncomputable def yW (i:Nat) (W:bh):List D->List Sl->Prop:=fun ds S1=>∃ns:List Int,ds=ns.map .int/\i < S1.length/\W.nx (S1.set i (.pen none ns))
theorem AU {i:Nat} (h:vn S (yW i W)):yS i vn W S:=h
theorem oE {i:Nat} (e:Nat.ble (i+1) S.length=true) (h:W.nx (S.set i (.pen none ns))):yW i W (ns.map .int) S:=⟨ns,rfl,Nat.le_of_ble_eq_true e,h⟩
noncomputable def Dz (W:bh):VR->List Sl->Prop:=fun r S1=>∃d,retD S1 r=some d/\W.rt d S1
theorem DA (h:va S (Dz W)):Dj va W S:=h
theorem AV (e:retD S r=some d) (h:W.rt d S):Dz W r S:=⟨d,e,h⟩
noncomputable def kIf (t u:VTS) (W:bh):Bool->List Sl->Prop:=fun b S1=>if b=true then t W S1 else u W S1
theorem DB {u:VTS} (h:vt S (kIf t u W)):Dk vt t u W S:=h
theorem yX {u:VTS} {b:Bool} (h1:b=true->t W S) (h2:b=false->u W S):kIf t u W b S:=by
 cases b with
 | true=>show (if true=true then _ else _);rw [if_pos rfl];exact h1 rfl
 | false=>show (if false=true then _ else _);rw [if_neg Bool.false_ne_true];exact h2 rfl
theorem su {u:VTS} (h:t W S):kIf t u W true S:=by show (if true=true then _ else _);rw [if_pos rfl];exact h
theorem sC {u:VTS} (h:u W S):kIf t u W false S:=by show (if false=true then _ else _);rw [if_neg Bool.false_ne_true];exact h
theorem bf {u:VTS} {p:Prop} [Decidable p] (h1:p->t W S) (h2:¬p->u W S):kIf t u W (decide p) S:=yX (fun e=>h1 (of_decide_eq_true e)) (fun e=>h2 (of_decide_eq_false e))
theorem AW {u:VTS} {p:Prop} [Decidable p] (h1:¬p->t W S) (h2:p->u W S):kIf t u W (!decide p) S:=yX (fun e=>h1 (by simpa using e)) (fun e=>h2 (by simpa using e))
noncomputable def yY (W:bh):VR->List Sl->Prop:=fun _ S1=>W.nx S1
theorem AX (h:va S (yY W)):yQ va W S:=h
theorem wG (h:W.nx S):yY W r S:=h
theorem AY (h:W.nx S):yP W S:=h
theorem j_c (h:Q (.d d) S):vC d S Q:=h
theorem DC {i:Nat} (e:rdO i S[i]?=some r) (h:Q r S):rJ i S Q:=⟨r,e,h⟩
noncomputable def sE (Q:VR->List Sl->Prop):VR->List Sl->Prop:=fun r S'=>(match r with | .d d=>flat d=true | .own _=>True)/\Q r S'
theorem AZ (h:va S (sE Q)):rK va S Q:=h
theorem cZ (e:flat d=true) (h:Q (.d d) S):sE Q (.d d) S:=⟨e,h⟩
theorem sF {i:Nat} (h:Q (.own i) S):sE Q (.own i) S:=⟨trivial,h⟩
noncomputable def k2a (w:D->D->(D->Prop)->Prop) (vb:VT) (Q:VR->List Sl->Prop):VR->List Sl->Prop:=fun ra S1=>vb S1 fun rb S2=>∃d1 d2,get S2 ra=some d1/\get S2 rb=some d2/\w d1 d2 fun d=>Q (.d d) S2
noncomputable def k2b (w:D->D->(D->Prop)->Prop) (Q:VR->List Sl->Prop) (ra:VR):VR->List Sl->Prop:=fun rb S2=>∃d1 d2,get S2 ra=some d1/\get S2 rb=some d2/\w d1 d2 fun d=>Q (.d d) S2
theorem j_2 {w:D->D->(D->Prop)->Prop} (h:va S (k2a w vb Q)):v2 w va vb S Q:=h
theorem FH {w:D->D->(D->Prop)->Prop} {ra:VR} (h:vb S (k2b w Q ra)):k2a w vb Q ra S:=h
theorem FI {w:D->D->(D->Prop)->Prop} {ra rb:VR} {d1 d2:D} (e1:get S ra=some d1) (e2:get S rb=some d2) (h:w d1 d2 fun d=>Q (.d d) S):k2b w Q ra rb S:=⟨d1,d2,e1,e2,h⟩
theorem DD {f:Int->Int->L2.V} {i j:Int} (h:q (ofV (f i j))):wI0 f (.int i) (.int j) q:=⟨i,j,rfl,rfl,h⟩
theorem DE {C:Int->Int->Prop} {f:Int->Int->L2.V} {i j:Int} (c:C i j) (h:q (ofV (f i j))):wI C f (.int i) (.int j) q:=⟨i,j,rfl,rfl,c,h⟩
theorem DF {neg:Bool} (h:q (.bl (if neg then !rL d else rL d))):AD neg d .non q:=⟨rfl,h⟩
noncomputable def DG (vb:VT) (Q:VR->List Sl->Prop):VR->List Sl->Prop:=fun ra S1=>vb S1 fun rb S2=>∃ds i d,(get S2 ra=some (.lst ds)\/get S2 ra=some (.tup ds))/\get S2 rb=some (.int i)/\atI ds i=some d/\Q (.d d) S2
noncomputable def A0 (Q:VR->List Sl->Prop) (ra:VR):VR->List Sl->Prop:=fun rb S2=>∃ds i d,(get S2 ra=some (.lst ds)\/get S2 ra=some (.tup ds))/\get S2 rb=some (.int i)/\atI ds i=some d/\Q (.d d) S2
theorem FJ (h:va S (DG vb Q)):vIx va vb S Q:=h
theorem DH {ra:VR} (h:vb S (A0 Q ra)):DG vb Q ra S:=h
theorem bj {ra rb:VR} {i:Int} (e1:get S ra=some (.lst ds)) (e2:get S rb=some (.int i)) (e3:atI ds i=some d) (h:Q (.d d) S):A0 Q ra rb S:=⟨ds,i,d,.inl e1,e2,e3,h⟩
theorem yZ {ra rb:VR} {i:Int} (e1:get S ra=some (.tup ds)) (e2:get S rb=some (.int i)) (e3:atI ds i=some d) (h:Q (.d d) S):A0 Q ra rb S:=⟨ds,i,d,.inr e1,e2,e3,h⟩
noncomputable def kUn (f:Int->L2.V) (Q:VR->List Sl->Prop):VR->List Sl->Prop:=fun r S1=>∃i,get S1 r=some (.int i)/\Q (.d (ofV (f i))) S1
theorem FL {f:Int->L2.V} (h:va S (kUn f Q)):vUn f va S Q:=h
theorem DI {f:Int->L2.V} {i:Int} (e:get S r=some (.int i)) (h:Q (.d (ofV (f i))) S):kUn f Q r S:=⟨i,e,h⟩
noncomputable def sG (QT:Bool->List Sl->Prop):VR->List Sl->Prop:=fun r S'=>∃k,r=.d (.bl k)/\QT k S'
theorem A1 (h:va S (sG QT)):iS va S QT:=h
theorem wH {k:Bool} (h:QT k S):sG QT (.d (.bl k)) S:=⟨k,rfl,h⟩
noncomputable def qh (u:VTT) (QT:Bool->List Sl->Prop):Bool->List Sl->Prop:=fun c S1=>if c=true then u S1 QT else QT false S1
noncomputable def kOr (u:VTT) (QT:Bool->List Sl->Prop):Bool->List Sl->Prop:=fun c S1=>if c=true then QT true S1 else u S1 QT
noncomputable def DJ (QT:Bool->List Sl->Prop):Bool->List Sl->Prop:=fun c S1=>QT (!c) S1
theorem DK (h:vt S (qh vu QT)):C8 vt vu S QT:=h
theorem FN (h:vt S (kOr vu QT)):vOr vt vu S QT:=h
theorem DL (h:vt S (DJ QT)):C9 vt S QT:=h
theorem A2 {b:Bool} (h:QT (!b) S):DJ QT b S:=h
theorem sH {b:Bool} (h1:b=true->vu S QT) (h2:b=false->QT false S):qh vu QT b S:=by
 cases b with
 | true=>show (if true=true then _ else _);rw [if_pos rfl];exact h1 rfl
 | false=>show (if false=true then _ else _);rw [if_neg Bool.false_ne_true];exact h2 rfl
theorem y0 {b:Bool} (h1:b=true->QT true S) (h2:b=false->vu S QT):kOr vu QT b S:=by
 cases b with
 | true=>show (if true=true then _ else _);rw [if_pos rfl];exact h1 rfl
 | false=>show (if false=true then _ else _);rw [if_neg Bool.false_ne_true];exact h2 rfl
theorem sI (h:vu S QT):kOr vu QT false S:=y0 (fun e=>nomatch e) fun _=>h
theorem sJ (h:QT true S):kOr vu QT true S:=y0 (fun _=>h) fun e=>nomatch e
theorem oF (h:vu S QT):qh vu QT true S:=sH (fun _=>h) fun e=>nomatch e
theorem oG (h:QT false S):qh vu QT false S:=sH (fun e=>nomatch e) fun _=>h
noncomputable def oH (vb:VT) (Q:VR->List Sl->Prop):VR->List Sl->Prop:=fun r S1=>∃c,r=.d (.bl c)/\if c=true then vb S1 Q else Q (.d (.bl false)) S1
theorem A3 (h:va S (oH vb Q)):yO va vb S Q:=h
theorem oI {c:Bool} (h1:c=true->vb S Q) (h2:c=false->Q (.d (.bl false)) S):oH vb Q (.d (.bl c)) S:=⟨c,rfl,by
 cases c with
 | true=>rw [if_pos rfl];exact h1 rfl
 | false=>rw [if_neg Bool.false_ne_true];exact h2 rfl⟩
noncomputable def wJ (va vb:VT) (Q:VR->List Sl->Prop):Bool->List Sl->Prop:=fun c S1=>if c=true then va S1 Q else vb S1 Q
theorem DM (h:vt S (wJ va vb Q)):vIf vt va vb S Q:=h
theorem sL {b:Bool} (h1:b=true->va S Q) (h2:b=false->vb S Q):wJ va vb Q b S:=by
 cases b with
 | true=>show (if true=true then _ else _);rw [if_pos rfl];exact h1 rfl
 | false=>show (if false=true then _ else _);rw [if_neg Bool.false_ne_true];exact h2 rfl
theorem DN (h:QA [] S):wm S QA:=h
noncomputable def sM (vr:VTA) (QA:List VR->List Sl->Prop):VR->List Sl->Prop:=fun r S1=>vr S1 fun rs S2=>QA (r::rs) S2
theorem A4 (h:va S (sM vr QA)):jO va vr S QA:=h
theorem wK (h:vr S fun rs S2=>QA (r::rs) S2):sM vr QA r S:=h
noncomputable def m3 (Q:VR->List Sl->Prop):List VR->List Sl->Prop:=fun rs S1=>∃ds,allD rs=some ds/\ds.length<=1000/\Q (.d (.tup ds)) S1
theorem DO (h:vr S (m3 Q)):Da vr S Q:=h
theorem A5 (e:allD rs=some ds) (e2:Nat.ble ds.length 1000=true) (h:Q (.d (.tup ds)) S):m3 Q rs S:=⟨ds,e,Nat.le_of_ble_eq_true e2,h⟩
noncomputable def DP (QN:List D->List Sl->Prop):List VR->List Sl->Prop:=fun rs S1=>∃ds,allD rs=some ds/\ds.length<=1000/\QN ds S1
theorem DQ (h:vr S (DP QN)):Dc vr S QN:=h
theorem A6 (e:allD rs=some ds) (e2:Nat.ble ds.length 1000=true) (h:QN ds S):DP QN rs S:=⟨ds,e,Nat.le_of_ble_eq_true e2,h⟩
noncomputable def DR (Q:VR->List Sl->Prop):List D->List Sl->Prop:=fun ds S1=>Q (.d (.lst ds)) S1
theorem DS (h:vn S (DR Q)):AF vn S Q:=h
theorem A7 (h:Q (.d (.lst ds)) S):DR Q ds S:=h
noncomputable def kCB (w:List D->(D->Prop)->Prop) (Q:VR->List Sl->Prop):List VR->List Sl->Prop:=fun rs S1=>∃ds,gets S1 rs=some ds/\w ds fun d=>Q (.d d) S1
theorem FO {w:List D->(D->Prop)->Prop} (h:vr S (kCB w Q)):vCB w vr S Q:=h
theorem DT {w:List D->(D->Prop)->Prop} (e:gets S rs=some ds) (h:w ds fun d=>Q (.d d) S):kCB w Q rs S:=⟨ds,e,h⟩
theorem A8 {es:List D} (h:q (.int es.length)):AG [.lst es] q:=⟨es,.inl rfl,h⟩
theorem FQ (h:vr S (kCB p Q)):vFn p vr S Q:=h
noncomputable def DU (p:List D->(D->Prop)->Prop) (QN:List D->List Sl->Prop):List VR->List Sl->Prop:=fun rs S1=>∃ds,gets S1 rs=some ds/\p ds fun d=>∃es,d=.lst es/\flats es=true/\QN es S1
theorem DV (h:vr S (DU p QN)):Dh p vr S QN:=h
theorem A9 (e:gets S rs=some ds) (h:p ds fun d=>∃es,d=.lst es/\flats es=true/\QN es S):DU p QN rs S:=⟨ds,e,h⟩
noncomputable def DW (j:Nat) (p:List Int->List D->(D->List Int->Prop)->Prop) (Q:VR->List Sl->Prop):List VR->List Sl->Prop:=fun rs S1=>∃i rs' ad ns ds,pick rs j=some (i,rs')/\S1[i]?=some (.pen ad ns)/\allD rs'=some ds/\p ns ds fun d ns'=>Q (.d d) (S1.set i (.pen ad ns'))
theorem DX {j:Nat} {p:List Int->List D->(D->List Int->Prop)->Prop} (h:vr S (DW j p Q)):wu j p vr S Q:=h
theorem Ba {j:Nat} {p:List Int->List D->(D->List Int->Prop)->Prop} {rs rs':List VR} {i:Nat} {ad:Option Addr} (e1:pick rs j=some (i,rs')) (e2:S[i]?=some (.pen ad ns)) (e3:allD rs'=some ds) (h:p ns ds fun d ns'=>Q (.d d) (S.set i (.pen ad ns'))):DW j p Q rs S:=⟨i,rs',ad,ns,ds,e1,e2,e3,h⟩
noncomputable def kL (QN:List D->List Sl->Prop):List VR->List Sl->Prop:=fun rs S1=>∃r ds,rs=[r]/\(get S1 r=some (.lst ds)\/get S1 r=some (.tup ds))/\flats ds=true/\QN ds S1
theorem sN (h:vr S (kL QN)):oA vr S QN:=h
theorem sO (e:get S r=some (.lst ds)) (f:flats ds=true) (h:QN ds S):kL QN [r] S:=⟨r,ds,rfl,.inl e,f,h⟩
theorem sP (e:get S r=some (.tup ds)) (f:flats ds=true) (h:QN ds S):kL QN [r] S:=⟨r,ds,rfl,.inr e,f,h⟩
noncomputable def sQ (Q:VR->List Sl->Prop):List VR->List Sl->Prop:=fun rs S1=>∃r ds,rs=[r]/\(get S1 r=some (.lst ds)\/r=.d (.tup ds))/\flats ds=true/\Q (.d (.tup ds)) S1
theorem wL (h:vr S (sQ Q)):rN vr S Q:=h
theorem kM (e:get S r=some (.lst ds)) (f:flats ds=true) (h:Q (.d (.tup ds)) S):sQ Q [r] S:=⟨r,ds,rfl,.inl e,f,h⟩
noncomputable def DY (i:Nat) (Q:VR->List Sl->Prop):VR->List Sl->Prop:=fun r S1=>∃d ds,r=.d d/\S1[i]?=some (.own ds)/\ds.length<=1000000/\Q (.d .non) (S1.set i (.own (ds++[d])))
theorem DZ {i:Nat} (e:S[i]?=some (.own ds)) (h:va S (DY i Q)):AL i va S Q:=⟨⟨ds,e⟩,h⟩
theorem Bb {i:Nat} (e:S[i]?=some (.own ds)) (e2:ds.length<=1000000) (h:Q (.d .non) (S.set i (.own (ds++[d])))):DY i Q (.d d) S:=⟨d,ds,rfl,e,e2,h⟩
noncomputable def oJ (i:Nat) (vi:VT) (W:bh):VR->List Sl->Prop:=fun r S1=>(∃s,S1[i]?=some s/\s.mut=true)/\vi S1 fun ri S2=>∃j,get S2 ri=some (.int j) /\
  ((∃ad ns k n,S2[i]?=some (.pen ad ns)/\ixN ns.length j=some k/\r=.d (.int n)/\W.nx (S2.set i (.pen ad (ns.set k n)))) \/
   (∃ds k d,S2[i]?=some (.own ds)/\ixN ds.length j=some k/\r=.d d/\W.nx (S2.set i (.own (ds.set k d)))))
noncomputable def oK (i:Nat) (W:bh) (r:VR):VR->List Sl->Prop:=fun ri S2=>∃j,get S2 ri=some (.int j) /\
  ((∃ad ns k n,S2[i]?=some (.pen ad ns)/\ixN ns.length j=some k/\r=.d (.int n)/\W.nx (S2.set i (.pen ad (ns.set k n)))) \/
   (∃ds k d,S2[i]?=some (.own ds)/\ixN ds.length j=some k/\r=.d d/\W.nx (S2.set i (.own (ds.set k d)))))
theorem wM {i:Nat} (h:va S (oJ i vb W)):rS i va vb W S:=h
theorem sR {i:Nat} {s:Sl} (e:S[i]?=some s) (m:s.mut=true) (h:vb S (oK i W r)):oJ i vb W r S:=⟨⟨s,e,m⟩,h⟩
theorem qj {i:Nat} {ri:VR} {j n:Int} {ad:Option Addr} {k:Nat} (e1:get S ri=some (.int j)) (e2:S[i]?=some (.pen ad ns)) (e3:ixN ns.length j=some k) (h:W.nx (S.set i (.pen ad (ns.set k n)))):oK i W (.d (.int n)) ri S:=⟨j,e1,.inl ⟨ad,ns,k,n,e2,e3,rfl,h⟩⟩
noncomputable def kFor (g:VG) (b:VTS) (W:bh):List D->List Sl->Prop:=fun ds S1=>runFor g b W ds S1\/∃Iv:Nat->List Sl->Prop,Iv 0 S1/\(∀i d S2,ds[i]?=some d->Iv i S2->g d S2 fun S3=>b { W with nx:=Iv (i+1),ct:=Iv (i+1),bk:=W.nx } S3)/\∀S2,Iv ds.length S2->W.nx S2
theorem D0 {b:VTS} (h:vn S (kFor g b W)):Dr vn g b W S:=h
theorem e8 {b:VTS} (Iv:Nat->List Sl->Prop) (h0:Iv 0 S) (h1:∀i d S2,ds[i]?=some d->Iv i S2->g d S2 fun S3=>b ⟨Iv (i+1),W.rt,W.nx,Iv (i+1)⟩ S3) (h2:∀S2,Iv ds.length S2->W.nx S2):kFor g b W ds S:=.inr ⟨Iv,h0,h1,h2⟩
theorem dR {b:VTS} {lo:Int} {n:Nat} (Iv:Nat->List Sl->Prop) (h0:Iv 0 S) (h1:∀i S2,i < n->Iv i S2->g (.int (lo+(i:Int))) S2 fun S3=>b ⟨Iv (i+1),W.rt,W.nx,Iv (i+1)⟩ S3) (h2:∀S2,Iv n S2->W.nx S2):kFor g b W (rg lo n) S:=
 .inr ⟨Iv,h0,fun i d S2 e p=>by
  have hi:i < n:=by have:=(List.getElem?_eq_some_iff.mp e).1;rwa [gB] at this
  rw [rT hi] at e
  cases e
  exact h1 i S2 hi p,fun S2 p=>h2 S2 (by rwa [gB] at p)⟩
noncomputable def D1 (QN:List D->List Sl->Prop):VR->List Sl->Prop:=fun r S1=>∃ds,r=.d (.lst ds)/\QN ds S1
theorem D2 (h:va S (D1 QN)):Do va S QN:=h
theorem Bc (h:QN ds S):D1 QN (.d (.lst ds)) S:=⟨ds,rfl,h⟩
noncomputable def D3 (QN:List D->List Sl->Prop):List VR->List Sl->Prop:=fun rs S1=>∃j:Int,rs=[.d (.int j)]/\-(2 ^ 62)<=j/\j < 2 ^ 62/\QN (rg 0 j.toNat) S1
noncomputable def D4 (QN:List D->List Sl->Prop):List VR->List Sl->Prop:=fun rs S1=>∃i j:Int,rs=[.d (.int i),.d (.int j)]/\(-(2 ^ 62)<=i/\i < 2 ^ 62/\-(2 ^ 62)<=j/\j < 2 ^ 62)/\QN (rg i (j-i).toNat) S1
theorem D5 (h:vr S (D3 QN)):Dp vr S QN:=h
theorem D6 (h:vr S (D4 QN)):Dq vr S QN:=h
theorem Bd {j:Int} (h1:0<=j/\j < 1000000) (h:QN (rg 0 j.toNat) S):D3 QN [.d (.int j)] S:=⟨j,rfl,by lia,by lia,h⟩
theorem Be {i j:Int} (h1:-1000000<=i/\i < 1000000/\-1000000<=j/\j < 1000000) (h:QN (rg i (j-i).toNat) S):D4 QN [.d (.int i),.d (.int j)] S:=⟨i,j,rfl,⟨by lia,by lia,by lia,by lia⟩,h⟩
noncomputable def i3 (n:Nat) (ix:List Nat) (g:VG) (vt:VTT) (ve:VT) (QN:List D->List Sl->Prop):List D->List Sl->Prop:=fun ds S1=>ds.length<=1000000/\∃Iv:Nat->List D->List Sl->Prop,Iv 0 [] S1 /\
 (∀i d ys S2,ds[i]?=some d->Iv i ys S2->g d (bA n ix S2) fun S3=>vt S3 fun b S4=>if b=true then ve S4 fun r S5=>∃x,r=.d x/\Iv (i+1) (ys++[x]) (backS n ix S2 S5) else Iv (i+1) ys (backS n ix S2 S4)) /\
 ∀ys S2,Iv ds.length ys S2->QN ys S2
theorem Bf {n:Nat} {ve:VT} (h:vn S (i3 n ix g vt ve QN)):oC vn n ix g vt ve S QN:=h
noncomputable def fc (ve:VT) (A:D->List Sl->Prop) (B:List Sl->Prop):Bool->List Sl->Prop:=fun b S4=>if b=true then ve S4 fun r S5=>∃x,r=.d x/\A x S5 else B S4
noncomputable def nq (A:D->List Sl->Prop):VR->List Sl->Prop:=fun r S5=>∃x,r=.d x/\A x S5
theorem wN {n:Nat} {ve:VT} (Iv:Nat->List D->List Sl->Prop) (hl:ds.length<=1000000) (h0:Iv 0 [] S)
  (h1:∀i d ys S2,ds[i]?=some d->Iv i ys S2->g d (bA n ix S2) fun S3=>vt S3 (fc ve (fun x S5=>Iv (i+1) (ys++[x]) (backS n ix S2 S5)) (fun S4=>Iv (i+1) ys (backS n ix S2 S4)))) (h2:∀ys S2,Iv ds.length ys S2->QN ys S2):i3 n ix g vt ve QN ds S:=⟨hl,Iv,h0,h1,h2⟩
theorem sS {n:Nat} {ve:VT} {lo:Int} {m:Nat} (Iv:Nat->List D->List Sl->Prop) (hl:m<=1000000) (h0:Iv 0 [] S)
  (h1:∀i ys S2,i < m->Iv i ys S2->g (.int (lo+(i:Int))) (bA n ix S2) fun S3=>vt S3 (fc ve (fun x S5=>Iv (i+1) (ys++[x]) (backS n ix S2 S5)) (fun S4=>Iv (i+1) ys (backS n ix S2 S4)))) (h2:∀ys S2,Iv m ys S2->QN ys S2):i3 n ix g vt ve QN (rg lo m) S:=
 ⟨by rw [gB];exact hl,Iv,h0,fun i d ys S2 e p=>by
  have hi:i < m:=by have:=(List.getElem?_eq_some_iff.mp e).1;rwa [gB] at this
  rw [rT hi] at e
  cases e
  exact h1 i ys S2 hi p,fun ys S2 p=>h2 ys S2 (by rwa [gB] at p)⟩
theorem Bg (h:QT true S):rY S QT:=h
theorem fH {ve:VT} {A:D->List Sl->Prop} {B:List Sl->Prop} {b:Bool} (h1:b=true->ve S (nq A)) (h2:b=false->B S):fc ve A B b S:=by
 cases b with
 | true=>show (if true=true then _ else _);rw [if_pos rfl];exact h1 rfl
 | false=>show (if false=true then _ else _);rw [if_neg Bool.false_ne_true];exact h2 rfl
theorem qk {ve:VT} {A:D->List Sl->Prop} {B:List Sl->Prop} (h:ve S (nq A)):fc ve A B true S:=fH (fun _=>h) fun e=>nomatch e
theorem lZ {A:D->List Sl->Prop} {x:D} (h:A x S):nq A (.d x) S:=⟨x,rfl,h⟩
theorem D8 {i j:Int} (h:q (.bl (decide (i=j)))):wEq (.int i) (.int j) q:=⟨.int i,.int j,rfl,rfl,rfl,by simpa using h⟩
theorem D9 {i j:Int} (h:q (.bl (!decide (i=j)))):wNe (.int i) (.int j) q:=⟨.int i,.int j,rfl,rfl,rfl,by simpa using h⟩
theorem Ea {c:String} {b:Bool} (hn:∀n,d≠.ty n) (e:rD (tyD d) c=some b) (h:q (.bl b)) (hE:isE d=false:=by with_unfolding_all rfl):Df [d,.ty c] q:=⟨d,c,b,rfl,hn,hE,e,h⟩
end
end VL
end
section
namespace VL
open PySem L2
section
variable {K:PySem.W.Frag} {X:Cx} {m:Bool} {e a b c o:Expr} {ta tb tc te:TE} {va vb vc:VT} {pos:Pos}
theorem oM:∀{ps:List Addr} {nss:List (List Int)} {N:AP} {F:FP} {H:Hp},iM K (fun _=>none) ps nss->Reps K N F H (ps.map V.ref) (nss.map eT)
 | _,_,_,_,_,.nil=>.nil
 | _,_,_,_,_,.cons h t=>.cons (.tupK h Reps.ints) (oM t)
end
section
variable {S:List Sl} {Q:VR->List Sl->Prop} {QT:Bool->List Sl->Prop} {W:bh} {va vb:VT} {vt vu:VTT} {t u:VTS} {b:Bool}
theorem Eb {neg:Bool} {d1 d2:D} (a1:noTy d1=true) (a2:(pd d1).canLay0=true) (a3:Nat.ble (pd d1).depth 40=true) (b1:noTy d2=true) (b2:(pd d2).canLay0=true) (b3:Nat.ble (pd d2).depth 40=true)
  (h:q (.bl (if neg then !PyData.eqv (pd d1) (pd d2) else PyData.eqv (pd d1) (pd d2)))):dN neg d1 d2 q:=⟨⟨a1,a2,Nat.le_of_ble_eq_true a3⟩,⟨b1,b2,Nat.le_of_ble_eq_true b3⟩,h⟩
theorem Bh (e:b=true) (h:vu S QT):qh vu QT b S:=by subst e;exact oF h
theorem Bi (e:b=false) (h:QT false S):qh vu QT b S:=by subst e;exact oG h
theorem Ec (e:b=true) (h:QT true S):kOr vu QT b S:=by subst e;exact sJ h
theorem Ed (e:b=false) (h:vu S QT):kOr vu QT b S:=by subst e;exact sI h
theorem Ee (e:b=true) (h:t W S):kIf t u W b S:=by subst e;exact su h
theorem Ef (e:b=false) (h:u W S):kIf t u W b S:=by subst e;exact sC h
theorem FR (e:b=true) (h:va S Q):wJ va vb Q b S:=by subst e;exact sL (fun _=>h) fun e=>nomatch e
theorem FS (e:b=false) (h:vb S Q):wJ va vb Q b S:=by subst e;exact sL (fun e=>nomatch e) fun _=>h
theorem Eg {c:Bool} (e:c=true) (h:vb S Q):oH vb Q (.d (.bl c)) S:=by subst e;exact oI (fun _=>h) fun e=>nomatch e
theorem Eh {c:Bool} (e:c=false) (h:Q (.d (.bl false)) S):oH vb Q (.d (.bl c)) S:=by subst e;exact oI (fun e=>nomatch e) fun _=>h
end
section
variable {α:Type} {S:List Sl} {QN:List D->List Sl->Prop} {g:VG} {vt:VTT} {ve:VT} {n:Nat} {ix:List Nat}
theorem bp {β:Type} {xs:List α} {en:α->β} {i:Nat} {d:β} (h:(xs.map en)[i]?=some d):∃x,xs[i]?=some x/\d=en x/\x∈xs/\xs.take (i+1)=xs.take i++[x]:=by
 rw [List.getElem?_map] at h
 obtain ⟨x,h1,h2⟩:=Option.map_eq_some_iff.mp h
 refine ⟨x,h1,h2.symm,List.mem_of_getElem? h1,?_⟩
 rw [List.take_add_one,h1]
 rfl
theorem cE {xs:List α} {en f:α->D} {p:α->Bool} (hl:xs.length<=1000000)
  (h:∀x∈xs,∀(A:D->List Sl->Prop) (B:List Sl->Prop),(∀S5,backS n ix S S5=S->p x=true->A (f x) S5)->(∀S5,backS n ix S S5=S->p x=false->B S5)->g (en x) (bA n ix S) fun S3=>vt S3 (fc ve A B))
  (h2:QN ((xs.filter p).map f) S):i3 n ix g vt ve QN (xs.map en) S:=by
 refine wN (fun i ys S'=>S'=S/\ys=((xs.take i).filter p).map f) (by simpa using hl) ⟨rfl,by simp⟩ ?_ ?_
 ·rintro i d ys S2 e ⟨rfl,rfl⟩
  obtain ⟨x,h1,rfl,hm,ht⟩:=bp e
  refine h x hm _ _ (fun S5 e5 hp=>⟨e5,?_⟩) (fun S5 e5 hp=>⟨e5,?_⟩)
  ·rw [ht,List.filter_append,List.map_append]
   simp [hp]
  ·rw [ht,List.filter_append,List.map_append]
   simp [hp]
 ·rintro ys S2 ⟨rfl,rfl⟩
  rw [List.length_map,List.take_length]
  exact h2
theorem comp_map {xs:List α} {en f:α->D} (hl:xs.length<=1000000)
  (h:∀x∈xs,∀(A:D->List Sl->Prop) (B:List Sl->Prop),(∀S5,backS n ix S S5=S->A (f x) S5)->g (en x) (bA n ix S) fun S3=>vt S3 (fc ve A B))
  (h2:QN (xs.map f) S):i3 n ix g vt ve QN (xs.map en) S:=by
 refine cE (p:=fun _=>true) hl (fun x hx A B hA _=>h x hx A B fun S5 e=>hA S5 e rfl) ?_
 rwa [List.filter_eq_self.mpr (by intros;rfl)]
end
theorem oN {p:Prop} [Decidable p] {t u:VTS} {W:bh} (P:List Sl->Prop) (fin:∀S',P S'->W.nx S') (h1:∀nx,(∀S',P S'->nx S')->p->t ⟨nx,W.rt,W.bk,W.ct⟩ S) (h2:∀nx,(∀S',P S'->nx S')->¬p->u ⟨nx,W.rt,W.bk,W.ct⟩ S):kIf t u W (decide p) S:=
 bf (fun h=>h1 W.nx fin h) fun h=>h2 W.nx fin h
section
variable {α:Type} [DecidableEq α] {n:Nat} {f:α->D} {x y:α} {l:List α} {q:D->Prop}
theorem y4 (e:Enc n f) (hx:x∉l) (h:q (.bl true)) (hn:n+1<=40:=by decide):nj true (f x) (.lst (l.map f)) q:=lY e (by rw [decide_eq_false hx];exact h) hn
theorem y6 (e:Enc n f) (hx:x∈l) (h:q (.bl false)) (hn:n+1<=40:=by decide):nj true (f x) (.lst (l.map f)) q:=lY e (by rw [decide_eq_true hx];exact h) hn
theorem jW (e:Enc n f) (hx:x=y) (h:q (.bl true)) (hn:n<=40:=by decide):dN false (f x) (f y) q:=yT e (by rw [decide_eq_true hx];exact h) hn
theorem jX (e:Enc n f) (hx:x≠y) (h:q (.bl false)) (hn:n<=40:=by decide):dN false (f x) (f y) q:=yT e (by rw [decide_eq_false hx];exact h) hn
theorem gX (e:Enc n f) (hx:x≠y) (h:q (.bl true)) (hn:n<=40:=by decide):dN true (f x) (f y) q:=yU e (by rw [decide_eq_false hx];exact h) hn
theorem fI (e:Enc n f) (hx:x=y) (h:q (.bl false)) (hn:n<=40:=by decide):dN true (f x) (f y) q:=yU e (by rw [decide_eq_true hx];exact h) hn
end
theorem sT:∀{S:List Sl} {i:Nat} {ds:List D},S[i]?=some (.own ds)->Wk S (S.set i (.val (.lst ds)))
 | [],_,_,h=>by simp at h
 | s::r,0,ds,h=>by simp at h;subst h;exact .fz (Wk.refl r)
 | s::r,i+1,ds,h=>by simpa using Wk.keep (s:=s) (sT (i:=i) (by simpa using h))
end VL
end
section
namespace VL
open PySem L2 PySem.SeqAt PySem.Spec PyProof.Rows
section
variable {X:Cx} {pins:List (Addr×Obj)} {σ:L2.St} {H:Hp} {s:Shared} {K:PySem.W.Frag}
noncomputable def sU (K:PySem.W.Frag) (le:Int->Int->Prop):List V->Hp->VK->Prop:=fun xs H Q=>∃(l:Addr) (ns:List Int),xs=[.ref l]/\SqL K H l (ns.map V.int)/\ns≠[]/\∀M,M∈ns->(∀a∈ns,le M a)->Q (.int M) H
theorem sV (hK:X.K=K) (hc:X.calm=true):cI X (.builtin "min") (sU K (·<=·)):=by
 rintro pins s σ H xs us Q I r ⟨l,ns,e,hq,hne,q⟩
 subst e hK
 obtain ⟨u,rfl,rx⟩:=Vals.one r
 cases rx
 obtain ⟨vs,rv,pl,_⟩:=I.list hq
 obtain ⟨m,F⟩:=I.fr
 exact PySem.W.kso_min F lG pl.isList (by simpa using intsAre_of rv) (List.length_pos_iff.mpr hne) (I.ok.hd hc) fun h' M t tk F' N' h1 h2=>⟨.int M,H,I.led (t':=tk) F.ns F' N',⟨_,rfl⟩,q M h1 h2⟩
theorem sW (hK:X.K=K) (hc:X.calm=true):cI X (.builtin "max") (sU K fun M a=>a<=M):=by
 rintro pins s σ H xs us Q I r ⟨l,ns,e,hq,hne,q⟩
 subst e hK
 obtain ⟨u,rfl,rx⟩:=Vals.one r
 cases rx
 obtain ⟨vs,rv,pl,_⟩:=I.list hq
 obtain ⟨m,F⟩:=I.fr
 exact PySem.W.kso_max F lG pl.isList (by simpa using intsAre_of rv) (List.length_pos_iff.mpr hne) (I.ok.hd hc) fun h' M t tk F' N' h1 h2=>⟨.int M,H,I.led (t':=tk) F.ns F' N',⟨_,rfl⟩,q M h1 h2⟩
noncomputable def y8 (le:Int->Int->Prop):List D->(D->Prop)->Prop:=fun ds q=>∃ns:List Int,ds=[.lst (ns.map .int)]/\ns≠[]/\∀M,M∈ns->(∀a∈ns,le M a)->q (.int M)
theorem kO {le:Int->Int->Prop}:gW K (sU K le) (y8 le):=by
 rintro xs H ds q C r ⟨ns,rfl,hne,h⟩ hc
 obtain ⟨v,rfl,rv⟩:=rep1 r
 obtain ⟨a,vs,rfl,hq,rr⟩:=rv.sqL
 cases Reps.toInts rr
 exact ⟨a,ns,rfl,hq,hne,fun M h1 h2=>hc _ _ (h M h1 h2) fun _ _=>.int _⟩
end
section
variable {K:PySem.W.Frag} {X:Cx} {m:Bool} {e a b:Expr} {ta tb te:TE} {va vb:VT} {tr:TA} {vr:VTA} {pos p:Pos}
noncomputable def Ei (va:VT):VTT:=fun S Q=>va S fun r S1=>∃d b,get S1 r=some d/\tru d=some b/\Q b S1
theorem Bj (hK:X.K=K) (h:VE K X false e te va) (he:∀whole,isTrue e X.env whole=(do let v <- whole;standAt e.pos;holding [v] (truthy v)):=by intro _;rfl):VTe K X e (fun σ H Q=>te σ H fun x H'=>∃k,TruV K x H' k/\Q k H') (Ei va):=
 ⟨by subst hK;exact rn h.pe he,fun H0 Z σ H S Q C k t hc=>h.snd H0 Z σ H S _ _ k t fun v H1 r S1 k1 st1 rr zq1=>by
  obtain ⟨d,b,e1,e2,q⟩:=zq1
  refine ⟨b,?_,hc b H1 S1 k1 st1 q⟩
  have r1:=rr.get k1 e1
  cases d with
  | int i=>cases r1;cases e2;rfl
  | bl i=>cases r1;cases e2;rfl
  | non=>cases r1;cases e2;rfl
  | str i=>cases e2
  | ty i=>cases e2
  | dic ks i=>cases e2
  | exc i=>cases e2
  | dib i j=>cases e2
  | tup ds=>obtain ⟨a,vs,rfl,hq,rr'⟩:=r1.sqT;cases e2;exact .inr (.inl ⟨vs,hq,by cases rr' <;> rfl⟩)
  | lst ds=>obtain ⟨a,vs,rfl,hq,rr'⟩:=r1.sqL;cases e2;exact .inl ⟨vs,hq,by cases rr' <;> rfl⟩⟩
noncomputable def Bk (i j:Nat) (vr:VTA):VTS:=fun W S=>vr S fun rs S1=>∃d1 d2,rs=[.d d1,.d d2]/\i < S1.length/\j < S1.length/\W.nx ((S1.set i (.val d1)).set j (.val d2))
theorem Bl {i j:Nat} {stm:Stmt} (hp:PS X stm (qX i j tr)) (ha:AA K false tr vr):VS K X stm (qX i j tr) (Bk i j vr):=⟨hp,fun H0 Z σ H S W E k t l=>ha H0 Z σ H S _ _ k t fun vs H1 rs S1 k1 st1 rrs zq1=>by
 obtain ⟨d1,d2,e,hi,hj,q⟩:=zq1
 subst e
 cases rrs with
 | cons r1 t1=>
  cases t1 with
  | cons r2 t2=>
   cases t2
   have r1:Rep K (NM Z σ S1) AnyF H1 _ d1:=Rep.mono (fun _ n _=>⟨n,rfl⟩) (fun _ _=>trivial) r1
   have r2:Rep K (NM Z σ S1) AnyF H1 _ d2:=Rep.mono (fun _ n _=>⟨n,rfl⟩) (fun _ _=>trivial) r2
   obtain ⟨k2,st2⟩:=k1.setVal hi r1
   obtain ⟨k3,st3⟩:=k2.setVal (i:=j) (by simpa using hj) (r2.step st2)
   exact ⟨_,_,rfl,l.nx _ _ _ k3 ((st1.trans st2).trans st3) q⟩⟩
noncomputable def Ej (i:Nat) (t:VTN):VTN:=fun S Q=>(∃ds,S[i]?=some (.own ds))/\t S fun es S1=>∃ds,S1[i]?=some (.own ds)/\ds.length+es.length<=1000000/\Q (ds++es) S1
theorem sX {t:VTN} (i:Nat) (ho:PE X a (cT i)) (h:VN K X b tb t):VN K X (.BinOp a .Add b pos) (tOp C3 (cT i) tb) (Ej i t):=⟨qZ Au ho h.pe,fun H0 Z σ H S Q C k zq1 hc=>by
 obtain ⟨⟨ds0,e0⟩,t⟩:=zq1
 obtain ⟨o,g1,c,us,rfl,g2,g3,g4⟩:=k.ownAt e0
 refine ⟨.ref c,g1,h.snd H0 Z σ H S _ _ k t fun a' vs es H1 H' S1 k1 st1 ha hg hl rr zr1=>?_⟩
 obtain ⟨ds,e1,hlen,q⟩:=zr1
 obtain ⟨o',g1',c',us',rfl,g2',g3',g4'⟩:=k1.ownAt e1
 rw [g1] at g1';cases g1'
 have k2:=k1.grow hg
 have g2'':H' c=some (.lst us'):=by rw [hg c (by simp [g2'])];exact g2'
 refine ⟨c,a',us',vs,rfl,rfl,g2'',hl,by rw [g4'.length,rr.length,sizeLine_eq];lia,fun p hp=>?_⟩
 refine hc p _ _ H' _ S1 k2 (st1.trans (.grow hg)) hp (aY hp) aK (Reps.append ?_ ?_) q
 ·exact bU hp ((g4'.mono (fun b n e=>⟨n,hg b e⟩) fun _ x=>x).mono (fun _ n _=>⟨n,rfl⟩) fun _ x _=>x)
 ·exact bU hp (rr.mono (fun _ n _=>⟨n.1,rfl⟩) fun _ x _=>x)⟩
noncomputable abbrev VO:=List Sl->(Option Int->List Sl->Prop)->Prop
noncomputable def FT (K:PySem.W.Frag) (te:TO) (t:VO):Prop:=∀H0 Z σ H S Q C,OK K H0 Z σ H S->t S Q->(∀o H' S',OK K H0 Z σ H' S'->Step Z σ S H σ S' H'->Q o S'->C o H')->te σ H C
structure VOe (K:PySem.W.Frag) (X:Cx) (e:Option Expr) (te:TO) (t:VO):Prop where
 pe:PO X e te
 snd:FT K te t
noncomputable def Ek:VO:=fun S Q=>Q none S
noncomputable def sY (va:VT):VO:=fun S Q=>va S fun r S1=>∃i,r=.d (.int i)/\Q (some i) S1
theorem cf:VOe K X none oq Ek:=⟨vQ,fun _ _ _ _ _ _ _ k h q=>q _ _ _ k .refl h⟩
theorem bP (h:VE K X false e te va):VOe K X (some e) (yM te) (sY va):=⟨vR h.pe,fun H0 Z σ H S Q C k t hc=>h.snd H0 Z σ H S _ _ k t fun v H1 r S1 k1 st1 rr zq1=>by
 obtain ⟨i,e,q⟩:=zq1
 subst e
 cases (show Rep K _ _ H1 v (.int i) from rr)
 exact ⟨i,rfl,hc _ H1 S1 k1 st1 q⟩⟩
noncomputable def cutD (ds:List D) (lo hi:Option Int):List D:=(ds.drop (HT.sIx ds.length 0 lo)).take (HT.sIx ds.length ds.length hi-HT.sIx ds.length 0 lo)
theorem mh {N:AP} (r:Reps K N F H vs ds) (lo hi:Option Int):Reps K N F H (mX vs lo hi) (cutD ds lo hi):=by
 unfold mX cutD
 rw [r.length]
 exact (r.drop _).take _
end
end VL
end
section
namespace VL
open PySem L2
theorem wO {X:Cx} {i j:Nat} {stm:Stmt} {a b:Expr} {tr:TA} {vr:VTA} (hp:∀tr,PA X [a,b] tr->PS X stm (qX i j tr)) (ha:VA K X false [a,b] tr vr):VS K X stm (qX i j tr) (Bk i j vr):=Bl (hp _ ha.pe) ha.snd
section
variable {S:List Sl} {Q:VR->List Sl->Prop} {QT:Bool->List Sl->Prop} {QN:List D->List Sl->Prop} {W:bh} {va vb:VT} {vr:VTA} {vn:VTN} {vl vh:VO}
@[irreducible] noncomputable def wQ (i:Nat) (QN:List D->List Sl->Prop):List D->List Sl->Prop:=fun es S1=>∃ds,S1[i]?=some (.own ds)/\ds.length+es.length<=1000000/\QN (ds++es) S1
theorem El {i:Nat} (e:S[i]?=some (.own ds)) (h:vn S (wQ i QN)):Ej i vn S QN:=by unfold wQ at h;exact ⟨⟨ds,e⟩,h⟩
theorem nt {i:Nat} {es ds:List D} (e:S[i]?=some (.own ds)) (hl:ds.length+es.length<=1000000) (h:QN (ds++es) S):wQ i QN es S:=by unfold wQ;exact ⟨ds,e,hl,h⟩
@[irreducible] noncomputable def wR (QT:Bool->List Sl->Prop):VR->List Sl->Prop:=fun r S1=>∃d b,get S1 r=some d/\tru d=some b/\QT b S1
theorem Em (h:va S (wR QT)):Ei va S QT:=by unfold wR at h;exact h
theorem sZ {b:Bool} (e:get S r=some d) (e2:tru d=some b) (h:QT b S):wR QT r S:=by unfold wR;exact ⟨d,b,e,e2,h⟩
@[irreducible] noncomputable def wU (i j:Nat) (W:bh):List VR->List Sl->Prop:=fun rs S1=>∃d1 d2,rs=[.d d1,.d d2]/\i < S1.length/\j < S1.length/\W.nx ((S1.set i (.val d1)).set j (.val d2))
theorem En {i j:Nat} (h:vr S (wU i j W)):Bk i j vr W S:=by unfold wU at h;exact h
theorem Bm {i j:Nat} {d1 d2:D} (h1:i < S.length) (h2:j < S.length) (h:W.nx ((S.set i (.val d1)).set j (.val d2))):wU i j W [.d d1,.d d2] S:=by unfold wU;exact ⟨d1,d2,rfl,h1,h2,h⟩
variable {QO:Option Int->List Sl->Prop}
theorem Bn (h:QO none S):Ek S QO:=h
@[irreducible] noncomputable def kVo (QO:Option Int->List Sl->Prop):VR->List Sl->Prop:=fun r S1=>∃i,r=.d (.int i)/\QO (some i) S1
theorem tf (h:va S (kVo QO)):sY va S QO:=by unfold kVo at h;exact h
theorem Eo {i:Int} (h:QO (some i) S):kVo QO (.d (.int i)) S:=by unfold kVo;exact ⟨i,rfl,h⟩
theorem kP {le:Int->Int->Prop} (hne:ns≠[]) (h:∀M,M∈ns->(∀a∈ns,le M a)->q (.int M)):y8 le [.lst (ns.map .int)] q:=⟨ns,rfl,hne,h⟩
end
noncomputable def mnI:List Int->Int
 | []=>0
 | [a]=>a
 | a::r=>min a (mnI r)
theorem nu:∀{ns:List Int} {a:Int},a∈ns->mnI ns<=a
 | [b],a,h=>by simp at h;subst h;exact Int.le_refl _
 | b::c::r,a,h=>by
  rw [mnI]
  ·rcases List.mem_cons.mp h with rfl | h
   ·exact Int.min_le_left ..
   ·exact Int.le_trans (Int.min_le_right ..) (nu h)
  ·simp
theorem kQ:∀{ns:List Int},ns≠[]->mnI ns∈ns
 | [b],_=>by simp [mnI]
 | b::c::r,_=>by
  rw [show mnI (b::c::r)=min b (mnI (c::r)) from rfl]
  have:=kQ (ns:=c::r) (by simp)
  rcases Int.le_total b (mnI (c::r)) with h | h
  ·rw [Int.min_eq_left h];simp
  ·rw [Int.min_eq_right h];exact List.mem_cons_of_mem _ this
theorem kR {M:Int} (h:M∈ns) (h2:∀a∈ns,M<=a):M=mnI ns:=
 Int.le_antisymm (h2 _ (kQ (List.ne_nil_of_mem h))) (nu h)
end VL
end
section
namespace VL
open PySem L2
section
variable {K:PySem.W.Frag} {X:Cx} {m:Bool} {e o:Expr} {te:TE} {vb:VT} {pos:Pos}
noncomputable def Ep (rows:List (Int×List (List Int))) (vb:VT):VT:=fun S Q=>vb S fun rb S1=>∃k nss,get S1 rb=some (.int k)/\(k,nss)∈rows/\Q (.d (.tup (nss.map eT))) S1
theorem Bo {a:Addr} {rows:List (Int×List (List Int))} (hK:X.K=K) (hd:okD K a rows=true) (ho:PE X o (tC (.ref a))) (h:VE K X false e te vb) (hs:cV e):VE K X m (.Subscript o e pos) (tOp (C5 K rows) (tC (.ref a)) te) (Ep rows vb):=
 ⟨by subst hK;exact lM wb ho h.pe hs,fun H0 Z σ H S Q C k t hc=>h.snd H0 Z σ H S _ _ k t fun v H1 r S1 k1 st1 rr zq1=>by
  obtain ⟨i,nss,e1,hi,q⟩:=zq1
  cases rr.get k1 e1
  refine ⟨a,i,nss,rfl,rfl,hd,hi,fun v tt=>?_⟩
  obtain ⟨a',ps,rfl,h⟩:=tt
  obtain ⟨h1,h2⟩:=h fun _=>none
  exact hc _ H1 (.d (.tup (nss.map eT))) S1 k1 st1 (show Rep K _ _ H1 (.ref a') (.tup (nss.map eT)) from .tupK h1 (oM h2)) q⟩
end
section
variable {S:List Sl} {Q:VR->List Sl->Prop} {vb:VT}
@[irreducible] noncomputable def wV (rows:List (Int×List (List Int))) (Q:VR->List Sl->Prop):VR->List Sl->Prop:=fun rb S1=>∃k nss,get S1 rb=some (.int k)/\(k,nss)∈rows/\Q (.d (.tup (nss.map eT))) S1
theorem Er {rows:List (Int×List (List Int))} (h:vb S (wV rows Q)):Ep rows vb S Q:=by unfold wV at h;exact h
theorem Bp {rows:List (Int×List (List Int))} {k:Int} {nss:List (List Int)} (e:get S r=some (.int k)) (hm:(k,nss)∈rows) (h:Q (.d (.tup (nss.map eT))) S):wV rows Q r S:=by unfold wV;exact ⟨k,nss,e,hm,h⟩
end
end VL
end
section
namespace KT
open PySem PySem.Spec L2 SeqAt PySem.W
noncomputable def isNum:Int->Value->Bool
 | k,.int j _=>decide (j=k)
 | k,.bool b=>decide ((if b then (1:Int) else 0)=k)
 | _,_=>false
theorem bN {k:Int} {v:Value} (h:isNum k v=true):(∃t,v=.int k t)\/∃b,v=.bool b/\(if b then (1:Int) else 0)=k:=by
 cases v <;> simp [isNum] at h
 ·exact .inr ⟨_,rfl,h⟩
 ·exact .inl ⟨_,by rw [h]⟩
section
variable {prog:Program} {w:World}
theorem ql {A:Around} {E:Value->Shared->Prop} {s:Shared} {b:Bool} {Q:Int->Shared->Prop} (h:Q (hashInt (if b then (1:Int) else 0)) { s with toks:=s.toks+1 }):wpAny (model prog w) A (pyHash (.bool b)) Q E s:=by
 refine pyHash_slot (T:="bool") rfl F.slot_bool_hash entry_int_hash (args_int_hash _) (beq_builtin_none _) (.inl rfl) ?_
 cases b
 ·exact (show wpAny _ _ (do ret (<- mkInt 0)) _ _ s from wpAny_bind (wpAny_mkInt (wpAny_pure ⟨_,_,rfl,h⟩)))
 ·exact (show wpAny _ _ (do ret (<- mkInt 1)) _ _ s from wpAny_bind (wpAny_mkInt (wpAny_pure ⟨_,_,rfl,h⟩)))
noncomputable def numKind (prog:Program) (w:World):KeyKind prog w Int where
 is:=isNum
 hash:=hashInt
 inj:=fun v a b x y=>by
  rcases bN x with ⟨t,rfl⟩ | ⟨c,rfl,rfl⟩
  ·rcases bN y with ⟨u,e⟩ | ⟨d,e,_⟩ <;> cases e;rfl
  ·rcases bN y with ⟨u,e⟩ | ⟨d,e,rfl⟩ <;> cases e;rfl
 byValue:=fun k v h=>by rcases bN h with ⟨t,rfl⟩ | ⟨c,rfl,_⟩ <;> rfl
 pyHash:=fun hv h=>by
  rcases bN hv with ⟨t,rfl⟩ | ⟨c,rfl,rfl⟩
  ·exact wpAny_pyHash_int h
  ·exact ql h
 eqBool:=fun {A E s a b u v Q} hu hv h=>by
  have z:∀c d:Int,decide (c=d)=(c==d):=fun c d=>by rw [Bool.eq_iff_iff];simp
  rw [z] at h
  rcases bN hu with ⟨t,rfl⟩ | ⟨c,rfl,rfl⟩ <;> rcases bN hv with ⟨r,rfl⟩ | ⟨d,rfl,rfl⟩
  ·exact wpAny_eqBool_int h
  ·exact EqAt.int_bool _ _ _ prog w E Q h
  ·exact EqAt.bool_int _ _ _ prog w E Q h
  ·refine EqAt.bool_bool _ _ prog w E Q ?_
   have e:(c==d)=((if c then (1:Int) else 0)==(if d then 1 else 0)):=by cases c <;> cases d <;> rfl
   rw [e];exact h
 «strs»:=fun k x t v h=>by simp [isNum] at h
end
end KT
end
section
namespace L2
open PySem PySem.Spec PyProof.Rows
theorem i4 {P:Program} {w:World}:∀{ms:List Int} {us:List Value},Vals (ms.map V.int) us->ItemsAre (intKind P w) ms us
 | [],_,r=>by rw [List.map_nil] at r;cases r;exact .nil
 | m::ms,_,r=>by
  rw [List.map_cons] at r
  cases r with
  | cons h t=>obtain ⟨tk,rfl⟩:=h;exact .cons (intKind_is _ _ _ _) (i4 t)
section
variable {X:Cx} {pins:List (Addr×Obj)} {σ:St} {H:Hp} {s:Shared}
theorem Bq {b:Addr} (I:Inv X pins σ H s) (h:SqT X.K H b (ms.map V.int)):(tupleKind (intKind X.prog X.w)).is s.heap ms b:=by
 obtain ⟨its,r,⟨o,h1,h2,n,h3⟩,_⟩:=I.tuple h
 exact ⟨o,its.toArray,n,h1,h2,h3,by simpa using i4 r⟩
inductive NumV:List Int->List V->Prop where
 | nil:NumV [] []
 | int (i:Int) {ms:List Int} {vs:List V} (t:NumV ms vs):NumV (i::ms) (.int i::vs)
 | bl (b:Bool) {ms:List Int} {vs:List V} (t:NumV ms vs):NumV ((if b then (1:Int) else 0)::ms) (.bl b::vs)
theorem NumV.ints:∀ms:List Int,NumV ms (ms.map V.int)
 | []=>.nil
 | i::r=>.int i (NumV.ints r)
noncomputable def SqN (K:PySem.W.Frag) (H:Hp) (b:Addr) (ms:List Int):Prop:=∃vs,SqT K H b vs/\NumV ms vs
theorem SqN.of {b:Addr} (h:SqT K H b (ms.map V.int)):SqN K H b ms:=⟨_,h,NumV.ints ms⟩
theorem fe {P:Program} {w:World}:∀{ms:List Int} {vs:List V} {us:List Value},NumV ms vs->Vals vs us->ItemsAre (KT.numKind P w) ms us
 | _,_,_,.nil,r=>by cases r;exact .nil
 | _,_,_,.int i t,r=>by
  cases r with
  | cons h u=>obtain ⟨tk,rfl⟩:=h;exact .cons (by simp [KT.numKind,KT.isNum]) (fe t u)
 | _,_,_,.bl b t,r=>by
  cases r with
  | cons h u=>cases h;exact .cons (by simp [KT.numKind,KT.isNum]) (fe t u)
theorem de {b:Addr} (I:Inv X pins σ H s) (h:SqN X.K H b ms):(tupleKind (KT.numKind X.prog X.w)).is s.heap ms b:=by
 obtain ⟨vs,h,hn⟩:=h
 obtain ⟨its,r,⟨o,h1,h2,n,h3⟩,_⟩:=I.tuple h
 exact ⟨o,its.toArray,n,h1,h2,h3,by simpa using fe hn r⟩
noncomputable def cg (K:PySem.W.Frag) (H:Hp) (es:List (List Int×Addr×V)):Prop:=∀x∈es,SqN K H x.2.1 x.1
theorem EV.keys {xs:List (List Int×Addr×Value)} (r:EV es xs):es.map (·.1)=xs.map (·.1):=by
 induction r with
 | nil=>rfl
 | cons h t ih=>rw [List.map_cons,List.map_cons,ih,h.1]
theorem EV.mem {xs:List (List Int×Addr×Value)} (r:EV es xs):∀x∈xs,∃e∈es,e.1=x.1/\e.2.1=x.2.1:=by
 induction r with
 | nil=>intro x h;exact nomatch h
 | @cons p q ps qs h t ih=>
  intro x hx
  rcases List.mem_cons.mp hx with rfl | hx
  ·exact ⟨p,List.mem_cons_self,h.1,h.2.1⟩
  ·obtain ⟨e,h1,h2⟩:=ih x hx
   exact ⟨e,List.mem_cons_of_mem _ h1,h2⟩
theorem fJ {a:Addr} {ob:Obj} (I:Inv X pins σ H s) (e:H a=some (bG a ob es)) (k:cg X.K H es):es.length<=sizeLine/\(a==sysModules)=false/\(es.map (·.1)).Nodup /\
  ∃xs,EV es xs/\s.heap.DictOfH (tupleKind (KT.numKind X.prog X.w)) a xs:=by
 obtain ⟨z,m,nd,xs,ev,o,ds,ep,h1,h2,h3,h4⟩:=fw I e
 refine ⟨z,m,nd,xs,ev,o,ds,ep,h1,h2,h3,h4,fun x hx=>?_,by rw [<- ev.keys];exact nd⟩
 obtain ⟨e,he,e1,e2⟩:=ev.mem x hx
 rw [<- e1,<- e2]
 exact de I (k e he)
noncomputable def atE (es:List (List Int×Addr×V)) (k:List Int):Option V:=(es.find? fun x=>decide (x.1=k)).map (·.2.2)
theorem EV.at_ {xs:List (List Int×Addr×Value)} (r:EV es xs) (k:List Int):RelO (atE es k) ((atKey xs k).map (·.2)):=by
 induction r with
 | nil=>exact True.intro
 | @cons p q ps qs h t ih=>
  obtain ⟨h1,_,h2⟩:=h
  by_cases e:p.1=k
  ·have e':q.1=k:=h1.symm.trans e
   have a:atE (p::ps) k=some p.2.2:=by simp [atE,List.find?_cons,e]
   have b:atKey (q::qs) k=some q.2:=by simp [atKey,List.find?_cons,e']
   rw [a,b];exact h2
  ·have e':¬ q.1=k:=fun z=>e (h1.trans z)
   have a:atE (p::ps) k=atE ps k:=by simp [atE,List.find?_cons,e]
   have b:atKey (q::qs) k=atKey qs k:=by simp [atKey,List.find?_cons,e']
   rw [a,b];exact ih
theorem jY:∀{o:Option V} {u:Option Value},RelO o u->o.isSome=u.isSome
 | some _,some _,_=>rfl
 | none,none,_=>rfl
 | some _,none,h=>h.elim
 | none,some _,h=>h.elim
theorem fK {k:List Int}:(atE es k).isSome=decide (k∈es.map (·.1)):=by
 induction es with
 | nil=>rfl
 | cons p ps ih=>
  by_cases e:p.1=k
  ·simp [atE,List.find?_cons,e]
  ·have a:atE (p::ps) k=atE ps k:=by simp [atE,List.find?_cons,e]
   rw [a,ih]
   have:¬ k=p.1:=fun z=>e z.symm
   simp [this]
noncomputable def Br (K:PySem.W.Frag) (neg:Bool):R2:=fun y x H Q=>∃b a ms es,y=.ref b/\x=.ref a/\SqN K H b ms/\(∃ob,H a=some (bG a ob es))/\cg K H es/\Q (.bl (if neg then !decide (ms∈es.map (·.1)) else decide (ms∈es.map (·.1)))) H
end
section
variable {X:Cx}
theorem Bs (hu:X.A.units+64 < cLine):OpR X (compareOp .In) (Br X.K false):=by
 rintro pins s σ H x y v u Q I rx ry ⟨b,a,ms,es,e1,e2,h1,⟨ob,h2⟩,h3,q⟩
 subst e1;subst e2
 cases rx;cases ry
 obtain ⟨z,m,nd,xs,ev,dd⟩:=fJ I h2 h3
 refine wpAny_in_heap (tupleKind_room_in1 (by lia)) (de I h1) m dd ?_
 have e:=jY (ev.at_ ms)
 rw [Option.isSome_map,fK] at e
 rw [<- e]
 exact ⟨.bl _,H,I.tok _,rfl,q⟩
end
end L2
namespace L2
open PySem PySem.Spec PyProof.Rows
noncomputable def fh (es:List (List Int×Addr×V)) (k:List Int) (b:Addr) (v:V):List (List Int×Addr×V):=if k∈es.map (·.1) then es.map (fun x=>if x.1=k then (x.1,x.2.1,v) else x) else es++[(k,b,v)]
theorem i5 (es:List (List Int×Addr×V)) (k:List Int) (b:Addr) (v:V):(fh es k b v).length<=es.length+1:=by
 unfold fh;split <;> simp
theorem EV.repl {xs:List (List Int×Addr×Value)} (r:EV es xs) (k:List Int) {u:Value} (rv:RelV v u):EV (es.map fun x=>if x.1=k then (x.1,x.2.1,v) else x) (xs.map (putAt k u)):=by
 induction r with
 | nil=>exact .nil
 | @cons p q ps qs h t ih=>
  rw [List.map_cons,List.map_cons]
  refine .cons ?_ ih
  obtain ⟨h1,h2,h3⟩:=h
  unfold putAt
  by_cases e:p.1=k
  ·rw [if_pos e,if_pos (h1.symm.trans e)];exact ⟨h1,h2,rv⟩
  ·rw [if_neg e,if_neg (fun z=>e (h1.trans z))];exact ⟨h1,h2,h3⟩
theorem EV.put {xs:List (List Int×Addr×Value)} (r:EV es xs) (k:List Int) {b:Addr} {u:Value} (rv:RelV v u):EV (fh es k b v) (storedH xs k b u):=by
 have e:decide (k∈es.map (·.1))=(atKey xs k).isSome:=by
  have:=jY (r.at_ k)
  rw [Option.isSome_map,fK] at this
  exact this
 unfold fh storedH
 by_cases q:(atKey xs k).isSome=true
 ·rw [if_pos q,if_pos (of_decide_eq_true (e.trans q))];exact r.repl k rv
 ·rw [if_neg q,if_neg (fun z=>q (e.symm.trans (decide_eq_true z)))];exact Paired.snoc r ⟨rfl,rfl,rv⟩
section
variable {X:Cx} {o i value:Expr} {pos pos':Pos} {td ty tv:TE}
noncomputable def y9 (K:PySem.W.Frag) (td ty tv:TE):TS:=fun D σ H=>tv σ H fun v H1=>td σ H1 fun x H2=>ty σ H2 fun y H3=>∃a b ms es,x=.ref a/\y=.ref b/\SqN K H3 b ms/\(∃ob,H3 a=some (bG a ob es))/\cg K H3 es/\es.length < sizeLine /\
 ∀ob,D.nx σ (upd H3 a (bG a ob (fh es ms b v)))
theorem Bt {s:Shared} {a b:Addr} {ob:Obj} {r:Value} {A:Around} {E:Value->Shared->Prop} {Q:Unit->Shared->Prop} (hu:A.units+1 < cLine) (I:Inv X pins σ H s) (h1:SqN X.K H b ms) (h2:H a=some (bG a ob es)) (h3:cg X.K H es) (hl:es.length < sizeLine) (rv:RelV v r)
  (h:∀ob s',Inv X pins σ (upd H a (bG a ob (fh es ms b v))) s'->Q () s'):wpAny (model X.prog X.w) A (setItem (.ref a) (.ref b) r) Q E s:=by
 obtain ⟨z,m,nd,xs,ev,dd⟩:=fJ I h2 h3
 refine wpAny_setItem_heap (hsz:=by rw [<- Paired.length ev];exact z) (tupleKind_room_in1 hu) (de I h1) dd fun h' dd' hs=>?_
 obtain ⟨q,ds,ep,hq,g2,g3,g4,_,g5⟩:=dd'
 refine h q _ (I.write (x:=a) (e:=a) (by rw [h2];exact True.intro) (.inl rfl) (fun b q hb z=>(hs.2 b hb).trans z) ⟨q,hq⟩ (DctP.ok ⟨?_,m,?_,_,ev.put ms rv,q,ds,ep,hq,g2,g3,g4⟩ hq))
 ·have:=i5 es ms b v;lia
 ·rw [(ev.put ms rv).keys];exact g5
theorem wW (hu:X.A.units+64 < cLine) (ho:PE X o td) (hi:PE X i ty) (hv:PE X value tv) (hs:swapsWith value (some (.Subscript o i pos')) pos.line X.env=pure false) :
  PS X (.Assign [.Subscript o i pos'] value pos) (y9 X.K td ty tv):=by
 intro pins s σ H D I h
 refine wpAny_Assign_Subscript (thn (hv pins s σ H _ I h) fun r s1 ⟨v,H1,I1,rv,q1⟩=>thn (ho pins s1 σ H1 _ I1 q1) fun u s2 ⟨x,H2,I2,rx,q2⟩=>thn (hi pins s2 σ H2 _ I2 q2) fun iv s3 zr1=>?_) hs
 obtain ⟨y,H3,I3,ry,a,b,ms,es,ex,ey,h1,⟨ob,h2⟩,h3,hl,q3⟩:=zr1
 subst ex;subst ey
 obtain rfl:u=Value.ref a:=rx
 obtain rfl:iv=Value.ref b:=ry
 exact Bt (by lia) I3 h1 h2 h3 hl rv fun ob s4 I4=>⟨σ,_,I4,q3 ob⟩
theorem nv {s:Shared} (I:Inv X pins σ H s):sysModules < s.heap.objs.size:=by
 have h:mainGlobals < s.heap.objs.size:=(I.mod.glob.keeps I.bk).lt
 exact Nat.lt_trans (by decide) h
noncomputable def za:TE:=fun _ H Q=>∀p ob,H p=none->Q (.ref p) (upd H p (bG p ob []))
theorem wX:PE X (.Dict [] [] pos) za:=fun pins s σ H Q I h=>
 wpAny_Dict_empty ⟨.ref s.heap.objs.size,_,I.laid (a:=s.heap.objs.size) (o:=bG s.heap.objs.size _ []) (t':=s.toks) (fun _ _ q=>Heap.get?_push_of_some _ q) (Nat.le_refl _)
  (DctP.ok ⟨Nat.zero_le _,beq_eq_false_iff_ne.mpr (Ne.symm (Nat.ne_of_lt (nv I))),List.nodup_nil,[],.nil,_,#[],0,Heap.get?_push_size _ rfl,⟨rfl,rfl,rfl⟩,rfl,rfl⟩ (Heap.get?_push_size _ rfl)),rfl,h _ _ (I.hok.fresh (Nat.le_refl _))⟩
end
end L2
namespace VL
open PySem L2
noncomputable def dc (kvs:List (List Int×D)):D:=.dic (kvs.map (·.1)) (kvs.map (·.2))
noncomputable def od (kvs:List (List Int×D)):Sl:=.odi (kvs.map (·.1)) (kvs.map (·.2))
noncomputable def cj (kvs:List (List Int×D)) (k:List Int) (d:D):List (List Int×D):=if k∈kvs.map (·.1) then kvs.map (fun x=>if x.1=k then (x.1,d) else x) else kvs++[(k,d)]
noncomputable def dA (kvs:List (List Int×D)) (k:List Int):Option D:=(kvs.find? fun x=>decide (x.1=k)).map (·.2)
section
variable {K:PySem.W.Frag} {N:AP} {F:FP} {H:Hp}
theorem dB:∀{es:List (List Int×Addr×V)},Reps K N F H (es.map fun x=>.ref x.2.1) ((es.map (·.1)).map kT)->cg K H es
 | [],_=>fun _ h=>nomatch h
 | e::es,r=>by
  cases r with
  | cons h t=>
   intro x hx
   rcases List.mem_cons.mp hx with rfl | hx
   ·obtain ⟨a,vs,e1,hq,rr⟩:=Rep.sqT (show Rep K N F H _ (.tup (x.1.map D.int)) from h)
    cases e1
    cases Reps.toInts rr
    exact SqN.of hq
   ·exact dB t x hx
theorem Rep.dct {ks:List (List Int)} (h:Rep K N F H v (.dic ks ds)):∃a es,v=.ref a/\N a/\F (some a)/\(∃ob,H a=some (bG a ob es))/\es.map (·.1)=ks/\cg K H es/\Reps K N F H (es.map fun x=>.ref x.2.1) (ks.map kT)/\Reps K N F H (es.map (·.2.2)) ds:=by
 cases h with
 | dic n f h e rk r=>subst e;exact ⟨_,_,rfl,n,f,⟨_,h⟩,rfl,dB rk,rk,r⟩
theorem jZ {k:List Int} (hv:Rep K N F H v d):∀{es:List (List Int×Addr×V)} {kvs:List (List Int×D)},es.map (·.1)=kvs.map (·.1)->Reps K N F H (es.map (·.2.2)) (kvs.map (·.2)) ->
  Reps K N F H ((es.map fun x=>if x.1=k then (x.1,x.2.1,v) else x).map (·.2.2)) ((kvs.map fun x=>if x.1=k then (x.1,d) else x).map (·.2))
 | [],[],_,_=>.nil
 | e::es,p::kvs,ek,r=>by
  simp only [List.map_cons,List.cons.injEq] at ek
  cases r with
  | cons h t=>
   simp only [List.map_cons]
   refine .cons ?_ (jZ hv ek.2 t)
   by_cases hk:e.1=k
   ·rw [if_pos hk,if_pos (ek.1.symm.trans hk)];exact hv
   ·rw [if_neg hk,if_neg (fun z=>hk (ek.1.trans z))];exact h
 | [],_::_,ek,_=>by simp at ek
 | _::_,[],ek,_=>by simp at ek
theorem ny (es:List (List Int×Addr×V)) (k:List Int) (v:V):(es.map fun x=>if x.1=k then (x.1,x.2.1,v) else x).map (·.1)=es.map (·.1):=by
 rw [List.map_map]
 refine List.map_congr_left fun x _=>?_
 simp only [Function.comp];split <;> rfl
theorem nA (es:List (List Int×Addr×V)) (k:List Int) (v:V):(es.map fun x=>if x.1=k then (x.1,x.2.1,v) else x).map (fun x=>V.ref x.2.1)=es.map fun x=>V.ref x.2.1:=by
 rw [List.map_map]
 refine List.map_congr_left fun x _=>?_
 simp only [Function.comp];split <;> rfl
theorem cP (kvs:List (List Int×D)) (k:List Int) (d:D):(kvs.map fun x=>if x.1=k then (x.1,d) else x).map (·.1)=kvs.map (·.1):=by
 rw [List.map_map]
 refine List.map_congr_left fun x _=>?_
 simp only [Function.comp];split <;> rfl
theorem oO {k:List Int} {b:Addr} (hv:Rep K N F H v d) {F':FP} (hb:Rep K N F' H (.ref b) (kT k)) (ek:es.map (·.1)=kvs.map (·.1))
  (rk:Reps K N F' H (es.map fun x=>V.ref x.2.1) ((kvs.map (·.1)).map kT)) (r:Reps K N F H (es.map (·.2.2)) (kvs.map (·.2))) :
  (fh es k b v).map (·.1)=(cj kvs k d).map (·.1)/\Reps K N F' H ((fh es k b v).map fun x=>V.ref x.2.1) (((cj kvs k d).map (·.1)).map kT)/\Reps K N F H ((fh es k b v).map (·.2.2)) ((cj kvs k d).map (·.2)):=by
 unfold fh cj
 by_cases hk:k∈es.map (·.1)
 ·rw [if_pos hk,if_pos (by rw [<- ek];exact hk),ny,cP,nA]
  exact ⟨ek,rk,jZ hv ek r⟩
 ·rw [if_neg hk,if_neg (by rw [<- ek];exact hk)]
  simp only [List.map_append,List.map_cons,List.map_nil]
  exact ⟨by rw [ek],Reps.append rk (.cons hb .nil),Reps.append r (.cons hv .nil)⟩
end
section
variable {K:PySem.W.Frag} {X:Cx} {m:Bool} {e o ie:Expr} {te ti:TE} {va vi:VT} {pos posS:Pos}
noncomputable def Es (neg:Bool):D->D->(D->Prop)->Prop:=fun d1 d2 q=>∃ms kvs,d1=kT ms/\d2=dc kvs/\q (.bl (if neg then !decide (ms∈kvs.map (·.1)) else decide (ms∈kvs.map (·.1))))
theorem zb {neg:Bool}:dt K (Br K neg) (Es neg):=by
 rintro x y H d1 d2 q C r1 r2 ⟨ms,kvs,rfl,rfl,h⟩ hc
 obtain ⟨b,vs,rfl,hq,rr⟩:=Rep.sqT (show Rep K _ _ H x (.tup (ms.map D.int)) from r1)
 cases Reps.toInts rr
 obtain ⟨a,es,rfl,_,_,ha,ek,hk,_,_⟩:=Rep.dct (show Rep K _ _ H y (.dic _ _) from r2)
 refine ⟨b,a,ms,es,rfl,rfl,SqN.of hq,ha,hk,?_⟩
 rw [ek]
 exact hc _ _ h fun _ _=>.bl _
theorem zc (hK:X.K=K) (hu:X.A.units+64 < cLine):OpR X (compareOp .In) (Br K false):=by subst hK;exact Bs hu
noncomputable abbrev VTD:=List Sl->(List (List Int×D)->List Sl->Prop)->Prop
noncomputable def FU (K:PySem.W.Frag) (te:TE) (t:VTD):Prop:=∀H0 Z σ H S Q C,OK K H0 Z σ H S->t S Q->(∀a es kvs H1 H' S',OK K H0 Z σ H1 S'->Step Z σ S H σ S' H1->H1 a=none->(∀b,H1 b≠none->H' b=H1 b)->(∃ob,H' a=some (bG a ob es)) ->
 es.map (·.1)=kvs.map (·.1)->Reps K (fun b=>NM Z σ S' b/\b≠a) AnyF H' (es.map fun x=>V.ref x.2.1) ((kvs.map (·.1)).map kT)->Reps K (fun b=>NM Z σ S' b/\b≠a) (Fr H0) H' (es.map (·.2.2)) (kvs.map (·.2))->Q kvs S'->C (.ref a) H')->te σ H C
structure VDe (K:PySem.W.Frag) (X:Cx) (e:Expr) (te:TE) (t:VTD):Prop where
 pe:PE X e te
 snd:FU K te t
noncomputable def zd:VTD:=fun S Q=>Q [] S
theorem nB:VDe K X (.Dict [] [] pos) za zd:=⟨wX,fun H0 Z σ H S Q C k t hc=>fun p ob hp=>hc p [] [] H _ S k .refl hp (aY hp) ⟨ob,aK⟩ rfl .nil .nil t⟩
noncomputable def ze (i:Nat) (t:VTD):VTS:=fun V S=>t S fun kvs S1=>i < S1.length/\V.nx (S1.set i (od kvs))
theorem fL {i:Nat} {x:Str} {pos':Pos} {tn:VTD} (ps:∀te,PE X e te->PS X (.Assign [.Name x pos'] e pos) (dD te (bI i))) (h:VDe K X e te tn):VS K X (.Assign [.Name x pos'] e pos) (dD te (bI i)) (ze i tn):=
 ⟨ps te h.pe,fun H0 Z σ H S V E k t l=>h.snd H0 Z σ H S _ _ k t fun a es kvs H1 H' S' k1 st1 ha hg hl ek rk rr zq1=>by
  obtain ⟨hi,q⟩:=zq1
  obtain ⟨k2,st2⟩:=k1.setNew (s:=od kvs) hi ha hg ⟨a,es,rfl,hl,k1.dom a ha,⟨ek,rk⟩,rr⟩ rfl
  exact l.nx _ _ _ k2 (st1.trans st2) q⟩
noncomputable def zf (i:Nat) (ve vi:VT):VTS:=fun V S=>ve S fun r S1=>(∃kvs,S1[i]?=some (od kvs))/\vi S1 fun ri S2=>∃d ms kvs,r=.d d/\get S2 ri=some (kT ms)/\S2[i]?=some (od kvs)/\kvs.length<=1000000/\V.nx (S2.set i (od (cj kvs ms d)))
theorem ik (i:Nat) (hK:X.K=K) (hu:X.A.units+64 < cLine) (ho:PE X o (cT i)) (h:VE K X true e te va) (hi:VE K X false ie ti vi) (hs:swapsWith e (some (.Subscript o ie posS)) pos.line X.env=pure false:=by rfl) :
  VS K X (.Assign [.Subscript o ie posS] e pos) (y9 K (cT i) ti te) (zf i va vi):=⟨by subst hK;exact wW hu ho hi.pe h.pe hs,fun H0 Z σ H S V E k t l=>by
 refine h.snd H0 Z σ H S _ _ k t fun x H1 r S1 k1 st1 rr zr1=>?_
 obtain ⟨⟨kvs0,e0⟩,q⟩:=zr1
 obtain ⟨o1,g1,p,es0,rfl,_⟩:=k1.ownAt e0
 refine ⟨.ref p,g1,hi.snd H0 Z σ H1 S1 _ _ k1 q fun y H2 ri S2 k2 st2 rr2 zr1=>?_⟩
 obtain ⟨d,ms,kvs,er,ek,e1,hl,q2⟩:=zr1
 subst er
 obtain ⟨o2,g2,p',es,e2,h2,h3,⟨h4,h5⟩,h6⟩:=k2.ownAt e1
 rw [g1] at g2;cases g2;cases e2
 have rx:Rep K (NM Z σ S2) (FM H0 true) H2 x d:=Rep.step (show Rep K (NM Z σ S1) (FM H0 true) H1 x d from rr) st2
 have ry:∃b,y=.ref b/\SqT K H2 b (ms.map L2.V.int)/\Rep K (NM Z σ S2) AnyF H2 (.ref b) (kT ms):=by
  cases ri with
  | d z=>
   cases ek
   obtain ⟨b,vs,rfl,hq,rr⟩:=Rep.sqT (show Rep K _ _ H2 y (.tup (ms.map D.int)) from rr2)
   cases Reps.toInts rr
   exact ⟨b,rfl,hq,Rep.mono (fun _ n _=>⟨n,rfl⟩) (fun _ _=>trivial) rr2⟩
  | own j=>
   have ek:getO S2[j]?=some (kT ms):=ek
   cases es:S2[j]? with
   | none=>rw [es] at ek;cases ek
   | some s=>rw [es] at ek;cases s <;> cases ek
 obtain ⟨b,rfl,hq,rb⟩:=ry
 have hk:cg K H2 es:=dB (by rw [h4];exact h5)
 refine ⟨p,b,ms,es,rfl,rfl,SqN.of hq,h2,hk,?_,?_⟩
 ·have:es.length=kvs.length:=by have:=congrArg List.length h4;simpa using this
  rw [sizeLine_eq];lia
 ·intro obn
  have na:NM Z σ S2 p->False:=fun n=>n (.inl ⟨i,_,e1,rfl,g1⟩)
  have hm:∀b,NM Z σ S2 b->H2 b≠none->NM Z σ S2 b/\upd H2 p (bG p obn (fh es ms b x)) b=H2 b:=fun b n _=>⟨n,aL fun z=>na (by rw [<- z];exact n)⟩
  have hm':∀c,NM Z σ S2 c->H2 c≠none->NM Z σ S2 c/\upd H2 p (bG p obn (fh es ms b x)) c=H2 c:=fun c n _=>⟨n,aL fun z=>na (by rw [<- z];exact n)⟩
  obtain ⟨z1,z2,z3⟩:=oO (k:=ms) (b:=b) (Rep.mono hm' (fun _ x=>x rfl) rx) (Rep.mono hm' (fun _ x=>x) rb) h4 (h5.mono hm' fun _ x=>x) (h6.mono hm' fun _ x=>x)
  obtain ⟨k3,st3⟩:=k2.chgD (s:=od (cj kvs ms d)) (o:=bG p obn (fh es ms b x)) e1 rfl g1 rfl ⟨p,_,rfl,⟨obn,aK⟩,h3,⟨z1,z2⟩,z3⟩
  exact l.nx _ _ _ k3 ((st1.trans st2).trans st3) q2⟩
end
end VL
end
section
namespace VL
open PySem L2
section
variable {S:List Sl} {Q:VR->List Sl->Prop} {QN:List D->List Sl->Prop} {QD:List (List Int×D)->List Sl->Prop} {W:bh} {va vb:VT} {vr:VTA} {vd:VTD}
theorem Bu (h:QD [] S):zd S QD:=h
@[irreducible] noncomputable def oP (i:Nat) (W:bh):List (List Int×D)->List Sl->Prop:=fun kvs S1=>i < S1.length/\W.nx (S1.set i (od kvs))
theorem Bv {i:Nat} (h:vd S (oP i W)):ze i vd W S:=by unfold oP at h;exact h
theorem wY {i:Nat} (e:Nat.ble (i+1) S.length=true) (h:W.nx (S.set i (od kvs))):oP i W kvs S:=by unfold oP;exact ⟨Nat.le_of_ble_eq_true e,h⟩
@[irreducible] noncomputable def oQ (i:Nat) (vi:VT) (W:bh):VR->List Sl->Prop:=fun r S1=>(∃kvs,S1[i]?=some (od kvs))/\vi S1 fun ri S2=>∃d ms kvs,r=.d d/\get S2 ri=some (kT ms)/\S2[i]?=some (od kvs)/\kvs.length<=1000000/\W.nx (S2.set i (od (cj kvs ms d)))
@[irreducible] noncomputable def kS (i:Nat) (r:VR) (W:bh):VR->List Sl->Prop:=fun ri S2=>∃d ms kvs,r=.d d/\get S2 ri=some (kT ms)/\S2[i]?=some (od kvs)/\kvs.length<=1000000/\W.nx (S2.set i (od (cj kvs ms d)))
theorem Bw {i:Nat} {vi:VT} (h:va S (oQ i vi W)):zf i va vi W S:=by unfold oQ at h;exact h
theorem wZ {i:Nat} {vi:VT} (e:S[i]?=some (od kvs)) (h:vi S (kS i r W)):oQ i vi W r S:=by unfold oQ;unfold kS at h;exact ⟨⟨kvs,e⟩,h⟩
theorem fM {i:Nat} {ri:VR} (e1:get S ri=some (kT ms)) (e2:S[i]?=some (od kvs)) (hl:kvs.length<=1000000) (h:W.nx (S.set i (od (cj kvs ms d)))):kS i (.d d) W ri S:=by unfold kS;exact ⟨d,ms,kvs,rfl,e1,e2,hl,h⟩
theorem tj {neg:Bool} {d1 d2:D} (e1:d1=kT ms) (e2:d2=dc kvs) (h:q (.bl (if neg then !decide (ms∈kvs.map (·.1)) else decide (ms∈kvs.map (·.1))))):Es neg d1 d2 q:=⟨ms,kvs,e1,e2,h⟩
end
theorem nE {α:Type} [DecidableEq α] {n:Nat} {f:α->D} (e:Enc n f) {x:α} {l:List α} (h:q (.bl (decide (x∈l)))) (hn:n+1<=40:=by decide):nj false (f x) (.tup (l.map f)) q:=⟨_,.inr rfl,e.okd (by lia) x,e.lst.okd hn l,by simpa only [e.any,Bool.false_eq_true,if_false] using h⟩
theorem qm {ve:VT} {A:D->List Sl->Prop} {B:List Sl->Prop} (h:B S):fc ve A B false S:=fH (fun e=>nomatch e) fun _=>h
section
variable {K:PySem.W.Frag} {X:Cx} {e:Expr} {te:TE} {va:VT} {pos pos':Pos} {x:Str}
theorem aG {i:Nat} (hN:X.N.Nodup) (hi:X.N[i]?=some x) (hx:Loc X.env.scope x) (h:VE K X false e te va) (hs:swapsWith e (some (.Name x pos')) pos.line X.env=pure false:=by rfl)
  (hf:X.fn x=true\/X.env.scope.names.lookup x=some .local:=by first | exact .inl rfl | exact .inr rfl | assumption):VS K X (.Assign [.Name x pos'] e pos) (dD te (bI i)) (qc va (vgN i)):=AK (fun _ h=>bX hN hi hx h hs hf) h
end
end VL
end
section
namespace VL
open PySem L2
section
variable {K:PySem.W.Frag} {X:Cx} {m:Bool} {e a b o:Expr} {te ta tb:TE} {va vb:VT} {pos apos:Pos}
noncomputable def Et (t:VTN) (vb:VT):VT:=fun S Q=>t S fun ds S1=>vb S1 fun rb S2=>∃j d,get S2 rb=some (.int j)/\atI ds j=some d/\Q (.d d) S2
theorem Bx {t:VTN} (hK:X.K=K) (ha:VN K X a ta t) (hb:VE K X false b tb vb) (hs:cV b):VE K X m (.Subscript a b pos) (tOp (rIx K) ta tb) (Et t vb):=⟨by subst hK;exact lM mY ha.pe hb.pe hs,fun H0 Z σ H S Q C k t hc=>
 ha.snd H0 Z σ H S _ _ k t fun p vs ds H1 H' S1 k1 st1 hp hg hl rr t1=>by
  have k1':=k1.grow hg
  have rl:Rep K (NM Z σ S1) (FM H0 true) H' (.ref p) (.lst ds):=.lst (k1.nm hp) (fun _=>⟨p,rfl,k1.dom p hp⟩) hl (rr.mono (fun b n _=>⟨n.1,rfl⟩) fun _ x _=>x)
  refine hb.snd H0 Z σ H' S1 _ _ k1' t1 fun y H2 rb S2 k2 st2 r2 zr1=>?_
  obtain ⟨j,d,e2,e3,q⟩:=zr1
  cases r2.get k2 e2
  have rl2:=rl.step st2
  cases rl2 with
  | lst n f h r=>
   obtain ⟨v,h3,h4⟩:=fC r e3
   exact .inl ⟨p,_,j,v,rfl,rfl,.inl (.inl h),h3,hc v H2 (.d d) S2 k2 ((st1.trans (.grow hg)).trans st2) (show Rep K _ _ H2 v d from h4.mono (fun _ n _=>⟨n,rfl⟩) fun _ x _=>x rfl) q⟩
  | lstF n f h r=>obtain ⟨c,ec,_⟩:=f rfl;cases ec
  | lstK f h r=>obtain ⟨c,ec,_⟩:=f rfl;cases ec⟩
end
section
variable {S:List Sl} {Q:VR->List Sl->Prop} {va vb:VT} {vn:VTN}
@[irreducible] noncomputable def oR (vb:VT) (Q:VR->List Sl->Prop):List D->List Sl->Prop:=fun ds S1=>vb S1 fun rb S2=>∃j d,get S2 rb=some (.int j)/\atI ds j=some d/\Q (.d d) S2
@[irreducible] noncomputable def oS (ds:List D) (Q:VR->List Sl->Prop):VR->List Sl->Prop:=fun rb S2=>∃j d,get S2 rb=some (.int j)/\atI ds j=some d/\Q (.d d) S2
theorem Eu (h:vn S (oR vb Q)):Et vn vb S Q:=by unfold oR at h;exact h
theorem w4 (h:vb S (oS ds Q)):oR vb Q ds S:=by unfold oR;unfold oS at h;exact h
theorem w6 {j:Int} (e2:get S r=some (.int j)) (e3:atI ds j=some d) (h:Q (.d d) S):oS ds Q r S:=by unfold oS;exact ⟨j,d,e2,e3,h⟩
theorem Ew {x y:Str} (h:q (.bl (decide (x=y)))):wEq (.str x) (.str y) q:=⟨.str x,.str y,rfl,rfl,rfl,by simpa using h⟩
end
end VL
end
section
namespace VL
open PySem L2 PySem.W
section
variable {K:PySem.W.Frag} {X:Cx} {m:Bool} {e:Expr} {te:TE} {va:VT} {pos pos':Pos} {i:Nat} {x:Str}
theorem OK.setFre {H H0:Hp} (k:OK K H0 Z σ H S) (hi:i < S.length) (h:Rep K (NM Z σ S) (Fr H0) H v d):OK K H0 Z (σ.set i (some v)) H (S.set i (.fre d))/\Step Z σ S H (σ.set i (some v)) (S.set i (.fre d)) H:=by
 have n:∀a,NM Z σ S a->NM Z (σ.set i (some v)) (S.set i (.fre d)) a:=fun a x z=>by
  rcases kH z with z | ⟨z,_⟩
  ·exact x z
  ·cases z
 exact ⟨k.put hi (fun a x _=>⟨n a x,rfl⟩) (fun _ _ _ _ _ _ _=>rfl) ⟨v,rfl,h.mono (fun a x _=>⟨n a x,rfl⟩) fun _ x=>x⟩ (fun _ _ _ _ _ _ z=>nomatch z) (fun _ e=>e) k.zl (fun _ z=>nomatch z),fun a x _=>⟨rfl,n a x⟩,fun _ e=>e,fun _ _ _=>rfl⟩
@[irreducible] noncomputable def mi (i:Nat) (V:bh):VR->List Sl->Prop:=fun r S1=>∃d,r=.d d/\i < S1.length/\V.nx (S1.set i (.fre d))
noncomputable def zg (i:Nat) (va:VT):VTS:=fun V S=>va S (mi i V)
theorem By {V:bh} (h:va S (mi i V)):zg i va V S:=h
theorem kU {V:bh} (hi:i < S.length) (h:V.nx (S.set i (.fre d))):mi i V (.d d) S:=by unfold mi;exact ⟨d,rfl,hi,h⟩
theorem kW (hN:X.N.Nodup) (hi:X.N[i]?=some x) (hx:Loc X.env.scope x) (h:VE K X true e te va) (hs:swapsWith e (some (.Name x pos')) pos.line X.env=pure false:=by rfl)
  (hf:X.fn x=true\/X.env.scope.names.lookup x=some .local:=by first | exact .inl rfl | exact .inr rfl | assumption):VS K X (.Assign [.Name x pos'] e pos) (dD te (bI i)) (zg i va):=
 ⟨bX hN hi hx h.pe hs hf,fun H0 Z σ H S V E k t l=>h.snd H0 Z σ H S _ _ k t fun v H' r S' k' st rr q=>by
  unfold mi at q
  obtain ⟨d,e,hi,q⟩:=q
  subst e
  have r:Rep K (NM Z σ S') (Fr H0) H' v d:=(show Rep K (NM Z σ S') (FM H0 true) H' v d from rr).mono (fun _ n _=>⟨n,rfl⟩) fun _ x=>x rfl
  exact l.nx _ _ _ (k'.setFre hi r).1 (st.trans (k'.setFre hi r).2) q⟩
noncomputable def zh (i:Nat):VT:=fun S Q=>∃d,(S[i]?=some (.fre d)\/S[i]?=some (.val d)/\flat d=true)/\Q (.d d) S
theorem aT (i:Nat) (h:PE X e (cT i)):VE K X m e (cT i) (zh i):=⟨h,fun H0 Z σ H S Q C k zq1 hc=>by
 obtain ⟨d,h,q⟩:=zq1
 rcases h with h | ⟨h,hf⟩
 ·obtain ⟨o,h1,v,rfl,r⟩:=k.ownAt h
  exact ⟨v,h1,hc _ _ (.d d) _ k .refl (show Rep K _ _ _ _ _ from r.mono (fun _ n _=>⟨n,rfl⟩) fun _ x _=>x) q⟩
 ·obtain ⟨o,h1,v,rfl,r⟩:=k.ownAt h
  exact ⟨v,h1,hc _ _ (.d d) _ k .refl (show Rep K _ _ _ _ _ from Rep.flat r hf) q⟩⟩
theorem BA {Q:VR->List Sl->Prop} (h:S[i]?=some (.fre d)\/S[i]?=some (.val d)/\flat d=true) (q:Q (.d d) S):zh i S Q:=⟨d,h,q⟩
end
end VL
end
section
namespace L2
open PySem PySem.Spec PyProof.Rows PySem.W
section
variable {X:Cx}
noncomputable def tm (K:PySem.W.Frag) (n:Int):R2:=fun x y H Q=>∃b a ms es i,y=.ref b/\x=.ref a/\SqN K H b ms/\(∃ob,H a=some (bG a ob es))/\cg K H es/\(atE es ms).getD (.int n)=.int i/\Q (.int i) H
noncomputable def zi (K:PySem.W.Frag) (n:Int) (to ti:TE):TE:=fun σ H Q=>to σ H fun x H1=>(∃a es ob,x=.ref a/\H1 a=some (bG a ob es))/\ti σ H1 fun y H2=>tm K n x y H2 Q
theorem qp {s:Shared} {x y:V} {v u:Value} {n:Int} {t:Tok} {Q:VK} (hu:X.A.units+64 < cLine) (I:Inv X pins σ H s) (rx:RelV x v) (ry:RelV y u) (h:tm X.K n x y H Q) :
  wpAny (model X.prog X.w) X.A (call (.builtin "dict.get") [v,u,.int n t]) (EP X pins σ Q) X.xe s:=by
 obtain ⟨b,a,ms,es,i,rfl,rfl,h1,⟨ob,h2⟩,h3,hi,q⟩:=h
 cases rx;cases ry
 obtain ⟨z,m,nd,xs,ev,dd⟩:=fJ I h2 h3
 refine call_meetsIn F.slot_dict_get dd.typeIs F.entry_dict_get (F.args_dict_get_3 _ _ _) (meetsH_dict_get_default (tupleKind (KT.numKind X.prog X.w)) a b m (.int n t)) ⟨tupleKind_room_in1 (by lia),ms,xs,de I h1,dd,?_⟩
 have r:=ev.at_ ms
 refine ⟨.int i,H,I.tok _,?_,q⟩
 cases h4:atE es ms with
 | none=>
  rw [h4] at r hi
  cases h5:(atKey xs ms).map (·.2) with
  | none=>cases hi;exact ⟨t,rfl⟩
  | some w=>rw [h5] at r;exact r.elim
 | some w=>
  rw [h4] at r hi
  cases h5:(atKey xs ms).map (·.2) with
  | none=>rw [h5] at r;exact r.elim
  | some w'=>rw [h5] at r;cases (show w=.int i from hi);exact r
noncomputable def two (K:PySem.W.Frag) (x:V) (Q:VK):List V->Hp->Prop
 | [y,.int k],H=>tm K k x y H Q
 | _,_=>False
theorem w9 {o ie:Expr} {to ti:TE} {n:Int} {j:Nat} {pc apos cpos:Pos} (hu:X.A.units+64 < cLine) (ho:PE X o to) (hi:PE X ie ti) (hbase:attributeBase o "get" X.env (eval o X.env)=eval o X.env:=by rfl)
  (hfew:((backTo cpos (starEach [ie,.Constant (.int n) j pc] X.env)).all (fun x=>!x.1)&&(backToKw cpos (keywordEach [] X.env)).all (fun x=>x.1.isSome)
   && decide (([ie,.Constant (.int n) j pc]:List Expr).length+([]:List Keyword).length+(if ([]:List Keyword).isEmpty then 0 else 1) < 30))=true:=by rfl)
  (hline:(apos.endLine==cpos.line)=true:=by rfl) (hs:starEach [ie,.Constant (.int n) j pc] X.env=(false,eval ie X.env)::starEach [.Constant (.int n) j pc] X.env:=by rfl) (hplain:(backTo cpos (starEach [.Constant (.int n) j pc] X.env)).any (·.1)=false:=by rfl) :
  PE X (.Call (.Attribute o "get" apos) [ie,.Constant (.int n) j pc] [] cpos) (zi X.K n to ti):=by
 intro pins s σ H Q I h
 refine wpAny_Call_method_late hbase hfew hline rfl (thn (ho pins s σ H _ I h) fun v s1 zr1=>?_)
 obtain ⟨x,H1,I1,r1,⟨a,es,ob,hx,ha⟩,q1⟩:=zr1
 subst hx
 cases r1
 obtain ⟨_,_,_,_,_,ob,_,_,z1,z2,_⟩:=fw I1 ha
 refine ⟨"dict","dict.get",PySem.F.plainAttrs_dict,PySem.F.slot_dict_get,PySem.F.type_dict_get,⟨_,z1,z2.1⟩,fun b e=>by cases e;exact ⟨_,z1,z2.2.1⟩,?_⟩
 have hA:=cU hi (cU (gh (i:=n)) iI rfl) hs cpos pins s1 σ H1 (two X.K (.ref a) Q) I1 q1
 rw [hs] at hA ⊢
 refine Calls.callWith_builtin (by show (false||(backTo cpos (starEach [.Constant (.int n) j pc] X.env)).any (·.1))=false;rw [hplain] <;> rfl) (Calls.evalArgs_plain ?_)
 refine thn hA fun us s2 zr1=>?_
 obtain ⟨vs,H2,I2,r2,q2⟩:=zr1
 match vs,r2,q2 with
 | [y,.int k],r2,q2=>
  obtain ⟨u,w,rfl,ru,t,rfl⟩:=r2.two
  exact qp hu I2 (show RelV (.ref a) (.ref a) from rfl) ru q2
end
section
variable {X:Cx}
theorem DctP.at {D:Addr} {h h':Heap} (d:DctP D es h) (e:h'.get? D=h.get? D):DctP D es h':=
 let ⟨z,m,nd,xs,ev,o,ds,ep,q,r⟩:=d;⟨z,m,nd,xs,ev,o,ds,ep,e.trans q,r⟩
theorem DctP.nocell {D:Addr} {h:Heap} {o:Obj} (d:DctP D es h) (e:h.get? D=some o):∀v,o.data≠.cell v:=fun v z=>by
 obtain ⟨_,_,_,_,_,o',ds,ep,q,_,hd,_⟩:=d
 rw [e] at q;cases q
 rw [hd] at z;cases z
theorem xf {D:Addr} {h:Heap} (e:h.get? D=some { cls:=.type "dict",data:=.dict #[] }) (hb:sysModules < D):DctP D [] h:=
 ⟨Nat.zero_le _,beq_eq_false_iff_ne.mpr (Ne.symm (Nat.ne_of_lt hb)),List.nodup_nil,[],.nil,_,#[],0,e,⟨rfl,rfl,rfl⟩,rfl,rfl⟩
theorem xg {s:Shared} {a:Addr} (I:Inv X pins σ H s) (d:DctP a es s.heap) (k:cg X.K H es):es.length<=sizeLine/\(a==sysModules)=false/\(es.map (·.1)).Nodup /\
  ∃xs,EV es xs/\s.heap.DictOfH (tupleKind (KT.numKind X.prog X.w)) a xs:=by
 obtain ⟨z,m,nd,xs,ev,o,ds,ep,h1,h2,h3,h4⟩:=d
 refine ⟨z,m,nd,xs,ev,o,ds,ep,h1,h2,h3,h4,fun x hx=>?_,ev.keys▸nd⟩
 obtain ⟨e,he,e1,e2⟩:=ev.mem x hx
 exact e1▸e2▸de I (k e he)
noncomputable def tu (K:PySem.W.Frag) (wi:TI) (n:Nat) (ix:List Nat) (g:TG) (tc:TT) (tk tv:TE):TE:=fun σ H Q=>wi σ H fun J H1=>∃W:Nat->Nat->List (List Int×Addr×V)->Hp->Prop,(∃m,W 0 m [] H1)/\∀i m es H2,W i m es H2 ->
 (J.stop i H2/\∀D ob,H2 D=none->Q (.ref D) (upd H2 D (bG D ob es))) \/
 (J.go i H2/\es.length < sizeLine/\∃Nx:List (List Int×Addr×V)->Hp->Prop,(∀es' H',Nx es' H'->∃m',m' < m/\W (i+1) m' es' H') /\
  ∀x H3,J.yld i H2 x H3->g x (capt n ix σ) H3 fun σ2 H4=>tc σ2 H4 fun b H5=>if b=true then tk σ2 H5 fun y H6=>tv σ2 H6 fun v H7=>∃b ms,y=.ref b/\SqN K H7 b ms/\cg K H7 es/\Nx (fh es ms b v) H7 else Nx es H5)
theorem tw {kx vx target iter:Expr} {ifs:List Expr} {scope:Scope} {pos:Pos} {tg cs:List Str} {wi:TI} {g:TG} {tc:TT} {tk tv:TE} (hu:X.A.units+64 < cLine) (S:bq X scope tg cs ix) (hcalm:X.calm=true) (kg:cH tg.length ix g)
    (hi:PI X target iter wi) (hg:∀C fp s H,PG (au X scope (tg++cs) C fp s H) target g) (hc:∀C fp s H,PTs (au X scope (tg++cs) C fp s H) ifs tc) (hk:∀C fp s H,PE (au X scope (tg++cs) C fp s H) kx tk) (hv:∀C fp s H,PE (au X scope (tg++cs) C fp s H) vx tv)
    (hs:∀x,foldedSetIterable iter X.env x=pure x:=by intro _;rfl):PE X (.DictComp kx vx [⟨target,iter,ifs,0⟩] scope pos) (tu X.K wi tg.length ix g tc tk tv):=by
  intro pins s σ H Q I h
  rw [arm_eval_DictComp]
  refine wpAny_comprehension_free (use:=none) (cl:=b0 X.env scope.names []) rfl hs (eW fun n hn=>I.ok.has n (S.out n hn)) S.kind S.names ?_
  refine wpAny_mono (hi pins s σ H _ I h) (fun v s1 h1=>wpAny_mono h1 (fun itv s2 h2=>?_) fun _ _ e=>e) fun _ _ e=>e
  obtain ⟨it,fp,tn,J,H2,rfl,I2,T,st2,f2,W,⟨m0,w0⟩,turn⟩:=h2
  refine wpAny_newObj_type (wpAny_newFunctionEnv S.nocell (by intro y hy;simp at hy) (fun h1 hns1 hsb1=>?_) S.kind)
  dsimp only at hns1 hsb1 ⊢
  generalize hP:s2.heap.push { cls:=.type "dict",dict:=none,data:=.dict #[] }=P2 at hns1 hsb1 ⊢
  have hCs:P2.objs.size=s2.heap.objs.size+1:=by rw [<- hP,Heap.size_push]
  have hDC:s2.heap.objs.size≠P2.objs.size:=by rw [hCs];exact Nat.ne_of_lt (Nat.lt_succ_self _)
  have hCle:s2.heap.objs.size<=P2.objs.size:=by rw [hCs];exact Nat.le_succ _
  generalize hCg:P2.objs.size=C at *
  have old:∀b o,s2.heap.get? b=some o->h1.get? b=some o:=fun b o e=>hsb1.extBut b o (Nat.ne_of_lt (Nat.lt_of_lt_of_le (Heap.lt_size e) hCle)) (Heap.get?_push_of_some _ (hP▸Heap.get?_push_of_some _ e))
  generalize hDg:s2.heap.objs.size=D at *
  have hD0:h1.get? D=some { cls:=.type "dict",data:=.dict #[] }:=hsb1.extBut _ _ hDC (Heap.get?_push_of_some _ (hP▸hDg▸Heap.get?_push_size _ rfl))
  have nC:H2 C=none:=I2.hok.fresh (by rw [hDg];exact hCle)
  have nD:H2 D=none:=I2.hok.fresh (by rw [hDg];exact Nat.le_refl _)
  have fo:∀b∈fp,∃o,s2.heap.get? b=some o:=fun b hb=>let ⟨o,e,_⟩:=T.obj _ _ st2 b hb;⟨o,e⟩
  have Dfp:D∉fp:=fun z=>by
    obtain ⟨o,e⟩:=fo D z
    have:=Heap.lt_size e
    rw [hDg] at this
    exact absurd this (Nat.lt_irrefl _)
  have Dfs:D∉frs X.stack:=fun z=>by
    rcases List.mem_cons.mp (I2.stkSub D z) with e | e
    · have:=I2.lt
      rw [<- e,hDg] at this
      exact absurd this (Nat.lt_irrefl _)
    · exact I2.nofs (by rw [hDg];exact Nat.le_refl _) e
  have DcY:∀x c,(b0 X.env scope.names []).lookup x=some c->c≠D:=fun x c e=>by
    rcases dY (PySem.mem_of_lookup e) with h | h
    · cases h
    · exact (I2.fpOk (H':=H2) (b:=D) (by rw [hDg];exact Nat.le_refl _) nD).2.2.2.2.1 x c h
  -- the block's context
  have Yok:∀s4:Shared,s4={ s2 with heap:=h1,toks:=s2.toks+([]:List (Str×Value)).length }->Inv (au X scope (tg++cs) C fp s2 H2) [] (capt tg.length ix σ) H2 s4:=by
    rintro s4 rfl
    exact iN S I2 f2 fo (by rw [hDg];exact hCle) old (by simpa using hns1) rfl I2.bare nC
  -- the loop
  have loop:∀s4:Shared,s4={ s2 with heap:=h1,toks:=s2.toks+([]:List (Str×Value)).length } ->
      codeAny (model X.prog X.w) X.A (.compLoop (.DictComp kx vx [⟨target,iter,ifs,0⟩] scope pos) 0 (.ref it) (.ref D) (compEnvC scope (b0 X.env scope.names []) C X.env)) (compPost (model X.prog X.w) X.A X.xe none (EP X pins σ Q) (.ref D) C) s4:=by
    intro s4 e4
    refine codeAny_loop rfl (fun n s'=>∃i es o H',Inv (au X scope (tg++cs) C fp s2 H2) [] (capt tg.length ix σ) H' s'/\tn i s'.heap/\(∀b∈fp,H' b=none)/\H' D=none/\s'.heap.get? D=some o/\DctP D es s'.heap/\W i n es H')
      ?_ m0 ⟨0,[],_,H2,Yok s4 e4,?_,fun b hb=>(f2 b hb).1,nD,by rw [e4];exact hD0,xf (by rw [e4];exact hD0) (by rw [<- hDg];exact nv I2),w0⟩
    · rintro n s5 ⟨i,es,o,H5,I5,st5,fr5,d5,o5,v5,w5⟩
      show wpAny _ X.A ((compTurn (.DictComp kx vx [⟨target,iter,ifs,0⟩] scope pos) 0 (.ref it) (.ref D) (compEnvC scope (b0 X.env scope.names []) C X.env)).onRaise (fun x=>do noteFrame x (compEnvC scope (b0 X.env scope.names []) C X.env);theTreesLotGoes x)) _ _ s5
      refine wpAny_noted ?_
      rw [compTurn_dict]
      have pin0:Inv (au X scope (tg++cs) C fp s2 H2) [(D,o)] (capt tg.length ix σ) H5 s5:=I5.pins_of fun p hp=>by
        have e:p=(D,o):=by simpa using hp
        subst e
        exact ⟨o5,d5,hDC,Dfs,v5.nocell o5⟩
      have fpY:∀{H':Hp},(∀b∈fp,H' b=none)->∀b∈fp,g9 (au X scope (tg++cs) C fp s2 H2) [(D,o)] H' b:=fun hn b hb=>
        ⟨hn b hb,(I5.ok.exf b hb).1,fun z=>I5.ok.exfs b hb z,.inl hb,(I5.ok.exf b hb).2,fun p hp z=>by
          have hp:p∈([]:List (Addr×Obj))++[(D,o)]:=hp
          have e:p=(D,o):=by simpa using hp
          subst e
          have z:D=b:=z
          exact Dfp (z▸hb)⟩
      refine wpAny_bind (wpAny_standAt (wpAny_bind ?_))
      rcases turn i n es H5 w5 with ⟨stop,qn⟩ | ⟨go,hz,Nx,hN,step⟩
      · refine thn (T.done (au X scope (tg++cs) C fp s2 H2) rfl rfl rfl hcalm i _ s5 _ H5 _ pin0 (fpY fr5) st5 stop) fun r s6 zr1=>?_
        obtain ⟨hr,I6⟩:=zr1
        subst hr
        refine wpAny_pure ?_
        obtain ⟨mC,hnsC,_⟩:=id I6.loc
        refine ⟨mC,hnsC,fun h' sb=>?_⟩
        have IX:Inv X pins σ H5 s6:=I2.call' (ch:=fp) I6.os I6.base I6.hok I6.bare fun b hb=>let ⟨_,a1,_,a3,a4,a5⟩:=f2 b hb;⟨a3,a1,a4,a5⟩
        obtain ⟨_,c1,_,c3,c4,c5⟩:=I2.fpOk (H':=H5) (b:=C) (by rw [hDg];exact hCle) I6.free
        have IX2:Inv X pins σ H5 { s6 with heap:=h' }:=IX.turned (t':=s6.toks) (fun b o hb e=>(sb.2 b hb).trans e) I6.free c1 c3 c4 c5
        obtain ⟨_,b1,_,b3,b4,b5⟩:=I2.fpOk (H':=H5) (b:=D) (by rw [hDg];exact Nat.le_refl _) d5
        have gD:h'.get? D=some o:=(sb.2 D hDC).trans (I6.pin (D,o) (List.mem_append_right _ List.mem_cons_self)).1
        exact ⟨.ref D,upd H5 D (bG D o es),IX2.track d5 (by rw [<- hDg];exact I2.sz) b1 b4 b5 ((v5.at (gD.trans o5.symm)).ok gD),rfl,qn D o d5⟩
      · refine thn (T.item (au X scope (tg++cs) C fp s2 H2) rfl rfl rfl hcalm i _ s5 _ H5 _ pin0 (fpY fr5) st5 go) fun r s6 zr1=>?_
        obtain ⟨u,hr,h6⟩:=zr1
        subst hr
        refine wpAny_bind (thn h6 fun _ s7 zr1=>?_)
        obtain ⟨x,H7,I7,r7,y7,st7,fr7⟩:=zr1
        have I7':=I7.pinned (fpY fr7) (T.obj _ _ st7)
        -- the next turn
        have again:∀{σ2:St} {H8:Hp} {s8:Shared} {es':List (List Int×Addr×V)} {o':Obj},Inv (au X scope (tg++cs) C fp s2 H2) [] σ2 H8 s8->(σ2.length=(capt tg.length ix σ).length/\∀(i:Nat) (v:V),(capt tg.length ix σ)[i]?=some (some v)->σ2[i]?=some (some v)) ->
            (∀b∈fp,∀o,s7.heap.get? b=some o->s8.heap.get? b=some o)->(∀b∈fp,H8 b=none)->H8 D=none->s8.heap.get? D=some o'->DctP D es' s8.heap->Nx es' H8 ->
            ∃m,m < n/\∃i es o H',Inv (au X scope (tg++cs) C fp s2 H2) [] (capt tg.length ix σ) H' s8/\tn i s8.heap/\(∀b∈fp,H' b=none)/\H' D=none/\s8.heap.get? D=some o/\DctP D es s8.heap/\W i m es H':=by
          intro σ2 H8 s8 es' o' I8 kp fk fn dn dg vv nx
          obtain ⟨m',hm,w8⟩:=hN es' H8 nx
          exact ⟨m',hm,i+1,es',o',H8,I8.weak kp.1.symm kp.2,T.keep _ _ _ st7 fk,fn,dn,dg,vv,w8⟩
        refine wpAny_bind (wpAny_mono (hg C fp s2 H2 _ s7 _ H7 x u _ I7' r7 (kg x σ H7 _ (step x H7 y7))) (fun _ s8 zr1=>?_) fun _ _ z=>z.elim)
        obtain ⟨σ8,H8,I8,kp8,q8⟩:=zr1
        refine wpAny_bind (wpAny_mono (hc C fp s2 H2 _ s8 σ8 H8 _ I8 q8) (fun ok s9 zr1=>?_) fun _ _ z=>z.elim)
        obtain ⟨H9,I9,q9⟩:=zr1
        have pinsOf:∀{σ':St} {H':Hp} {s':Shared},Inv (au X scope (tg++cs) C fp s2 H2) ([(D,o)]++eV fp s7.heap) σ' H' s' ->
            (∀b∈fp,∀o,s7.heap.get? b=some o->s'.heap.get? b=some o)/\(∀b∈fp,H' b=none)/\H' D=none/\s'.heap.get? D=some o:=by
          intro σ' H' s' I'
          refine ⟨fun b hb o e=>(I'.pin (b,o) (List.mem_append_right _ (List.mem_append_right _ (bL hb e)))).1,fun b hb=>?_,(I'.pin (D,o) (List.mem_append_right _ (List.mem_append_left _ List.mem_cons_self))).2.1,(I'.pin (D,o) (List.mem_append_right _ (List.mem_append_left _ List.mem_cons_self))).1⟩
          obtain ⟨o,e,d⟩:=T.obj _ _ st7 b hb
          exact (I'.pin (b,o) (List.mem_append_right _ (List.mem_append_right _ (bL hb e)))).2.1
        cases ok with
        | false=>
          obtain ⟨p1,p2,p3,p4⟩:=pinsOf I9
          exact wpAny_pure ⟨rfl,again (I9.pins_of fun p hp=>nomatch hp) kp8 p1 p2 p3 p4 (v5.at (p4.trans o5.symm)) q9⟩
        | true=>
          have q9:tk σ8 H9 fun y H6=>tv σ8 H6 fun v H7=>∃b ms,y=.ref b/\SqN X.K H7 b ms/\cg X.K H7 es/\Nx (fh es ms b v) H7:=q9
          refine wpAny_bind (wpAny_bind (wpAny_mono (hk C fp s2 H2 _ s9 σ8 H9 _ I9 q9) (fun kv s10 zr1=>?_) fun _ _ z=>z.elim))
          obtain ⟨y,H10,I10,ry,q10⟩:=zr1
          refine wpAny_bind (wpAny_holding (wpAny_mono (hv C fp s2 H2 _ s10 σ8 H10 _ I10 q10) (fun vv s11 zr1=>?_) fun _ _ z=>z.elim))
          obtain ⟨v,H11,I11,rv,b,ms,ey,sq,ka,nx⟩:=zr1
          subst ey
          cases ry
          obtain ⟨p1,p2,p3,p4⟩:=pinsOf I11
          have P11:DctP D es s11.heap:=v5.at (p4.trans o5.symm)
          obtain ⟨z,m,nd,xs,ev,dd⟩:=xg I11 P11 ka
          refine wpAny_bind (wpAny_standAt (wpAny_holding (wpAny_dictSet_heap (hsz:=by rw [<- Paired.length ev];exact z) (show (tupleKind (KT.numKind X.prog X.w)).room X.A from by show X.A.units < cLine;lia) (de (X:=au X scope (tg++cs) C fp s2 H2) I11 sq) dd fun h' dd' hs'=>?_)))
          have I12:Inv (au X scope (tg++cs) C fp s2 H2) [] σ8 H11 s11:=I11.pins_of fun p hp=>nomatch hp
          have I13:Inv (au X scope (tg++cs) C fp s2 H2) [] σ8 H11 { s11 with heap:=h',toks:=s11.toks+(tupleKind (KT.numKind X.prog X.w)).draws ms }:=
            I12.turned (fun b o hb e=>(hs'.2 b hb).trans e) p3 hDC (.inr (by show s2.heap.objs.size<=D;rw [hDg];exact Nat.le_refl _)) DcY (fun p hp=>nomatch hp)
          obtain ⟨qo,qd,qe,h1q,h2q,h3q,h4q,_,h5q⟩:=dd'
          refine wpAny_pure ⟨rfl,again I13 kp8 (fun b hb o e=>(hs'.2 b (fun z:b=D=>Dfp (z▸hb))).trans (p1 b hb o e)) p2 p3 h1q ⟨?_,m,?_,_,ev.put ms rv,qo,qd,qe,h1q,h2q,h3q,h4q⟩ nx⟩
          · have:=i5 es ms b v;lia
          · rw [(ev.put ms rv).keys];exact h5q
    · rw [e4];exact T.keep _ _ _ st2 fun b _ o e=>old b o e
  exact codeAny_compStart_dict (loop _ rfl) (T.self _ 0 _ _ _ (T.keep _ _ _ st2 fun b _ o e=>old b o e) (loop _ rfl))
end
end L2
namespace VL
open PySem L2 PySem.W
section
variable {X:Cx} {K:PySem.W.Frag} {m:Bool} {e:Expr} {te:TE} {va:VT} {pos:Pos}
theorem fN {N:AP} {k:List Int}:∀{es:List (List Int×Addr×V)} {kvs:List (List Int×D)},es.map (·.1)=kvs.map (·.1)->Reps K N F H (es.map (·.2.2)) (kvs.map (·.2)) ->
  (atE es k=none/\dA kvs k=none)\/∃v d,atE es k=some v/\dA kvs k=some d/\Rep K N F H v d
 | [],[],_,_=>.inl ⟨rfl,rfl⟩
 | [],_::_,h,_=>by cases h
 | _::_,[],h,_=>by cases h
 | e::es,p::ps,h,.cons r t=>by
  have h1:e.1=p.1:=(List.cons.inj h).1
  by_cases z:p.1=k
  ·exact .inr ⟨e.2.2,p.2,by simp [atE,h1,z],by simp [dA,z],r⟩
  ·rcases fN (k:=k) (List.cons.inj h).2 t with ⟨a,b⟩ | ⟨v,d,a,b,r⟩
   ·exact .inl ⟨by simpa [atE,List.find?_cons,h1,z] using a,by simpa [dA,List.find?_cons,z] using b⟩
   ·exact .inr ⟨v,d,by simpa [atE,List.find?_cons,h1,z] using a,by simpa [dA,List.find?_cons,z] using b,r⟩
noncomputable def zj (n:Int) (va vb:VT):VT:=fun S Q=>va S fun ra S1=>(∃kvs,get S1 ra=some (dc kvs))/\vb S1 fun rb S2=>∃kvs ms i,get S2 ra=some (dc kvs)/\get S2 rb=some (kT ms)/\(dA kvs ms).getD (.int n)=.int i/\Q (.d (.int i)) S2
theorem kX {o ie:Expr} {to ti:TE} {vo vi:VT} {n:Int} {j:Nat} {pc apos:Pos} (hK:X.K=K) (hu:X.A.units+64 < cLine) (ho:VE K X false o to vo) (hi:VE K X false ie ti vi) (hbase:attributeBase o "get" X.env (eval o X.env)=eval o X.env:=by rfl)
  (hfew:((backTo pos (starEach [ie,.Constant (.int n) j pc] X.env)).all (fun x=>!x.1)&&(backToKw pos (keywordEach [] X.env)).all (fun x=>x.1.isSome)
   && decide (([ie,.Constant (.int n) j pc]:List Expr).length+([]:List Keyword).length+(if ([]:List Keyword).isEmpty then 0 else 1) < 30))=true:=by rfl)
  (hline:(apos.endLine==pos.line)=true:=by rfl) (hs:starEach [ie,.Constant (.int n) j pc] X.env=(false,eval ie X.env)::starEach [.Constant (.int n) j pc] X.env:=by rfl) (hplain:(backTo pos (starEach [.Constant (.int n) j pc] X.env)).any (·.1)=false:=by rfl) :
  VE K X m (.Call (.Attribute o "get" apos) [ie,.Constant (.int n) j pc] [] pos) (zi K n to ti) (zj n vo vi):=
 ⟨by subst hK;exact w9 hu ho.pe hi.pe hbase hfew hline hs hplain,fun H0 Z σ H S Q C k t hc=>by
  refine ho.snd H0 Z σ H S _ _ k t fun x H1 ra S1 k1 st1 r1 zr1=>?_
  obtain ⟨⟨kvs0,e0⟩,t1⟩:=zr1
  obtain ⟨a,es0,rfl,_,_,⟨ob0,ha⟩,_⟩:=Rep.dct (show Rep K _ _ H1 x (.dic _ _) from r1.get k1 e0)
  refine ⟨⟨a,es0,ob0,rfl,ha⟩,?_⟩
  refine hi.snd H0 Z σ H1 S1 _ _ k1 t1 fun y H2 rb S2 k2 st2 r2 zr1=>?_
  obtain ⟨kvs,ms,i,e1,e2,ei,q⟩:=zr1
  obtain ⟨b,vs,rfl,hq,rr⟩:=Rep.sqT (show Rep K _ _ H2 y (.tup (ms.map D.int)) from r2.get k2 e2)
  cases Reps.toInts rr
  obtain ⟨a',es,ea,_,_,ha',ek,hk,_,rv⟩:=Rep.dct (show Rep K _ _ H2 (.ref a) (.dic _ _) from (r1.step st2).get k2 e1)
  cases ea
  refine ⟨b,a,ms,es,i,rfl,rfl,SqN.of hq,ha',hk,?_,hc _ H2 (.d (.int i)) S2 k2 (st1.trans st2) (Rep.int i) q⟩
  rcases fN (k:=ms) ek rv with ⟨z1,z2⟩ | ⟨v,d,z1,z2,r⟩
  ·rw [z2] at ei;rw [z1];cases ei;rfl
  ·rw [z2] at ei;rw [z1]
   cases (show d=.int i from ei)
   cases r
   rfl⟩
end
section
variable {K:PySem.W.Frag} {X:Cx} {kx vx iter:Expr} {pos:Pos}
theorem tx {H0 H:Hp} {y:V} {ri:VR} {m:Bool} (rr:eX K (FM H0 m) Z σ S H y ri) (ek:get S ri=some (kT ms)):∃b,y=.ref b/\SqT K H b (ms.map L2.V.int)/\Rep K (NM Z σ S) AnyF H (.ref b) (kT ms):=by
 cases ri with
 | d z=>
  cases ek
  obtain ⟨b,vs,rfl,hq,r2⟩:=Rep.sqT (show Rep K _ _ H y (.tup (ms.map D.int)) from rr)
  cases Reps.toInts r2
  exact ⟨b,rfl,hq,Rep.mono (fun _ n _=>⟨n,rfl⟩) (fun _ _=>trivial) rr⟩
 | own j=>
  have ek:getO S[j]?=some (kT ms):=ek
  cases e:S[j]? with
  | none=>rw [e] at ek;cases ek
  | some s=>rw [e] at ek;cases s <;> cases ek
noncomputable def tD (vi:VTN) (n:Nat) (ix:List Nat) (vg:VG) (vt:VTT) (vk vv:VT):VTD:=fun S Q=>vi S fun ds S1=>ds.length<=1000000/\∃Iv:Nat->List (List Int×D)->List Sl->Prop,Iv 0 [] S1 /\
 (∀i d kvs S2,ds[i]?=some d->Iv i kvs S2->vg d (bA n ix S2) fun S3=>vt S3 fun b S4=>if b=true then vk S4 fun rk S5=>vv S5 fun rv S6=>∃ms x,get S6 rk=some (kT ms)/\rv=.d x/\Iv (i+1) (cj kvs ms x) (backS n ix S2 S6) else Iv (i+1) kvs (backS n ix S2 S4)) /\
 ∀kvs S2,Iv ds.length kvs S2->Q kvs S2
theorem xh {ifs:List Expr} {scope:Scope} {tg cs:List Str} {target:Expr} {wi:TI} {vi:VTN} {g:TG} {vg:VG} {tc:TT} {vt:VTT} {tk tv:TE} {vk vv:VT} (hK:X.K=K) (hu:X.A.units+64 < cLine) (Sc:bq X scope tg cs ix) (hcalm:X.calm=true) (kg:cH tg.length ix g) (hnd:ix.Nodup)
    (hi:VI K X target iter wi vi) (hg:∀C fp s H,VGe K (au X scope (tg++cs) C fp s H) target g vg) (hc:∀C fp s H,VTs K (au X scope (tg++cs) C fp s H) ifs tc vt) (hk:∀C fp s H,VE K (au X scope (tg++cs) C fp s H) false kx tk vk) (hv:∀C fp s H,VE K (au X scope (tg++cs) C fp s H) true vx tv vv)
    (hs:∀x,foldedSetIterable iter X.env x=pure x:=by intro _;rfl):VDe K X (.DictComp kx vx [⟨target,iter,ifs,0⟩] scope pos) (tu K wi tg.length ix g tc tk tv) (tD vi tg.length ix vg vt vk vv):=by
  have sg:SndG K g vg:=(hg 0 [] X.s₀ (fun _=>none)).snd
  have sc:SndT K tc vt:=(hc 0 [] X.s₀ (fun _=>none)).snd
  have sk:SndE K false tk vk:=(hk 0 [] X.s₀ (fun _=>none)).snd
  have sv:SndE K true tv vv:=(hv 0 [] X.s₀ (fun _=>none)).snd
  refine ⟨by subst hK;exact tw hu Sc hcalm kg hi.pi (fun C fp s H=>(hg C fp s H).pg) (fun C fp s H=>(hc C fp s H).pe) (fun C fp s H=>(hk C fp s H).pe) (fun C fp s H=>(hv C fp s H).pe) hs,fun H0 Z σ H S Q C k t hq=>?_⟩
  refine hi.snd H0 Z σ H S _ _ k t fun J ds H1 S1 k1 st1 gd zr1=>?_
  obtain ⟨hl,Iv,i0,hs,hd⟩:=zr1
  refine ⟨fun i m es H=>m=ds.length-i/\i<=ds.length/\es.length<=i/\∃S2 kvs,OK K H0 Z σ H S2/\Step Z σ S1 H1 σ S2 H/\es.map (·.1)=kvs.map (·.1)/\Reps K (NM Z σ S2) AnyF H (es.map fun x=>V.ref x.2.1) ((kvs.map (·.1)).map kT)/\Reps K (NM Z σ S2) (Fr H0) H (es.map (·.2.2)) (kvs.map (·.2))/\Iv i kvs S2,
    ⟨ds.length,by simp,Nat.zero_le _,Nat.le_refl _,S1,[],k1,.refl,rfl,.nil,.nil,i0⟩,?_⟩
  rintro i m es H2 ⟨rfl,hi,hy,S2,kvs,k2,st2,ek,rk,rz,p⟩
  obtain ⟨g1,g2,g3⟩:=gd σ S2 H2 (fun _=>k2.nm) st2.1 i
  have hsz:(1000000:Nat) < sizeLine:=by rw [sizeLine_eq];lia
  by_cases hlt:i < ds.length
  · refine .inr ⟨g1 hlt,by lia,fun es' H'=>es'.length<=i+1/\∃S' kvs',OK K H0 Z σ H' S'/\Step Z σ S1 H1 σ S' H'/\es'.map (·.1)=kvs'.map (·.1)/\Reps K (NM Z σ S') AnyF H' (es'.map fun x=>V.ref x.2.1) ((kvs'.map (·.1)).map kT)/\Reps K (NM Z σ S') (Fr H0) H' (es'.map (·.2.2)) (kvs'.map (·.2))/\Iv (i+1) kvs' S',
      fun es' H' zt1=>by obtain ⟨p1,p2⟩:=zt1;exact ⟨ds.length-(i+1),by lia,rfl,hlt,p1,p2⟩,fun x H3 y=>?_⟩
    obtain ⟨hgr,d,hd',rd⟩:=g2 x H3 y hlt
    replace k2:=k2.grow hgr
    replace st2:=st2.trans (.grow hgr)
    replace rk:=rk.step (.grow hgr)
    replace rz:=rz.step (.grow hgr)
    have kc:=k2.capt (n:=tg.length) hnd
    have rd':Rep K (NM (Zin Z ix σ S2) (L2.capt tg.length ix σ) (bA tg.length ix S2)) AnyF H3 x d:=rd.mono (fun a n _=>⟨fun z=>n (iW.mp z),rfl⟩) fun _ x=>x
    have h1:=sg H0 _ _ H3 _ x d _ (fun σ4 H4=>∃S4,OK K H0 (Zin Z ix σ S2) σ4 H4 S4/\Step (Zin Z ix σ S2) (L2.capt tg.length ix σ) (bA tg.length ix S2) H3 σ4 S4 H4/\vt S4 fun b S5=>if b=true then vk S5 fun rk S6=>vv S6 fun rv S7=>∃ms x,get S7 rk=some (kT ms)/\rv=.d x/\Iv (i+1) (cj kvs ms x) (backS tg.length ix S2 S7) else Iv (i+1) kvs (backS tg.length ix S2 S5)) kc rd' (hs i d kvs S2 hd' p) (fun σ4 H4 S4 k4 st4 q4=>⟨S4,k4,st4,q4⟩)
    have h2:=kg x σ H3 _ h1
    refine (hg 0 [] X.s₀ (fun _=>none)).mono _ _ _ _ _ ?_ h2
    rintro σ4 H4 ⟨⟨hl4,hσ4⟩,S4,k4,st4,q4⟩
    refine sc H0 _ σ4 H4 S4 _ _ k4 q4 fun bb H5 S5 k5 st5 q5=>?_
    cases bb with
    | false=>
      rw [if_neg Bool.false_ne_true] at q5 ⊢
      obtain ⟨kb,sb,nb⟩:=k2.back k5 (st4.trans st5) hσ4
      exact ⟨by lia,_,kvs,kb,st2.trans sb,ek,rk.step sb,rz.step sb,q5⟩
    | true=>
      rw [if_pos rfl] at q5 ⊢
      refine sk H0 _ σ4 H5 S5 _ _ k5 q5 fun yy H6 ry S6 k6 st6 rry q6=>?_
      refine sv H0 _ σ4 H6 S6 _ _ k6 q6 fun vv' H7 rv S7 k7 st7 rrv zr1=>?_
      obtain ⟨ms,xx,e1,er,q7⟩:=zr1
      subst er
      obtain ⟨b,rfl,sq,rb⟩:=tx (rry.step st7) e1
      obtain ⟨kb,sb,nb⟩:=k2.back k7 (((st4.trans st5).trans st6).trans st7) hσ4
      have rk':=rk.step sb
      have rz':=rz.step sb
      obtain ⟨z1,z2,z3⟩:=oO (k:=ms) (b:=b) (v:=vv') (d:=xx) (F:=Fr H0) (F':=AnyF) (Rep.mono (fun a n _=>⟨nb a n,rfl⟩) (fun _ x=>x rfl) rrv) (Rep.mono (fun a n _=>⟨nb a n,rfl⟩) (fun _ x=>x) rb) ek rk' rz'
      refine ⟨b,ms,rfl,SqN.of sq,dB (by rw [ek];exact rk'),?_,_,cj kvs ms xx,kb,st2.trans sb,z1,z2,z3,q7⟩
      have:=i5 es ms b vv'
      lia
  · have e:i=ds.length:=by lia
    refine .inl ⟨g3 e,fun l ob hp=>?_⟩
    exact hq l es kvs H2 _ S2 k2 (st1.trans st2) hp (aY hp) ⟨ob,aK⟩ ek (rk.mono (fun a n e=>⟨⟨n,fun z=>e (z▸hp)⟩,aL fun z=>e (z▸hp)⟩) fun _ x=>x) (bU hp (rz.mono (fun _ n _=>⟨n,rfl⟩) fun _ x _=>x)) (hd kvs S2 (by rw [<- e];exact p))
end
end VL
end
section
namespace VL
open PySem L2 PySem.W
section
variable {va vb:VT} {vn:VTN} {S:List Sl} {Q:VR->List Sl->Prop} {i:Nat}
noncomputable def BB (n:Int) (ra:VR) (Q:VR->List Sl->Prop):VR->List Sl->Prop:=fun rb S2=>∃kvs ms i,get S2 ra=some (dc kvs)/\get S2 rb=some (kT ms)/\(dA kvs ms).getD (.int n)=.int i/\Q (.d (.int i)) S2
noncomputable def Ex (n:Int) (vb:VT) (Q:VR->List Sl->Prop):VR->List Sl->Prop:=fun ra S1=>(∃kvs,get S1 ra=some (dc kvs))/\vb S1 (BB n ra Q)
theorem BC {n:Int} (h:va S (Ex n vb Q)):zj n va vb S Q:=h
theorem BD {n:Int} {ra:VR} (e:get S ra=some (dc kvs)) (h:vb S (BB n ra Q)):Ex n vb Q ra S:=⟨⟨kvs,e⟩,h⟩
theorem nF {n:Int} {ra rb:VR} {i:Int} (e:get S ra=some (dc kvs)) (e2:get S rb=some (kT ms)) (e3:(dA kvs ms).getD (.int n)=.int i) (h:Q (.d (.int i)) S):BB n ra Q rb S:=⟨kvs,ms,i,e,e2,e3,h⟩
end
section
variable {α β:Type} {n:Nat} {ix:List Nat} {g g2:VG} {vt vt2:VTT} {vi vi2:VTN} {ve vk vv:VT} {S:List Sl}
noncomputable def BE (rk:VR) (A:List Int->D->List Sl->Prop):VR->List Sl->Prop:=fun rv S6=>∃ms x,get S6 rk=some (kT ms)/\rv=.d x/\A ms x S6
noncomputable def BF (vv:VT) (A:List Int->D->List Sl->Prop):VR->List Sl->Prop:=fun rk S5=>vv S5 (BE rk A)
noncomputable def xj (vk vv:VT) (A:List Int->D->List Sl->Prop) (B:List Sl->Prop):Bool->List Sl->Prop:=fun b S4=>if b=true then vk S4 (BF vv A) else B S4
noncomputable def tE (n:Nat) (ix:List Nat) (g:VG) (vt:VTT) (vk vv:VT) (Q:List (List Int×D)->List Sl->Prop):List D->List Sl->Prop:=fun ds S1=>ds.length<=1000000/\∃Iv:Nat->List (List Int×D)->List Sl->Prop,Iv 0 [] S1 /\
 (∀i d kvs S2,ds[i]?=some d->Iv i kvs S2->g d (bA n ix S2) fun S3=>vt S3 (xj vk vv (fun ms x S6=>Iv (i+1) (cj kvs ms x) (backS n ix S2 S6)) fun S4=>Iv (i+1) kvs (backS n ix S2 S4)))/\∀kvs S2,Iv ds.length kvs S2->Q kvs S2
theorem xk {Q:List (List Int×D)->List Sl->Prop} (h:vi S (tE n ix g vt vk vv Q)):tD vi n ix g vt vk vv S Q:=h
theorem BG {A:List Int->D->List Sl->Prop} {B:List Sl->Prop} (h:vk S (BF vv A)):xj vk vv A B true S:=by unfold xj;rw [if_pos rfl];exact h
theorem BH {A:List Int->D->List Sl->Prop} {rk:VR} (h:vv S (BE rk A)):BF vv A rk S:=h
theorem BI {A:List Int->D->List Sl->Prop} {rk:VR} {x:D} (e:get S rk=some (kT ms)) (h:A ms x S):BE rk A (.d x) S:=⟨ms,x,e,rfl,h⟩
theorem qq {Q:List (List Int×D)->List Sl->Prop} {xs:List α} {en f:α->D} {ky:α->List Int} (hl:xs.length<=1000000)
  (h:∀x∈xs,∀(A:List Int->D->List Sl->Prop) (B:List Sl->Prop),(∀S5,backS n ix S S5=S->A (ky x) (f x) S5)->g (en x) (bA n ix S) fun S3=>vt S3 (xj vk vv A B))
  (h2:Q (xs.foldl (fun kvs x=>cj kvs (ky x) (f x)) []) S):tE n ix g vt vk vv Q (xs.map en) S:=by
 refine ⟨by simpa using hl,fun i kvs S'=>S'=S/\kvs=(xs.take i).foldl (fun kvs x=>cj kvs (ky x) (f x)) [],⟨rfl,by simp⟩,?_,?_⟩
 ·rintro i d kvs S2 e ⟨rfl,rfl⟩
  obtain ⟨x,h1,rfl,hm,ht⟩:=bp e
  refine h x hm _ _ fun S5 e5=>⟨e5,?_⟩
  rw [ht,List.foldl_append]
  rfl
 ·rintro kvs S2 ⟨rfl,rfl⟩
  rw [List.length_map,List.take_length]
  exact h2
theorem tF {k c:List Int}:c∈(cj kvs k d).map (·.1)↔c=k\/c∈kvs.map (·.1):=by
 unfold cj
 split
 ·next h=>
  rw [show (kvs.map fun x=>if x.1=k then (x.1,d) else x).map (·.1)=kvs.map (·.1) from cP kvs k d]
  exact ⟨.inr,fun z=>z.elim (fun e=>e▸h) id⟩
 ·simp [or_comm]
theorem gF {α:Type} {ky:α->List Int} {f:α->D} {c:List Int}:∀(xs:List α) (kvs:List (List Int×D)),c∈(xs.foldl (fun kvs x=>cj kvs (ky x) (f x)) kvs).map (·.1)↔c∈xs.map ky\/c∈kvs.map (·.1)
 | [],kvs=>by simp
 | x::xs,kvs=>by
  rw [List.foldl_cons,gF xs,tF,List.map_cons,List.mem_cons]
  exact ⟨fun z=>z.elim (fun h=>.inl (.inr h)) fun z=>z.elim (fun h=>.inl (.inl h)) .inr,fun z=>z.elim (fun z=>z.elim (fun h=>.inr (.inl h)) .inl) fun h=>.inr (.inr h)⟩
end
end VL
end
section
namespace Tim
open PySem PyProof.Rows
noncomputable def gal:Bool->Keyed->Array Keyed->Nat->Nat->Nat->StateT SortSt Sem (Option Nat):=sortPriv% PySem.Builtin.gallop
noncomputable def at_ (arr:Array Keyed) (i:Nat):Keyed:=arr.getD i (Value.none,Value.none)
theorem oT {arr:Array Keyed} {i:Nat} (h:i < arr.size):arr[i]?=some (at_ arr i):=by
 unfold at_;simp [Array.getD,h]
theorem ba {a b:Array Keyed} {i j:Nat} (h:a[i]?=b[j]?):at_ a i=at_ b j:=by
 unfold at_;rw [Array.getD_eq_getD_getElem?,Array.getD_eq_getD_getElem?,h]
noncomputable def gG (prog:Program) (w:World) (A:Around) (s:Shared) (κ:SortKind) (O:KeyOrd) (key:Keyed->O.α) (P:Keyed->Prop):Prop:=
 ∀(x y:Keyed) (C:Bool->Shared->Prop),P x->P y->C (O.blt (key x) (key y)) s->wpAny (model prog w) A (keyLt' κ x.1 y.1) C (fun _ _=>False) s
noncomputable def bey {O:KeyOrd} (key:Keyed->O.α) (left:Bool) (x y:Keyed):Bool:=if left=true then O.blt (key y) (key x) else !O.blt (key x) (key y)
section
variable {prog:Program} {w:World} {A:Around} {E:Value->Shared->Prop} {s:Shared} {κ:SortKind} {O:KeyOrd} {key:Keyed->O.α} {P:Keyed->Prop}
theorem mj (C:gG prog w A s κ O key P) {x y:Keyed} {st:SortSt} {Q:Option Bool->SortSt->Prop} (hx:P x) (hy:P y) (hk:kindOf st=κ) (h:Q (some (O.blt (key x) (key y))) st) :
  wpS (model prog w) A E s (lt' x y) Q st:=by
 rw [lt'_eq]
 refine wpS_bind (wpS_get ?_)
 rw [hk]
 refine wpS_bind (wpS_lift (wpAny_attempt (wpAny_mono (C x y (fun b s'=>s'=s/\b=O.blt (key x) (key y)) hx hy ⟨rfl,rfl⟩) (fun b s' z=>⟨z.1,?_⟩) fun _ _ z=>z.elim)))
 rw [z.2]
 exact wpS_pure h
theorem aN {arr:Array Keyed} {i:Nat} {st:SortSt} {Q:Keyed->SortSt->Prop} (e:i < arr.size) (h:Q (at_ arr i) st):wpS (model prog w) A E s (elem' arr i) Q st:=by
 rw [elem'_eq,oT e];exact wpS_pure h
theorem BJ (C:gG prog w A s κ O key P) {left:Bool} {x:Keyed} {arr:Array Keyed} {i:Nat} {st:SortSt} {Q:Option Bool->SortSt->Prop} (e:i < arr.size) (hx:P x) (hy:P (at_ arr i)) (hk:kindOf st=κ)
  (h:Q (some (bey key left x (at_ arr i))) st) :
  wpS (model prog w) A E s (elem' arr i >>= fun y=>if left=true then lt' y x else lt' x y >>= fun r=>pure (Option.map (fun z=>!z) r)) Q st:=by
 refine wpS_bind (aN e ?_)
 unfold bey at h
 cases left with
 | true=>exact mj C hy hx hk h
 | false=>exact wpS_bind (mj C hx hy hk (wpS_pure h))
theorem d7 (C:gG prog w A s κ O key P) {left:Bool} {x:Keyed} {arr:Array Keyed} {base n hint:Nat} {st:SortSt} {Q:Option Nat->SortSt->Prop} (hk:kindOf st=κ) (hh:hint < n) (hz:base+n<=arr.size)
  (hP:∀i,i < n->P (at_ arr (base+i))) (hx:P x) (mono:∀i j,i<=j->j < n->bey key left x (at_ arr (base+j))=true->bey key left x (at_ arr (base+i))=true)
  (h:∀k,k<=n->(∀i,i < k->bey key left x (at_ arr (base+i))=true)->(∀i,k<=i->i < n->bey key left x (at_ arr (base+i))=false)->Q (some k) st) :
  wpS (model prog w) A E s (gal left x arr base n hint) Q st:=by
 have B:=fun i (hi:i < n) (R:Option Bool->SortSt->Prop) (r:R (some (bey key left x (at_ arr (base+i)))) st)=>BJ (E:=E) C (left:=left) (show base+i < arr.size by lia) hx (hP i hi) hk r
 generalize eb:(fun i=>bey key left x (at_ arr (base+i)))=b at *
 have eb':∀i,bey key left x (at_ arr (base+i))=b i:=fun i=>by rw [<- eb]
 simp only [eb'] at *
 have anti:∀i j,i<=j->j < n->b i=false->b j=false:=fun i j hij hj hi=>by
  cases hj':b j with
  | false=>rfl
  | true=>rw [mono i j hij hj hj'] at hi;cases hi
 delta gal
 refine wpS_bind (B hint hh _ ?_)
 dsimp only
 cases hb:b hint with
 | true=>
  rw [if_pos rfl]
  refine wpS_bind (wpS_mono (wpS_forRange (I:=fun k c st'=>st'=st/\∃ls os,c=(none,ls,os)/\ls < os/\k+1<=os/\hint+ls < n/\b (hint+ls)=true)
   (Q:=fun c st'=>st'=st/\∃ls os,c=(none,ls,os)/\ls < os/\hint+ls < n/\b (hint+ls)=true/\(n-hint<=os\/b (hint+os)=false)) ?step ?fin ⟨rfl,0,1,rfl,by lia,by lia,by lia,hb⟩) ?post)
  case fin=>
   rintro c st' ⟨rfl,ls,os,rfl,h1,h2,h3,h4⟩
   exact ⟨rfl,ls,os,rfl,h1,h3,h4,.inl (by lia)⟩
  case step=>
   rintro k c st' _ hkn ⟨rfl,ls,os,rfl,h1,h2,h3,h4⟩
   dsimp only
   by_cases hge:os >= n-hint
   ·rw [if_pos hge];exact wpS_pure ⟨rfl,ls,os,rfl,h1,h3,h4,.inl hge⟩
   ·rw [if_neg hge]
    refine wpS_bind (B (hint+os) (by lia) _ ?_)
    dsimp only
    cases ho:b (hint+os) with
    | true=>exact wpS_pure ⟨rfl,os,2*os+1,rfl,by lia,by lia,by lia,ho⟩
    | false=>exact wpS_pure ⟨rfl,ls,os,rfl,h1,h3,h4,.inr ho⟩
  case post=>
   rintro c st' ⟨rfl,ls,os,rfl,h1,h3,h4,h5⟩
   dsimp only
   refine wpS_bind (wpS_mono (wpS_forRange (I:=fun k c st''=>st''=st'/\∃lo hi,c=(none,lo,hi)/\lo<=hi/\hi<=n/\hi-lo<=n-k/\(∀i,i < lo->b i=true)/\(∀i,hi<=i->i < n->b i=false))
    (Q:=fun c st''=>st''=st'/\∃k,c=(none,k,k)/\k<=n/\(∀i,i < k->b i=true)/\(∀i,k<=i->i < n->b i=false)) ?step ?fin ?init) ?post)
   case init=>
    refine ⟨rfl,_,_,rfl,by lia,by lia,by lia,fun i hi=>mono i _ (by lia) h3 h4,fun i hi hn=>?_⟩
    rcases h5 with h5 | h5
    ·lia
    ·by_cases hge:n-hint<=os
     ·lia
     ·exact anti _ i (by lia) hn h5
   case post=>
    rintro c st'' ⟨rfl,k,rfl,z1,z2,z3⟩
    exact wpS_pure (h k z1 z2 z3)
   case fin=>
    rintro c st'' ⟨rfl,lo,hi,rfl,a1,a2,a3,a4,a5⟩
    have:lo=hi:=by lia
    subst this
    exact ⟨rfl,lo,rfl,a2,a4,a5⟩
   case step=>
    rintro k c st'' _ hkn ⟨rfl,lo,hi,rfl,a1,a2,a3,a4,a5⟩
    dsimp only
    by_cases hge:lo >= hi
    ·rw [if_pos hge]
     have:lo=hi:=by lia
     subst this
     exact wpS_pure ⟨rfl,lo,rfl,a2,a4,a5⟩
    ·rw [if_neg hge]
     refine wpS_bind (B (lo+(hi-lo) / 2) (by lia) _ ?_)
     dsimp only
     cases ho:b (lo+(hi-lo) / 2) with
     | true=>exact wpS_pure ⟨rfl,_,_,rfl,by lia,a2,by lia,fun i hi=>mono i _ (by lia) (by lia) ho,a5⟩
     | false=>exact wpS_pure ⟨rfl,_,_,rfl,by lia,by lia,by lia,a4,fun i h1 h2=>anti _ i h1 h2 ho⟩
 | false=>
  rw [if_neg (by simp)]
  refine wpS_bind (wpS_mono (wpS_forRange (I:=fun k c st'=>st'=st/\∃ls os,c=(none,ls,os)/\ls < os/\k+1<=os/\ls<=hint/\b (hint-ls)=false)
   (Q:=fun c st'=>st'=st/\∃ls os,c=(none,ls,os)/\ls < os/\ls<=hint/\b (hint-ls)=false/\(hint+1<=os\/(os<=hint/\b (hint-os)=true))) ?step ?fin ⟨rfl,0,1,rfl,by lia,by lia,by lia,hb⟩) ?post)
  case fin=>
   rintro c st' ⟨rfl,ls,os,rfl,h1,h2,h3,h4⟩
   exact ⟨rfl,ls,os,rfl,h1,h3,h4,.inl (by lia)⟩
  case step=>
   rintro k c st' _ hkn ⟨rfl,ls,os,rfl,h1,h2,h3,h4⟩
   dsimp only
   by_cases hge:os >= hint+1
   ·rw [if_pos hge];exact wpS_pure ⟨rfl,ls,os,rfl,h1,h3,h4,.inl hge⟩
   ·rw [if_neg hge]
    refine wpS_bind (B (hint-os) (by lia) _ ?_)
    dsimp only
    cases ho:b (hint-os) with
    | true=>exact wpS_pure ⟨rfl,ls,os,rfl,h1,h3,h4,.inr ⟨by lia,ho⟩⟩
    | false=>exact wpS_pure ⟨rfl,os,2*os+1,rfl,by lia,by lia,by lia,ho⟩
  case post=>
   rintro c st' ⟨rfl,ls,os,rfl,h1,h3,h4,h5⟩
   dsimp only
   refine wpS_bind (wpS_mono (wpS_forRange (I:=fun k c st''=>st''=st'/\∃lo hi,c=(none,lo,hi)/\lo<=hi/\hi<=n/\hi-lo<=n-k/\(∀i,i < lo->b i=true)/\(∀i,hi<=i->i < n->b i=false))
    (Q:=fun c st''=>st''=st'/\∃k,c=(none,k,k)/\k<=n/\(∀i,i < k->b i=true)/\(∀i,k<=i->i < n->b i=false)) ?step ?fin ?init) ?post)
   case init=>
    refine ⟨rfl,_,_,rfl,by lia,by lia,by lia,fun i hi=>?_,fun i hi hn=>anti _ i hi hn h4⟩
    rcases h5 with h5 | h5
    ·lia
    ·exact mono i _ (by lia) (by lia) h5.2
   case post=>
    rintro c st'' ⟨rfl,k,rfl,z1,z2,z3⟩
    exact wpS_pure (h k z1 z2 z3)
   case fin=>
    rintro c st'' ⟨rfl,lo,hi,rfl,a1,a2,a3,a4,a5⟩
    have:lo=hi:=by lia
    subst this
    exact ⟨rfl,lo,rfl,a2,a4,a5⟩
   case step=>
    rintro k c st'' _ hkn ⟨rfl,lo,hi,rfl,a1,a2,a3,a4,a5⟩
    dsimp only
    by_cases hge:lo >= hi
    ·rw [if_pos hge]
     have:lo=hi:=by lia
     subst this
     exact wpS_pure ⟨rfl,lo,rfl,a2,a4,a5⟩
    ·rw [if_neg hge]
     refine wpS_bind (B (lo+(hi-lo) / 2) (by lia) _ ?_)
     dsimp only
     cases ho:b (lo+(hi-lo) / 2) with
     | true=>exact wpS_pure ⟨rfl,_,_,rfl,by lia,a2,by lia,fun i hi=>mono i _ (by lia) (by lia) ho,a5⟩
     | false=>exact wpS_pure ⟨rfl,_,_,rfl,by lia,by lia,by lia,a4,fun i h1 h2=>anti _ i h1 h2 ho⟩
end
end Tim
end
section
namespace Tim
open PySem PyProof.Rows
section
variable {α:Type} {le:α->α->Prop}
structure MI (le:α->α->Prop) (A B out:List α) (ia ib:Nat):Prop where
 perm:out.Perm (A.take ia++B.take ib)
 srt:out.Pairwise le
 la:∀x∈out,∀y∈A.drop ia,le x y
 lb:∀x∈out,∀y∈B.drop ib,le x y
noncomputable def Res (le:α->α->Prop) (A B r:List α):Prop:=r.Perm (A++B)/\r.Pairwise le
theorem MI.pushA {A B out:List α} {ia ib k:Nat} (sA:A.Pairwise le) (M:MI le A B out ia ib) (h:∀x∈(A.drop ia).take k,∀y∈B.drop ib,le x y):MI le A B (out++(A.drop ia).take k) (ia+k) ib:=by
 have sD:((A.drop ia).take k++(A.drop ia).drop k).Pairwise le:=by rw [List.take_append_drop];exact sA.drop
 have eD:A.drop (ia+k)=(A.drop ia).drop k:=by rw [List.drop_drop]
 rw [List.pairwise_append] at sD
 refine ⟨?_,?_,?_,?_⟩
 ·rw [List.take_add,List.append_assoc]
  refine (M.perm.append_right _).trans ?_
  rw [List.append_assoc]
  exact List.Perm.append_left _ List.perm_append_comm
 ·exact List.pairwise_append.mpr ⟨M.srt,sD.1,fun x hx y hy=>M.la x hx y (List.mem_of_mem_take hy)⟩
 ·intro x hx y hy
  rw [eD] at hy
  rcases List.mem_append.mp hx with hx | hx
  ·exact M.la x hx y (List.mem_of_mem_drop hy)
  ·exact sD.2.2 x hx y hy
 ·intro x hx y hy
  rcases List.mem_append.mp hx with hx | hx
  ·exact M.lb x hx y hy
  ·exact h x hx y hy
theorem MI.swap {A B out:List α} {ia ib:Nat} (M:MI le A B out ia ib):MI le B A out ib ia:=⟨M.perm.trans List.perm_append_comm,M.srt,M.lb,M.la⟩
theorem MI.pushB {A B out:List α} {ia ib k:Nat} (sB:B.Pairwise le) (M:MI le A B out ia ib) (h:∀x∈(B.drop ib).take k,∀y∈A.drop ia,le x y):MI le A B (out++(B.drop ib).take k) ia (ib+k):=
 (M.swap.pushA sB h).swap
theorem MI.done {A B out:List α} {ia ib:Nat} (sA:A.Pairwise le) (sB:B.Pairwise le) (M:MI le A B out ia ib) (h:A.drop ia=[]\/B.drop ib=[]):Res le A B (out++A.drop ia++B.drop ib):=by
 refine ⟨?_,?_⟩
 ·rw [List.append_assoc]
  refine (M.perm.append_right _).trans ?_
  conv=>rhs;rw [<- List.take_append_drop ia A,<- List.take_append_drop ib B]
  rw [List.append_assoc,List.append_assoc]
  refine List.Perm.append_left _ ?_
  rw [<- List.append_assoc,<- List.append_assoc]
  exact List.Perm.append_right _ List.perm_append_comm
 ·rw [List.append_assoc]
  refine List.pairwise_append.mpr ⟨M.srt,?_,fun x hx y hy=>?_⟩
  ·rcases h with h | h
   ·rw [h];exact sB.drop
   ·rw [h,List.append_nil];exact sA.drop
  ·rcases List.mem_append.mp hy with hy | hy
   ·exact M.la x hx y hy
   ·exact M.lb x hx y hy
theorem MI.last {A B out:List α} {ia ib:Nat} (sA:A.Pairwise le) (sB:B.Pairwise le) (M:MI le A B out ia ib) (h:∀x∈B,∀y∈A.drop ia,le x y):Res le A B (out++B.drop ib++A.drop ia):=by
 refine ⟨?_,?_⟩
 ·rw [List.append_assoc]
  refine (M.perm.append_right _).trans ?_
  conv=>rhs;rw [<- List.take_append_drop ia A,<- List.take_append_drop ib B]
  rw [List.append_assoc,List.append_assoc]
  refine List.Perm.append_left _ ?_
  rw [<- List.append_assoc]
  exact List.perm_append_comm
 ·rw [List.append_assoc]
  refine List.pairwise_append.mpr ⟨M.srt,List.pairwise_append.mpr ⟨sB.drop,sA.drop,fun x hx y hy=>h x (List.mem_of_mem_drop hx) y hy⟩,fun x hx y hy=>?_⟩
  rcases List.mem_append.mp hy with hy | hy
  ·exact M.lb x hx y hy
  ·exact M.la x hx y hy
structure MH (le:α->α->Prop) (A B R:List α) (na nb:Nat):Prop where
 perm:R.Perm (A.drop na++B.drop nb)
 srt:R.Pairwise le
 la:∀x∈A.take na,∀y∈R,le x y
 lb:∀x∈B.take nb,∀y∈R,le x y
theorem MH.swap {A B R:List α} {na nb:Nat} (M:MH le A B R na nb):MH le B A R nb na:=⟨M.perm.trans List.perm_append_comm,M.srt,M.lb,M.la⟩
theorem MH.pushA {A B R:List α} {na nb k:Nat} (sA:A.Pairwise le) (hk:k<=na) (M:MH le A B R na nb) (h:∀x∈B.take nb,∀y∈(A.take na).drop k,le x y):MH le A B ((A.take na).drop k++R) k nb:=by
 have sD:((A.take na).take k++(A.take na).drop k).Pairwise le:=by rw [List.take_append_drop];exact sA.take
 have eT:A.take k=(A.take na).take k:=by rw [List.take_take,Nat.min_eq_left hk]
 have eD:A.drop k=(A.take na).drop k++A.drop na:=by
  conv=>lhs;rw [<- List.take_append_drop na A]
  rw [List.drop_append]
  by_cases hz:na<=A.length
  ·rw [show k-(A.take na).length=0 by rw [List.length_take];lia];rfl
  ·rw [List.drop_eq_nil_of_le (show A.length<=na by lia)];simp
 rw [List.pairwise_append] at sD
 refine ⟨?_,?_,?_,?_⟩
 ·rw [eD,List.append_assoc]
  exact List.Perm.append_left _ M.perm
 ·exact List.pairwise_append.mpr ⟨sD.2.1,M.srt,fun x hx y hy=>M.la x (List.mem_of_mem_drop hx) y hy⟩
 ·intro x hx y hy
  rw [eT] at hx
  rcases List.mem_append.mp hy with hy | hy
  ·exact sD.2.2 x hx y hy
  ·exact M.la x (List.mem_of_mem_take hx) y hy
 ·intro x hx y hy
  rcases List.mem_append.mp hy with hy | hy
  ·exact h x hx y hy
  ·exact M.lb x hx y hy
theorem MH.pushB {A B R:List α} {na nb k:Nat} (sB:B.Pairwise le) (hk:k<=nb) (M:MH le A B R na nb) (h:∀x∈A.take na,∀y∈(B.take nb).drop k,le x y):MH le A B ((B.take nb).drop k++R) na k:=
 (M.swap.pushA sB hk h).swap
theorem MH.done {A B R:List α} {na nb:Nat} (sA:A.Pairwise le) (sB:B.Pairwise le) (M:MH le A B R na nb) (h:A.take na=[]\/B.take nb=[]):Res le A B (A.take na++B.take nb++R):=by
 refine ⟨?_,?_⟩
 ·refine (M.perm.append_left _).trans ?_
  conv=>rhs;rw [<- List.take_append_drop na A,<- List.take_append_drop nb B]
  rw [List.append_assoc,List.append_assoc]
  refine List.Perm.append_left _ ?_
  rw [<- List.append_assoc,<- List.append_assoc]
  exact List.Perm.append_right _ List.perm_append_comm
 ·refine List.pairwise_append.mpr ⟨?_,M.srt,fun x hx y hy=>?_⟩
  ·rcases h with h | h
   ·rw [h];exact sB.take
   ·rw [h,List.append_nil];exact sA.take
  ·rcases List.mem_append.mp hx with hx | hx
   ·exact M.la x hx y hy
   ·exact M.lb x hx y hy
theorem MH.first {A B R:List α} {na nb:Nat} (sA:A.Pairwise le) (sB:B.Pairwise le) (M:MH le A B R na nb) (h:∀x∈B.take nb,∀y∈A,le x y):Res le A B (B.take nb++A.take na++R):=by
 refine ⟨?_,?_⟩
 ·refine (M.perm.append_left _).trans ?_
  conv=>rhs;rw [<- List.take_append_drop na A,<- List.take_append_drop nb B]
  rw [<- List.append_assoc,<- List.append_assoc]
  refine List.Perm.append_right _ ?_
  rw [List.append_assoc,List.append_assoc]
  exact List.perm_append_comm.trans (by rw [List.append_assoc])
 ·refine List.pairwise_append.mpr ⟨List.pairwise_append.mpr ⟨sB.take,sA.take,fun x hx y hy=>h x hx y (List.mem_of_mem_take hy)⟩,M.srt,fun x hx y hy=>?_⟩
  rcases List.mem_append.mp hx with hx | hx
  ·exact M.lb x hx y hy
  ·exact M.la x hx y hy
theorem di {l:List α} {i:Nat} (d:α) (h:i < l.length):(l.drop i).take 1=[l.getD i d]:=by
 rw [List.drop_eq_getElem_cons h,List.take_succ_cons,List.take_zero,List.getD_eq_getElem?_getD,List.getElem?_eq_getElem h];rfl
theorem dj {l:List α} {i:Nat} (d:α) (h:i < l.length):(l.take (i+1)).drop i=[l.getD i d]:=by
 rw [List.take_add_one,List.drop_append,List.drop_eq_nil_of_le (by simp;lia)]
 simp [h,Nat.min_eq_left (Nat.le_of_lt h)]
end
end Tim
end
section
namespace Tim
open PySem PyProof.Rows
noncomputable def mlo:Array Keyed->Array Keyed->StateT SortSt Sem (Array Keyed):=sortPriv% PySem.Builtin.mergeLo
noncomputable def Same (st st':SortSt):Prop:=kindOf st'=kindOf st/\arrOf st'=arrOf st/\pendingOf st'=pendingOf st/\failedOf st'=failedOf st
theorem Same.rfl' {st:SortSt}:Same st st:=⟨rfl,rfl,rfl,rfl⟩
theorem kY (a:Array Keyed) (i:Nat):(a.extract i a.size).toList=a.toList.drop i:=by
 simp only [Array.toList_extract,List.extract_eq_take_drop];exact List.take_of_length_le (by simp)
theorem xl (a:Array Keyed) (i k:Nat):(a.extract i (i+k)).toList=(a.toList.drop i).take k:=by simp [List.extract_eq_take_drop]
noncomputable abbrev kl {O:KeyOrd} (key:Keyed->O.α):Keyed->Keyed->Prop:=fun x y=>O.kle (key x) (key y)
theorem bW {a:Array Keyed} {i:Nat} (h:i < a.size):a.toList[i]?=some (at_ a i):=by rw [Array.getElem?_toList];exact oT h
theorem d8 {a:Array Keyed} {i:Nat} (h:i < a.size):at_ a i∈a.toList:=List.mem_of_getElem? (bW h)
theorem getD_at {a:Array Keyed} {i:Nat} (h:i < a.size):a.toList.getD i (Value.none,Value.none)=at_ a i:=by rw [List.getD_eq_getElem?_getD,bW h];rfl
theorem kZ {a:Array Keyed} {i k:Nat} {x:Keyed} (h:x∈(a.toList.drop i).take k):∃j,j < k/\i+j < a.size/\x=at_ a (i+j):=by
 obtain ⟨j,hj,e⟩:=List.getElem_of_mem h
 have hj':j < k/\j < a.size-i:=by simpa [Nat.lt_min] using hj
 refine ⟨j,hj'.1,by lia,?_⟩
 have e2:a.toList[i+j]?=some x:=by
  rw [<- e]
  simp only [List.getElem_take,List.getElem_drop]
  exact List.getElem?_eq_getElem _
 rw [bW (by lia)] at e2
 exact (Option.some.inj e2).symm
theorem j4 {a:Array Keyed} {i:Nat} {x:Keyed} (h:x∈a.toList.drop i):∃j,i+j < a.size/\x=at_ a (i+j):=by
 obtain ⟨j,_,h2,h3⟩:=kZ (k:=(a.toList.drop i).length) (by rw [List.take_length];exact h)
 exact ⟨j,h2,h3⟩
section
variable {prog:Program} {w:World} {A:Around} {E:Value->Shared->Prop} {s:Shared} {κ:SortKind} {O:KeyOrd} {key:Keyed->O.α} {P:Keyed->Prop}
theorem d9 {a:Array Keyed} (h:a.toList.Pairwise (kl key)) {i j:Nat} (hij:i<=j) (hj:j < a.size):kl key (at_ a i) (at_ a j):=by
 by_cases e:i=j
 ·subst e;exact KeyOrd.kle_refl _
 ·have q:=List.pairwise_iff_getElem.mp h i j (by simp;lia) (by simpa using hj) (by lia)
  have e1:a.toList[i]'(by simp;lia)=at_ a i:=by have:=bW (a:=a) (i:=i) (by lia);rw [List.getElem?_eq_getElem (by simp;lia)] at this;exact Option.some.inj this
  have e2:a.toList[j]'(by simpa using hj)=at_ a j:=by have:=bW (a:=a) (i:=j) hj;rw [List.getElem?_eq_getElem (by simpa using hj)] at this;exact Option.some.inj this
  rw [e1,e2] at q
  exact q
theorem fO {a:Array Keyed} (h:a.toList.Pairwise (kl key)) {i:Nat} {y:Keyed} (hy:y∈a.toList.drop i):kl key (at_ a i) y:=by
 obtain ⟨j,hj,rfl⟩:=j4 hy
 exact d9 h (by lia) hj
theorem mm {x y:Keyed} (h:bey key false x y=true):kl key y x:=by
 have:(!O.blt (key x) (key y))=true:=h
 show O.blt (key x) (key y)=false
 simpa using this
theorem tG {x y:Keyed} (h:bey key false x y=false):O.klt (key x) (key y):=by
 have:(!O.blt (key x) (key y))=false:=h
 show O.blt (key x) (key y)=true
 simpa using this
theorem i6 {x y:Keyed} (h:bey key true x y=true):O.klt (key y) (key x):=h
theorem mn {x y:Keyed} (h:bey key true x y=false):kl key x y:=h
theorem oU {a:Array Keyed} (h:a.toList.Pairwise (kl key)) {x:Keyed} {base n:Nat} (hz:base+n<=a.size):∀i j,i<=j->j < n->bey key false x (at_ a (base+j))=true->bey key false x (at_ a (base+i))=true:=fun i j hij hj q=>by
 have q:=mm q
 have:kl key (at_ a (base+i)) x:=KeyOrd.kle_trans (d9 h (by lia) (by lia)) q
 show (!O.blt (key x) (key (at_ a (base+i))))=true
 rw [show O.blt (key x) (key (at_ a (base+i)))=false from this];rfl
theorem ip {a:Array Keyed} (h:a.toList.Pairwise (kl key)) {x:Keyed} {base n:Nat} (hz:base+n<=a.size):∀i j,i<=j->j < n->bey key true x (at_ a (base+j))=true->bey key true x (at_ a (base+i))=true:=fun i j hij hj q=>
 KeyOrd.klt_of_kle_of_klt (d9 h (show base+i<=base+j by lia) (by lia)) (i6 q)
theorem BK (C:gG prog w A s κ O key P) {a b:Array Keyed} {st:SortSt} {Q:Array Keyed->SortSt->Prop} (hk:kindOf st=κ) (ha:0 < a.size) (hb:0 < b.size) (Pa:∀x∈a.toList,P x) (Pb:∀x∈b.toList,P x)
  (sA:a.toList.Pairwise (kl key)) (sB:b.toList.Pairwise (kl key)) (h0:∀y∈a.toList,kl key (at_ b 0) y) (hl:∀x∈b.toList,kl key x (at_ a (a.size-1)))
  (h:∀r st',Same st st'->Res (kl key) a.toList b.toList r.toList->Q r st'):wpS (model prog w) A E s (mlo a b) Q st:=by
 have pa:∀i,i < a.size->P (at_ a i):=fun i hi=>Pa _ (d8 hi)
 have pb:∀i,i < b.size->P (at_ b i):=fun i hi=>Pb _ (d8 hi)
 have M0:MI (kl key) a.toList b.toList (#[at_ b 0]:Array Keyed).toList 0 1:=by
  refine ⟨?_,?_,?_,?_⟩
  ·have e:b.toList.take 1=[at_ b 0]:=by have:=di (l:=b.toList) (i:=0) (Value.none,Value.none) (by simpa using hb);rw [List.drop_zero,getD_at hb] at this;exact this
   rw [e];simp
  ·simp
  ·intro x hx y hy
   have:x=at_ b 0:=by simpa using hx
   subst this;exact h0 y (List.mem_of_mem_drop hy)
  ·intro x hx y hy
   have:x=at_ b 0:=by simpa using hx
   subst this
   obtain ⟨j,hj,rfl⟩:=j4 hy
   exact d9 sB (by lia) hj
 have dn:∀{out:Array Keyed} {ia ib:Nat},MI (kl key) a.toList b.toList out.toList ia ib->(a.size<=ia\/b.size<=ib)->Res (kl key) a.toList b.toList (out++a.extract ia a.size++b.extract ib b.size).toList:=fun M hh=>by
  rw [Array.toList_append,Array.toList_append,kY,kY]
  exact M.done sA sB (hh.imp (fun z=>List.drop_eq_nil_of_le (by simpa using z)) fun z=>List.drop_eq_nil_of_le (by simpa using z))
 have la:∀{out:Array Keyed} {ia ib:Nat},MI (kl key) a.toList b.toList out.toList ia ib->ia+1=a.size->Res (kl key) a.toList b.toList (out++b.extract ib b.size++a.extract ia a.size).toList:=fun {out ia ib} M hh=>by
  rw [Array.toList_append,Array.toList_append,kY,kY]
  refine M.last sA sB fun x hx y hy=>?_
  obtain ⟨j,hj,rfl⟩:=j4 hy
  have:=hl x hx
  rwa [show a.size-1=ia+j by lia] at this
 have p1A:∀{out:Array Keyed} {ia ib:Nat},MI (kl key) a.toList b.toList out.toList ia ib->ia < a.size->(∀y∈b.toList.drop ib,kl key (at_ a ia) y)->MI (kl key) a.toList b.toList (out.push (at_ a ia)).toList (ia+1) ib:=fun {out ia ib} M hi q=>by
  have e:=di (l:=a.toList) (i:=ia) (Value.none,Value.none) (by simpa using hi)
  rw [getD_at hi] at e
  have:=M.pushA (k:=1) sA (by rw [e];intro x hx y hy;rw [List.mem_singleton] at hx;subst hx;exact q y hy)
  rw [e] at this
  rw [Array.toList_push];exact this
 have p1B:∀{out:Array Keyed} {ia ib:Nat},MI (kl key) a.toList b.toList out.toList ia ib->ib < b.size->(∀y∈a.toList.drop ia,kl key (at_ b ib) y)->MI (kl key) a.toList b.toList (out.push (at_ b ib)).toList ia (ib+1):=fun {out ia ib} M hi q=>by
  have e:=di (l:=b.toList) (i:=ib) (Value.none,Value.none) (by simpa using hi)
  rw [getD_at hi] at e
  have:=M.pushB (k:=1) sB (by rw [e];intro x hx y hy;rw [List.mem_singleton] at hx;subst hx;exact q y hy)
  rw [e] at this
  rw [Array.toList_push];exact this
 have pkA:∀{out:Array Keyed} {ia ib k:Nat},MI (kl key) a.toList b.toList out.toList ia ib->(∀i,i < k->kl key (at_ a (ia+i)) (at_ b ib))->MI (kl key) a.toList b.toList (out++a.extract ia (ia+k)).toList (ia+k) ib:=fun {out ia ib k} M q=>by
  rw [Array.toList_append,xl]
  refine M.pushA sA fun x hx y hy=>?_
  obtain ⟨j,hj,_,rfl⟩:=kZ hx
  exact KeyOrd.kle_trans (q j hj) (fO sB hy)
 have pkB:∀{out:Array Keyed} {ia ib k:Nat},MI (kl key) a.toList b.toList out.toList ia ib->(∀i,i < k->O.klt (key (at_ b (ib+i))) (key (at_ a ia)))->MI (kl key) a.toList b.toList (out++b.extract ib (ib+k)).toList ia (ib+k):=fun {out ia ib k} M q=>by
  rw [Array.toList_append,xl]
  refine M.pushB sB fun x hx y hy=>?_
  obtain ⟨j,hj,_,rfl⟩:=kZ hx
  exact KeyOrd.kle_trans (KeyOrd.kle_of_klt (q j hj)) (fO sA hy)
 delta mlo
 refine wpS_bind (wpS_lift (wpAny_rule ⟨rfl,?_⟩))
 dsimp only
 refine wpS_bind (aN hb ?_)
 by_cases e1:1=b.size
 ·rw [if_pos (by simpa using e1)]
  exact wpS_pure (h _ _ Same.rfl' (dn M0 (.inr (by lia))))
 rw [if_neg (by simpa using e1)]
 by_cases e2:0+1=a.size
 ·rw [if_pos (by simpa using e2)]
  exact wpS_pure (h _ _ Same.rfl' (la M0 e2))
 rw [if_neg (by simpa using e2)]
 refine wpS_bind (wpS_get ?_)
 refine wpS_bind (wpS_mono (wpS_forRange (I:=fun x c st'=>Same st st'/\∃(out:Array Keyed) (ia ib mg:Nat),c=(none,out,ia,ib,mg)/\MI (kl key) a.toList b.toList out.toList ia ib/\ia+1 < a.size/\ib < b.size/\x+1<=ia+ib)
  (Q:=fun c st'=>Same st st'/\∃(r:Array Keyed) (z:Array Keyed×Nat×Nat×Nat),c=(some r,z)/\Res (kl key) a.toList b.toList r.toList) ?step ?fin ⟨Same.rfl',_,0,1,_,rfl,M0,by lia,by lia,by lia⟩) ?post)
 case post=>
  rintro c st' ⟨S,r,z,rfl,R⟩
  exact wpS_pure (h r st' S R)
 case fin=>
  rintro c st' ⟨S,out,ia,ib,mg,rfl,M,h1,h2,h3⟩
  lia
 case step=>
  rintro x c st' _ hx ⟨S,out,ia,ib,mg,rfl,M,h1,h2,h3⟩
  dsimp only
  refine wpS_bind (wpS_mono (wpS_forRange (I:=fun y c st''=>Same st st''/\∃(out:Array Keyed) (ia' ib' ac bc:Nat),c=(none,out,ia',ib',ac,bc)/\MI (kl key) a.toList b.toList out.toList ia' ib'/\ia'+1 < a.size/\ib' < b.size/\ia+ib+y<=ia'+ib')
   (Q:=fun c st''=>Same st st''/\((∃(r:Array Keyed) (z:Array Keyed×Nat×Nat×Nat×Nat),c=(some r,z)/\Res (kl key) a.toList b.toList r.toList) \/
    ∃(out:Array Keyed) (ia' ib' ac bc:Nat),c=(none,out,ia',ib',ac,bc)/\MI (kl key) a.toList b.toList out.toList ia' ib'/\ia'+1 < a.size/\ib' < b.size/\ia+ib+1<=ia'+ib')) ?s1 ?f1 ⟨S,out,ia,ib,0,0,rfl,M,h1,h2,by lia⟩) ?p1)
  case f1=>
   rintro c st2 ⟨S,out,ia',ib',ac,bc,rfl,M,h1,h2,h3⟩
   exact ⟨S,.inr ⟨out,ia',ib',ac,bc,rfl,M,h1,h2,by lia⟩⟩
  case s1=>
   rintro y c st2 _ hy ⟨S,out,ia',ib',ac,bc,rfl,M,h1,h2,h3⟩
   dsimp only
   refine wpS_bind (aN h2 (wpS_bind (aN (show ia' < a.size by lia) (wpS_bind (mj C (pb _ h2) (pa _ (by lia)) (S.1.trans hk) ?_)))))
   dsimp only
   cases hc:O.blt (key (at_ b ib')) (key (at_ a ia')) with
   | true=>
    rw [if_pos rfl]
    refine wpS_bind (aN h2 ?_)
    have M1:=p1B M h2 fun y hy=>KeyOrd.kle_trans (KeyOrd.kle_of_klt hc) (fO sA hy)
    by_cases e:ib'+1=b.size
    ·rw [if_pos (by simpa using e)]
     exact wpS_pure ⟨S,.inl ⟨_,_,rfl,dn M1 (.inr (by lia))⟩⟩
    ·rw [if_neg (by simpa using e)]
     split
     ·exact wpS_pure ⟨S,.inr ⟨_,_,_,_,_,rfl,M1,h1,by lia,by lia⟩⟩
     ·exact wpS_pure ⟨S,_,_,_,_,_,rfl,M1,h1,by lia,by lia⟩
   | false=>
    rw [if_neg (by simp)]
    refine wpS_bind (aN (show ia' < a.size by lia) ?_)
    have M1:=p1A M (by lia) fun y hy=>KeyOrd.kle_trans (show kl key (at_ a ia') (at_ b ib') from hc) (fO sB hy)
    by_cases e:ia'+1+1=a.size
    ·rw [if_pos (by simpa using e)]
     exact wpS_pure ⟨S,.inl ⟨_,_,rfl,la M1 e⟩⟩
    ·rw [if_neg (by simpa using e)]
     split
     ·exact wpS_pure ⟨S,.inr ⟨_,_,_,_,_,rfl,M1,by lia,by lia,by lia⟩⟩
     ·exact wpS_pure ⟨S,_,_,_,_,_,rfl,M1,by lia,by lia,by lia⟩
  case p1=>
   rintro c st2 ⟨S,⟨r,z,rfl,R⟩ | ⟨out,ia',ib',ac,bc,rfl,M,h1,h2,h3⟩⟩
   ·exact wpS_pure ⟨S,_,_,rfl,R⟩
   dsimp only
   refine wpS_bind (wpS_lift (wpAny_rule ⟨rfl,?_⟩))
   refine wpS_bind (wpS_mono (wpS_forRange (I:=fun y c st''=>Same st st''/\∃(out:Array Keyed) (ia' ib' mg ac bc:Nat),c=(none,out,ia',ib',mg,ac,bc)/\MI (kl key) a.toList b.toList out.toList ia' ib'/\ia'+1 < a.size/\ib' < b.size/\ia+ib+1<=ia'+ib')
    (Q:=fun c st''=>Same st st''/\((∃(r:Array Keyed) (z:Array Keyed×Nat×Nat×Nat×Nat×Nat),c=(some r,z)/\Res (kl key) a.toList b.toList r.toList) \/
     ∃(out:Array Keyed) (ia' ib' mg ac bc:Nat),c=(none,out,ia',ib',mg,ac,bc)/\MI (kl key) a.toList b.toList out.toList ia' ib'/\ia'+1 < a.size/\ib' < b.size/\ia+ib+1<=ia'+ib')) ?s2 ?f2 ⟨S,out,ia',ib',_,ac,bc,rfl,M,h1,h2,h3⟩) ?p2)
   case f2=>
    rintro c st3 ⟨S,out,ia',ib',mg,ac,bc,rfl,M,h1,h2,h3⟩
    exact ⟨S,.inr ⟨out,ia',ib',mg,ac,bc,rfl,M,h1,h2,h3⟩⟩
   case p2=>
    rintro c st3 ⟨S,⟨r,z,rfl,R⟩ | ⟨out,ia',ib',mg,ac,bc,rfl,M,h1,h2,h3⟩⟩
    ·exact wpS_pure ⟨S,_,_,rfl,R⟩
    ·dsimp only
     exact wpS_bind (wpS_modify (wpS_pure ⟨S,_,_,_,_,rfl,M,h1,h2,by lia⟩))
   case s2=>
    rintro y c st3 _ hy ⟨S,out,ia',ib',mg,ac,bc,rfl,M,h1,h2,h3⟩
    dsimp only
    rcases Nat.lt_or_ge 1 mg with hm | hm
    case' inl=>rw [if_pos hm]
    case' inr=>rw [if_neg (Nat.not_lt.mpr hm)]
    all_goals
     refine wpS_bind (wpS_modify ?_)
     refine wpS_bind (aN h2 (wpS_bind (d7 C (S.1.trans hk) (show 0 < a.size-ia' by lia) (by lia) (fun i hi=>pa _ (by lia)) (pb _ h2) (oU sA (by lia)) fun k z1 z2 z3=>?_)))
     dsimp only
     have gt:∀y∈a.toList.drop (ia'+k),kl key (at_ b ib') y:=fun y hy=>by
      obtain ⟨j,hj,rfl⟩:=j4 hy
      have:=tG (z3 (k+j) (by lia) (by lia))
      rw [<- Nat.add_assoc] at this
      exact KeyOrd.kle_of_klt this
     by_cases hk0:k > 0
     ·rw [if_pos hk0]
      have M1:=pkA (k:=k) M fun i hi=>mm (z2 i hi)
      by_cases e:ia'+k+1=a.size
      ·rw [if_pos (by simpa using e)]
       exact wpS_pure ⟨S,.inl ⟨_,_,rfl,la M1 e⟩⟩
      rw [if_neg (by simpa using e)]
      by_cases e':ia'+k=a.size
      ·rw [if_pos (by simpa using e')]
       exact wpS_pure ⟨S,.inl ⟨_,_,rfl,dn M1 (.inl (by lia))⟩⟩
      rw [if_neg (by simpa using e')]
      have hia:ia'+k+1 < a.size:=by lia
      refine wpS_bind (aN h2 ?_)
      have M2:=p1B M1 h2 gt
      by_cases e3:ib'+1=b.size
      ·rw [if_pos (by simpa using e3)]
       exact wpS_pure ⟨S,.inl ⟨_,_,rfl,dn M2 (.inr (by lia))⟩⟩
      rw [if_neg (by simpa using e3)]
      refine wpS_bind (aN (show ia'+k < a.size by lia) (wpS_bind (d7 C (S.1.trans hk) (show 0 < b.size-(ib'+1) by lia) (by lia) (fun i hi=>pb _ (by lia)) (pa _ (by lia)) (ip sB (by lia)) fun k2 y1 y2 y3=>?_)))
      dsimp only
      have ge:∀y∈b.toList.drop (ib'+1+k2),kl key (at_ a (ia'+k)) y:=fun y hy=>by
       obtain ⟨j,hj,rfl⟩:=j4 hy
       have:=mn (y3 (k2+j) (by lia) (by lia))
       rw [<- Nat.add_assoc] at this
       exact this
      by_cases hk2:k2 > 0
      ·rw [if_pos hk2]
       have M3:=pkB (k:=k2) M2 fun i hi=>i6 (y2 i hi)
       by_cases e4:ib'+1+k2=b.size
       ·rw [if_pos (by simpa using e4)]
        exact wpS_pure ⟨S,.inl ⟨_,_,rfl,dn M3 (.inr (by lia))⟩⟩
       rw [if_neg (by simpa using e4)]
       refine wpS_bind (aN (show ia'+k < a.size by lia) ?_)
       have M4:=p1A M3 (by lia) ge
       by_cases e5:ia'+k+1+1=a.size
       ·rw [if_pos (by simpa using e5)]
        exact wpS_pure ⟨S,.inl ⟨_,_,rfl,la M4 e5⟩⟩
       rw [if_neg (by simpa using e5)]
       split
       ·exact wpS_pure ⟨S,.inr ⟨_,_,_,_,_,_,rfl,M4,by lia,by lia,by lia⟩⟩
       ·exact wpS_pure ⟨S,_,_,_,_,_,_,rfl,M4,by lia,by lia,by lia⟩
      ·rw [if_neg hk2]
       have hz:k2=0:=by lia
       subst hz
       refine wpS_bind (aN (show ia'+k < a.size by lia) ?_)
       have M4:=p1A M2 (by lia) ge
       by_cases e5:ia'+k+1+1=a.size
       ·rw [if_pos (by simpa using e5)]
        exact wpS_pure ⟨S,.inl ⟨_,_,rfl,la M4 e5⟩⟩
       rw [if_neg (by simpa using e5)]
       split
       ·exact wpS_pure ⟨S,.inr ⟨_,_,_,_,_,_,rfl,M4,by lia,by lia,by lia⟩⟩
       ·exact wpS_pure ⟨S,_,_,_,_,_,_,rfl,M4,by lia,by lia,by lia⟩
     ·rw [if_neg hk0]
      have hz:k=0:=by lia
      subst hz
      refine wpS_bind (aN h2 ?_)
      have M2:=p1B M h2 gt
      by_cases e3:ib'+1=b.size
      ·rw [if_pos (by simpa using e3)]
       exact wpS_pure ⟨S,.inl ⟨_,_,rfl,dn M2 (.inr (by lia))⟩⟩
      rw [if_neg (by simpa using e3)]
      refine wpS_bind (aN (show ia' < a.size by lia) (wpS_bind (d7 C (S.1.trans hk) (show 0 < b.size-(ib'+1) by lia) (by lia) (fun i hi=>pb _ (by lia)) (pa _ (by lia)) (ip sB (by lia)) fun k2 y1 y2 y3=>?_)))
      dsimp only
      have ge:∀y∈b.toList.drop (ib'+1+k2),kl key (at_ a ia') y:=fun y hy=>by
       obtain ⟨j,hj,rfl⟩:=j4 hy
       have:=mn (y3 (k2+j) (by lia) (by lia))
       rw [<- Nat.add_assoc] at this
       exact this
      by_cases hk2:k2 > 0
      ·rw [if_pos hk2]
       have M3:=pkB (k:=k2) M2 fun i hi=>i6 (y2 i hi)
       by_cases e4:ib'+1+k2=b.size
       ·rw [if_pos (by simpa using e4)]
        exact wpS_pure ⟨S,.inl ⟨_,_,rfl,dn M3 (.inr (by lia))⟩⟩
       rw [if_neg (by simpa using e4)]
       refine wpS_bind (aN (show ia' < a.size by lia) ?_)
       have M4:=p1A M3 (by lia) ge
       by_cases e5:ia'+1+1=a.size
       ·rw [if_pos (by simpa using e5)]
        exact wpS_pure ⟨S,.inl ⟨_,_,rfl,la M4 e5⟩⟩
       rw [if_neg (by simpa using e5)]
       split
       ·exact wpS_pure ⟨S,.inr ⟨_,_,_,_,_,_,rfl,M4,by lia,by lia,by lia⟩⟩
       ·exact wpS_pure ⟨S,_,_,_,_,_,_,rfl,M4,by lia,by lia,by lia⟩
      ·rw [if_neg hk2]
       have hz:k2=0:=by lia
       subst hz
       refine wpS_bind (aN (show ia' < a.size by lia) ?_)
       have M4:=p1A M2 (by lia) ge
       by_cases e5:ia'+1+1=a.size
       ·rw [if_pos (by simpa using e5)]
        exact wpS_pure ⟨S,.inl ⟨_,_,rfl,la M4 e5⟩⟩
       rw [if_neg (by simpa using e5)]
       split
       ·exact wpS_pure ⟨S,.inr ⟨_,_,_,_,_,_,rfl,M4,by lia,by lia,by lia⟩⟩
       ·exact wpS_pure ⟨S,_,_,_,_,_,_,rfl,M4,by lia,by lia,by lia⟩
end
end Tim
end
section
namespace Tim
open PySem PyProof.Rows
noncomputable def mhi:Array Keyed->Array Keyed->StateT SortSt Sem (Array Keyed):=sortPriv% PySem.Builtin.mergeHi
theorem iq (a:Array Keyed) (n:Nat):(a.extract 0 n).toList=a.toList.take n:=by
 have:=xl a 0 n
 rw [Nat.zero_add,List.drop_zero] at this;exact this
theorem nG (a:Array Keyed) (i n:Nat) (h:i<=n):(a.extract i n).toList=(a.toList.take n).drop i:=by
 have:=xl a i (n-i)
 rw [show i+(n-i)=n by lia] at this
 rw [this,List.drop_take]
theorem i7 {a:Array Keyed} {i n:Nat} {x:Keyed} (h:x∈(a.toList.take n).drop i):∃j,i<=j/\j < n/\j < a.size/\x=at_ a j:=by
 rw [List.drop_take] at h
 obtain ⟨j,h1,h2,h3⟩:=kZ h
 exact ⟨i+j,by lia,by lia,h2,h3⟩
theorem i8 {a:Array Keyed} {n:Nat} {x:Keyed} (h:x∈a.toList.take n):∃j,j < n/\j < a.size/\x=at_ a j:=by
 obtain ⟨j,_,h2,h3,h4⟩:=i7 (i:=0) (by rw [List.drop_zero];exact h)
 exact ⟨j,h2,h3,h4⟩
section
variable {prog:Program} {w:World} {A:Around} {E:Value->Shared->Prop} {s:Shared} {κ:SortKind} {O:KeyOrd} {key:Keyed->O.α} {P:Keyed->Prop}
theorem BL (C:gG prog w A s κ O key P) {a b:Array Keyed} {st:SortSt} {Q:Array Keyed->SortSt->Prop} (hk:kindOf st=κ) (ha:0 < a.size) (hb:0 < b.size) (Pa:∀x∈a.toList,P x) (Pb:∀x∈b.toList,P x)
  (sA:a.toList.Pairwise (kl key)) (sB:b.toList.Pairwise (kl key)) (h0:∀y∈a.toList,kl key (at_ b 0) y) (hl:∀x∈b.toList,kl key x (at_ a (a.size-1)))
  (h:∀r st',Same st st'->Res (kl key) a.toList b.toList r.toList->Q r st'):wpS (model prog w) A E s (mhi a b) Q st:=by
 have pa:∀i,i < a.size->P (at_ a i):=fun i hi=>Pa _ (d8 hi)
 have pb:∀i,i < b.size->P (at_ b i):=fun i hi=>Pb _ (d8 hi)
 have M0:MH (kl key) a.toList b.toList (#[at_ a (a.size-1)]:Array Keyed).reverse.toList (a.size-1) b.size:=by
  have eR:(#[at_ a (a.size-1)]:Array Keyed).reverse.toList=[at_ a (a.size-1)]:=rfl
  rw [eR]
  refine ⟨?_,List.pairwise_singleton _ _,?_,?_⟩
  ·have e:=dj (l:=a.toList) (i:=a.size-1) (Value.none,Value.none) (by simp;lia)
   rw [getD_at (by lia),show a.size-1+1=a.size by lia,show a.toList.take a.size=a.toList from List.take_of_length_le (by simp)] at e
   rw [e,List.drop_eq_nil_of_le (by simp)]
   exact List.Perm.refl _
  ·intro x hx y hy
   obtain ⟨j,h1,h2,rfl⟩:=i8 hx
   rw [List.mem_singleton] at hy;subst hy
   exact d9 sA (by lia) (by lia)
  ·intro x hx y hy
   rw [List.mem_singleton] at hy;subst hy
   exact hl x (List.mem_of_mem_take hx)
 have dn:∀{out:Array Keyed} {na nb:Nat},MH (kl key) a.toList b.toList out.reverse.toList na nb->(na=0\/nb=0)->Res (kl key) a.toList b.toList (a.extract 0 na++b.extract 0 nb++out.reverse).toList:=fun M hh=>by
  rw [Array.toList_append,Array.toList_append,iq,iq]
  exact M.done sA sB (hh.imp (fun z=>by rw [z];rfl) fun z=>by rw [z];rfl)
 have fi:∀{out:Array Keyed} {na nb:Nat},MH (kl key) a.toList b.toList out.reverse.toList na nb->nb=1->Res (kl key) a.toList b.toList (b.extract 0 nb++a.extract 0 na++out.reverse).toList:=fun {out na nb} M hh=>by
  rw [Array.toList_append,Array.toList_append,iq,iq]
  refine M.first sA sB fun x hx y hy=>?_
  obtain ⟨j,h1,h2,rfl⟩:=i8 hx
  rw [show j=0 by lia]
  exact h0 y hy
 have pkA:∀{out:Array Keyed} {na nb k:Nat},MH (kl key) a.toList b.toList out.reverse.toList na nb->k<=na->(∀x∈b.toList.take nb,∀j,k<=j->j < na->kl key x (at_ a j))->MH (kl key) a.toList b.toList (out++(a.extract k na).reverse).reverse.toList k nb:=fun {out na nb k} M hi q=>by
  have e:(out++(a.extract k na).reverse).reverse.toList=(a.toList.take na).drop k++out.reverse.toList:=by
   rw [Array.reverse_append,Array.reverse_reverse,Array.toList_append,nG a k na hi]
  rw [e]
  refine M.pushA sA hi fun x hx y hy=>?_
  obtain ⟨j,h1,h2,_,rfl⟩:=i7 hy
  exact q x hx j h1 h2
 have pkB:∀{out:Array Keyed} {na nb k:Nat},MH (kl key) a.toList b.toList out.reverse.toList na nb->k<=nb->(∀x∈a.toList.take na,∀j,k<=j->j < nb->kl key x (at_ b j))->MH (kl key) a.toList b.toList (out++(b.extract k nb).reverse).reverse.toList na k:=fun {out na nb k} M hi q=>by
  have e:(out++(b.extract k nb).reverse).reverse.toList=(b.toList.take nb).drop k++out.reverse.toList:=by
   rw [Array.reverse_append,Array.reverse_reverse,Array.toList_append,nG b k nb hi]
  rw [e]
  refine M.pushB sB hi fun x hx y hy=>?_
  obtain ⟨j,h1,h2,_,rfl⟩:=i7 hy
  exact q x hx j h1 h2
 have p1A:∀{out:Array Keyed} {na nb:Nat},MH (kl key) a.toList b.toList out.reverse.toList na nb->0 < na->na<=a.size->(∀x∈b.toList.take nb,kl key x (at_ a (na-1)))->MH (kl key) a.toList b.toList (out.push (at_ a (na-1))).reverse.toList (na-1) nb:=fun {out na nb} M h1 h2 q=>by
  have e:(out.push (at_ a (na-1))).reverse.toList=(a.toList.take na).drop (na-1)++out.reverse.toList:=by
   have z:=dj (l:=a.toList) (i:=na-1) (Value.none,Value.none) (by simp;lia)
   rw [show na-1+1=na by lia,getD_at (by lia)] at z
   rw [z];simp
  rw [e]
  refine M.pushA sA (by lia) fun x hx y hy=>?_
  obtain ⟨j,g1,g2,_,rfl⟩:=i7 hy
  rw [show j=na-1 by lia]
  exact q x hx
 have p1B:∀{out:Array Keyed} {na nb:Nat},MH (kl key) a.toList b.toList out.reverse.toList na nb->0 < nb->nb<=b.size->(∀x∈a.toList.take na,kl key x (at_ b (nb-1)))->MH (kl key) a.toList b.toList (out.push (at_ b (nb-1))).reverse.toList na (nb-1):=fun {out na nb} M h1 h2 q=>by
  have e:(out.push (at_ b (nb-1))).reverse.toList=(b.toList.take nb).drop (nb-1)++out.reverse.toList:=by
   have z:=dj (l:=b.toList) (i:=nb-1) (Value.none,Value.none) (by simp;lia)
   rw [show nb-1+1=nb by lia,getD_at (by lia)] at z
   rw [z];simp
  rw [e]
  refine M.pushB sB (by lia) fun x hx y hy=>?_
  obtain ⟨j,g1,g2,_,rfl⟩:=i7 hy
  rw [show j=nb-1 by lia]
  exact q x hx
 have tA:∀{n:Nat} {x:Keyed},n<=a.size->x∈a.toList.take n->kl key x (at_ a (n-1)):=fun {n x} hn hx=>by
  obtain ⟨j,h1,h2,rfl⟩:=i8 hx
  exact d9 sA (by lia) (by lia)
 have tB:∀{n:Nat} {x:Keyed},n<=b.size->x∈b.toList.take n->kl key x (at_ b (n-1)):=fun {n x} hn hx=>by
  obtain ⟨j,h1,h2,rfl⟩:=i8 hx
  exact d9 sB (by lia) (by lia)
 delta mhi
 refine wpS_bind (wpS_lift (wpAny_rule ⟨rfl,?_⟩))
 dsimp only
 refine wpS_bind (aN (show a.size-1 < a.size by lia) ?_)
 by_cases e1:a.size-1=0
 ·rw [if_pos (by simpa using e1)]
  exact wpS_pure (h _ _ Same.rfl' (dn M0 (.inl e1)))
 rw [if_neg (by simpa using e1)]
 by_cases e2:b.size=1
 ·rw [if_pos (by simpa using e2)]
  exact wpS_pure (h _ _ Same.rfl' (fi M0 e2))
 rw [if_neg (by simpa using e2)]
 refine wpS_bind (wpS_get ?_)
 refine wpS_bind (wpS_mono (wpS_forRange (I:=fun x c st'=>Same st st'/\∃(na nb:Nat) (out:Array Keyed) (mg:Nat),c=(none,na,nb,out,mg)/\MH (kl key) a.toList b.toList out.reverse.toList na nb/\0 < na/\na<=a.size/\1 < nb/\nb<=b.size/\na+nb+x+1<=a.size+b.size)
  (Q:=fun c st'=>Same st st'/\∃(r:Array Keyed) (z:Nat×Nat×Array Keyed×Nat),c=(some r,z)/\Res (kl key) a.toList b.toList r.toList) ?step ?fin ⟨Same.rfl',_,_,_,_,rfl,M0,by lia,by lia,by lia,by lia,by lia⟩) ?post)
 case post=>
  rintro c st' ⟨S,r,z,rfl,R⟩
  exact wpS_pure (h r st' S R)
 case fin=>
  rintro c st' ⟨S,na,nb,out,mg,rfl,M,h1,h2,h3,h4,h5⟩
  lia
 case step=>
  rintro x c st' _ hx ⟨S,na,nb,out,mg,rfl,M,h1,h1',h2,h2',h3⟩
  dsimp only
  refine wpS_bind (wpS_mono (wpS_forRange (I:=fun y c st''=>Same st st''/\∃(na' nb':Nat) (out:Array Keyed) (ac bc:Nat),c=(none,na',nb',out,ac,bc)/\MH (kl key) a.toList b.toList out.reverse.toList na' nb'/\0 < na'/\na'<=a.size/\1 < nb'/\nb'<=b.size/\na'+nb'+y<=na+nb)
   (Q:=fun c st''=>Same st st''/\((∃(r:Array Keyed) (z:Nat×Nat×Array Keyed×Nat×Nat),c=(some r,z)/\Res (kl key) a.toList b.toList r.toList) \/
    ∃(na' nb':Nat) (out:Array Keyed) (ac bc:Nat),c=(none,na',nb',out,ac,bc)/\MH (kl key) a.toList b.toList out.reverse.toList na' nb'/\0 < na'/\na'<=a.size/\1 < nb'/\nb'<=b.size/\na'+nb'+1<=na+nb)) ?s1 ?f1 ⟨S,na,nb,out,0,0,rfl,M,h1,h1',h2,h2',by lia⟩) ?p1)
  case f1=>
   rintro c st2 ⟨S,na',nb',out,ac,bc,rfl,M,h1,h1',h2,h2',h3⟩
   exact ⟨S,.inr ⟨na',nb',out,ac,bc,rfl,M,h1,h1',h2,h2',by lia⟩⟩
  case s1=>
   rintro y c st2 _ hy ⟨S,na',nb',out,ac,bc,rfl,M,h1,h1',h2,h2',h3⟩
   dsimp only
   refine wpS_bind (aN (show nb'-1 < b.size by lia) (wpS_bind (aN (show na'-1 < a.size by lia) (wpS_bind (mj C (pb _ (by lia)) (pa _ (by lia)) (S.1.trans hk) ?_)))))
   dsimp only
   cases hc:O.blt (key (at_ b (nb'-1))) (key (at_ a (na'-1))) with
   | true=>
    rw [if_pos rfl]
    refine wpS_bind (aN (show na'-1 < a.size by lia) ?_)
    have M1:=p1A M h1 h1' fun x hx=>KeyOrd.kle_trans (tB h2' hx) (KeyOrd.kle_of_klt hc)
    by_cases e:na'-1=0
    ·rw [if_pos (by simpa using e)]
     exact wpS_pure ⟨S,.inl ⟨_,_,rfl,dn M1 (.inl e)⟩⟩
    ·rw [if_neg (by simpa using e)]
     split
     ·exact wpS_pure ⟨S,.inr ⟨_,_,_,_,_,rfl,M1,by lia,by lia,by lia,by lia,by lia⟩⟩
     ·exact wpS_pure ⟨S,_,_,_,_,_,rfl,M1,by lia,by lia,by lia,by lia,by lia⟩
   | false=>
    rw [if_neg (by simp)]
    refine wpS_bind (aN (show nb'-1 < b.size by lia) ?_)
    have M1:=p1B M (by lia) h2' fun x hx=>KeyOrd.kle_trans (tA h1' hx) (show kl key (at_ a (na'-1)) (at_ b (nb'-1)) from hc)
    by_cases e:nb'-1=1
    ·rw [if_pos (by simpa using e)]
     exact wpS_pure ⟨S,.inl ⟨_,_,rfl,fi M1 e⟩⟩
    ·rw [if_neg (by simpa using e)]
     split
     ·exact wpS_pure ⟨S,.inr ⟨_,_,_,_,_,rfl,M1,by lia,by lia,by lia,by lia,by lia⟩⟩
     ·exact wpS_pure ⟨S,_,_,_,_,_,rfl,M1,by lia,by lia,by lia,by lia,by lia⟩
  case p1=>
   rintro c st2 ⟨S,⟨r,z,rfl,R⟩ | ⟨na',nb',out,ac,bc,rfl,M,h1,h1',h2,h2',h3⟩⟩
   ·exact wpS_pure ⟨S,_,_,rfl,R⟩
   dsimp only
   refine wpS_bind (wpS_lift (wpAny_rule ⟨rfl,?_⟩))
   refine wpS_bind (wpS_mono (wpS_forRange (I:=fun y c st''=>Same st st''/\∃(na' nb':Nat) (out:Array Keyed) (mg ac bc:Nat),c=(none,na',nb',out,mg,ac,bc)/\MH (kl key) a.toList b.toList out.reverse.toList na' nb'/\0 < na'/\na'<=a.size/\1 < nb'/\nb'<=b.size/\na'+nb'+1<=na+nb)
    (Q:=fun c st''=>Same st st''/\((∃(r:Array Keyed) (z:Nat×Nat×Array Keyed×Nat×Nat×Nat),c=(some r,z)/\Res (kl key) a.toList b.toList r.toList) \/
     ∃(na' nb':Nat) (out:Array Keyed) (mg ac bc:Nat),c=(none,na',nb',out,mg,ac,bc)/\MH (kl key) a.toList b.toList out.reverse.toList na' nb'/\0 < na'/\na'<=a.size/\1 < nb'/\nb'<=b.size/\na'+nb'+1<=na+nb)) ?s2 ?f2 ⟨S,na',nb',out,_,ac,bc,rfl,M,h1,h1',h2,h2',h3⟩) ?p2)
   case f2=>
    rintro c st3 ⟨S,na',nb',out,mg,ac,bc,rfl,M,h1,h1',h2,h2',h3⟩
    exact ⟨S,.inr ⟨na',nb',out,mg,ac,bc,rfl,M,h1,h1',h2,h2',h3⟩⟩
   case p2=>
    rintro c st3 ⟨S,⟨r,z,rfl,R⟩ | ⟨na',nb',out,mg,ac,bc,rfl,M,h1,h1',h2,h2',h3⟩⟩
    ·exact wpS_pure ⟨S,_,_,rfl,R⟩
    ·dsimp only
     exact wpS_bind (wpS_modify (wpS_pure ⟨S,_,_,_,_,rfl,M,h1,h1',h2,h2',by lia⟩))
   case s2=>
    rintro y c st3 _ hy ⟨S,na',nb',out,mg,ac,bc,rfl,M,h1,h1',h2,h2',h3⟩
    dsimp only
    rcases Nat.lt_or_ge 1 mg with hm | hm
    case' inl=>rw [if_pos hm]
    case' inr=>rw [if_neg (Nat.not_lt.mpr hm)]
    all_goals
     refine wpS_bind (wpS_modify ?_)
     refine wpS_bind (aN (show nb'-1 < b.size by lia) (wpS_bind (d7 C (S.1.trans hk) (show na'-1 < na' by lia) (by lia) (fun i hi=>pa _ (by lia)) (pb _ (by lia)) (oU sA (by lia)) fun k z1 z2 z3=>?_)))
     simp only [Nat.zero_add] at z2 z3
     dsimp only
     have le1:∀x∈a.toList.take k,kl key x (at_ b (nb'-1)):=fun x hx=>by
      obtain ⟨j,g1,g2,rfl⟩:=i8 hx
      exact mm (z2 j g1)
     have M1:=pkA (k:=k) M z1 fun x hx j g1 g2=>KeyOrd.kle_trans (tB h2' hx) (KeyOrd.kle_of_klt (tG (z3 j g1 g2)))
     by_cases hk0:na'-k > 0
     ·rw [if_pos hk0]
      by_cases e:k=0
      ·rw [if_pos (by simpa using e)]
       exact wpS_pure ⟨S,.inl ⟨_,_,rfl,dn M1 (.inl e)⟩⟩
      rw [if_neg (by simpa using e)]
      have hk1:0 < k:=by lia
      refine wpS_bind (aN (show nb'-1 < b.size by lia) ?_)
      have M2:=p1B M1 (by lia) h2' le1
      by_cases e3:nb'-1=1
      ·rw [if_pos (by simpa using e3)]
       exact wpS_pure ⟨S,.inl ⟨_,_,rfl,fi M2 e3⟩⟩
      rw [if_neg (by simpa using e3)]
      refine wpS_bind (aN (show k-1 < a.size by lia) (wpS_bind (d7 C (S.1.trans hk) (show nb'-1-1 < nb'-1 by lia) (by lia) (fun i hi=>pb _ (by lia)) (pa _ (by lia)) (ip sB (by lia)) fun k2 y1 y2 y3=>?_)))
      simp only [Nat.zero_add] at y2 y3
      dsimp only
      have lt2:∀x∈b.toList.take k2,kl key x (at_ a (k-1)):=fun x hx=>by
       obtain ⟨j,g1,g2,rfl⟩:=i8 hx
       exact KeyOrd.kle_of_klt (i6 (y2 j g1))
      have M3:=pkB (k:=k2) M2 y1 fun x hx j g1 g2=>KeyOrd.kle_trans (tA (by lia) hx) (mn (y3 j g1 g2))
      by_cases hk2:nb'-1-k2 > 0
      ·rw [if_pos hk2]
       by_cases e4:k2=1
       ·rw [if_pos (by simpa using e4)]
        exact wpS_pure ⟨S,.inl ⟨_,_,rfl,fi M3 e4⟩⟩
       rw [if_neg (by simpa using e4)]
       by_cases e6:k2=0
       ·rw [if_pos (by simpa using e6)]
        exact wpS_pure ⟨S,.inl ⟨_,_,rfl,dn M3 (.inr e6)⟩⟩
       rw [if_neg (by simpa using e6)]
       refine wpS_bind (aN (show k-1 < a.size by lia) ?_)
       have M4:=p1A M3 hk1 (by lia) lt2
       by_cases e5:k-1=0
       ·rw [if_pos (by simpa using e5)]
        exact wpS_pure ⟨S,.inl ⟨_,_,rfl,dn M4 (.inl e5)⟩⟩
       rw [if_neg (by simpa using e5)]
       split
       ·exact wpS_pure ⟨S,.inr ⟨_,_,_,_,_,_,rfl,M4,by lia,by lia,by lia,by lia,by lia⟩⟩
       ·exact wpS_pure ⟨S,_,_,_,_,_,_,rfl,M4,by lia,by lia,by lia,by lia,by lia⟩
      ·rw [if_neg hk2]
       have hz:k2=nb'-1:=by lia
       rw [hz] at lt2
       refine wpS_bind (aN (show k-1 < a.size by lia) ?_)
       have M4:=p1A M2 hk1 (by lia) lt2
       by_cases e5:k-1=0
       ·rw [if_pos (by simpa using e5)]
        exact wpS_pure ⟨S,.inl ⟨_,_,rfl,dn M4 (.inl e5)⟩⟩
       rw [if_neg (by simpa using e5)]
       split
       ·exact wpS_pure ⟨S,.inr ⟨_,_,_,_,_,_,rfl,M4,by lia,by lia,by lia,by lia,by lia⟩⟩
       ·exact wpS_pure ⟨S,_,_,_,_,_,_,rfl,M4,by lia,by lia,by lia,by lia,by lia⟩
     ·rw [if_neg hk0]
      have hz:k=na':=by lia
      have M1:=M
      subst hz
      have hk1:0 < k:=by lia
      refine wpS_bind (aN (show nb'-1 < b.size by lia) ?_)
      have M2:=p1B M1 (by lia) h2' le1
      by_cases e3:nb'-1=1
      ·rw [if_pos (by simpa using e3)]
       exact wpS_pure ⟨S,.inl ⟨_,_,rfl,fi M2 e3⟩⟩
      rw [if_neg (by simpa using e3)]
      refine wpS_bind (aN (show k-1 < a.size by lia) (wpS_bind (d7 C (S.1.trans hk) (show nb'-1-1 < nb'-1 by lia) (by lia) (fun i hi=>pb _ (by lia)) (pa _ (by lia)) (ip sB (by lia)) fun k2 y1 y2 y3=>?_)))
      simp only [Nat.zero_add] at y2 y3
      dsimp only
      have lt2:∀x∈b.toList.take k2,kl key x (at_ a (k-1)):=fun x hx=>by
       obtain ⟨j,g1,g2,rfl⟩:=i8 hx
       exact KeyOrd.kle_of_klt (i6 (y2 j g1))
      have M3:=pkB (k:=k2) M2 y1 fun x hx j g1 g2=>KeyOrd.kle_trans (tA (by lia) hx) (mn (y3 j g1 g2))
      by_cases hk2:nb'-1-k2 > 0
      ·rw [if_pos hk2]
       by_cases e4:k2=1
       ·rw [if_pos (by simpa using e4)]
        exact wpS_pure ⟨S,.inl ⟨_,_,rfl,fi M3 e4⟩⟩
       rw [if_neg (by simpa using e4)]
       by_cases e6:k2=0
       ·rw [if_pos (by simpa using e6)]
        exact wpS_pure ⟨S,.inl ⟨_,_,rfl,dn M3 (.inr e6)⟩⟩
       rw [if_neg (by simpa using e6)]
       refine wpS_bind (aN (show k-1 < a.size by lia) ?_)
       have M4:=p1A M3 hk1 (by lia) lt2
       by_cases e5:k-1=0
       ·rw [if_pos (by simpa using e5)]
        exact wpS_pure ⟨S,.inl ⟨_,_,rfl,dn M4 (.inl e5)⟩⟩
       rw [if_neg (by simpa using e5)]
       split
       ·exact wpS_pure ⟨S,.inr ⟨_,_,_,_,_,_,rfl,M4,by lia,by lia,by lia,by lia,by lia⟩⟩
       ·exact wpS_pure ⟨S,_,_,_,_,_,_,rfl,M4,by lia,by lia,by lia,by lia,by lia⟩
      ·rw [if_neg hk2]
       have hz:k2=nb'-1:=by lia
       rw [hz] at lt2
       refine wpS_bind (aN (show k-1 < a.size by lia) ?_)
       have M4:=p1A M2 hk1 (by lia) lt2
       by_cases e5:k-1=0
       ·rw [if_pos (by simpa using e5)]
        exact wpS_pure ⟨S,.inl ⟨_,_,rfl,dn M4 (.inl e5)⟩⟩
       rw [if_neg (by simpa using e5)]
       split
       ·exact wpS_pure ⟨S,.inr ⟨_,_,_,_,_,_,rfl,M4,by lia,by lia,by lia,by lia,by lia⟩⟩
       ·exact wpS_pure ⟨S,_,_,_,_,_,_,rfl,M4,by lia,by lia,by lia,by lia,by lia⟩
end
end Tim
end
section
namespace Tim
open PySem PyProof.Rows
section
variable {prog:Program} {w:World} {A:Around} {E:Value->Shared->Prop} {s:Shared} {κ:SortKind} {O:KeyOrd} {key:Keyed->O.α} {P:Keyed->Prop}
noncomputable def Sg {O:KeyOrd} (key:Keyed->O.α) (a:Array Keyed) (lo hi:Nat):Prop:=∀i j,lo<=i->i<=j->j < hi->kl key (at_ a i) (at_ a j)
noncomputable def Fl {O:KeyOrd} (key:Keyed->O.α) (a:Array Keyed) (lo hi:Nat):Prop:=∀i j,lo<=i->i<=j->j < hi->kl key (at_ a j) (at_ a i)
structure Mv (lo:Nat) (st st':SortSt):Prop where
 kind:kindOf st'=kindOf st
 pend:pendingOf st'=pendingOf st
 fail:failedOf st'=failedOf st
 perm:(arrOf st').Perm (arrOf st)
 pre:∀i,i < lo->(arrOf st')[i]?=(arrOf st)[i]?
theorem Mv.rfl' {lo:Nat} {st:SortSt}:Mv lo st st:=⟨rfl,rfl,rfl,Array.Perm.refl _,fun _ _=>rfl⟩
theorem Mv.size {lo:Nat} {st st':SortSt} (h:Mv lo st st'):(arrOf st').size=(arrOf st).size:=h.perm.size_eq
theorem Mv.all {lo:Nat} {st st':SortSt} (h:Mv lo st st') (hP:∀x∈(arrOf st).toList,P x):∀x∈(arrOf st').toList,P x:=fun x hx=>hP x ((Array.perm_iff_toList_perm.mp h.perm).mem_iff.mp hx)
theorem bQ {xs:Array Keyed} {i j:Nat} (hj:j<=xs.size) (k:Nat):at_ (mirror xs i j ((j-i) / 2)) k=if i<=k/\k < j then at_ xs (i+j-1-k) else at_ xs k:=by
 have z:=getElem?_mirror_all (i:=i) hj k
 by_cases c:i<=k/\k < j
 ·rw [if_pos c] at z ⊢;exact ba z
 ·rw [if_neg c] at z ⊢;exact ba z
theorem cQ {xs:Array Keyed} {i j:Nat} (hj:j<=xs.size) (he:∀k,i<=k->k < j->key (at_ xs k)=key (at_ xs (j-1))) (k:Nat):key (at_ (mirror xs i j ((j-i) / 2)) k)=key (at_ xs k):=by
 rw [bQ hj]
 split
 ·rename_i c;rw [he _ (by lia) (by lia),he k c.1 c.2]
 ·rfl
theorem Mv.rev {lo:Nat} {st st':SortSt} (h:Mv lo st st') {i j:Nat} (hi:lo<=i) (hj:j<=(arrOf st').size):Mv lo st (setArr st' (mirror (arrOf st') i j ((j-i) / 2))):=
 ⟨h.kind,h.pend,h.fail,(mirror_perm _ _ _ _).trans h.perm,fun k hk=>by
  rw [<- h.pre k hk]
  show (mirror (arrOf st') i j ((j-i) / 2))[k]?=_
  rw [getElem?_mirror_all hj,if_neg (by lia)]⟩
theorem ck (C:gG prog w A s κ O key P) {st:SortSt} {i j:Nat} {Q:Option Bool->SortSt->Prop} (hk:kindOf st=κ) (hP:∀x∈(arrOf st).toList,P x) (hi:i < (arrOf st).size) (hj:j < (arrOf st).size)
  (h:Q (some (O.blt (key (at_ (arrOf st) i)) (key (at_ (arrOf st) j)))) st):wpS (model prog w) A E s (ltAt' i j) Q st:=by
 rw [ltAt'_eq]
 refine wpS_bind (wpS_get (wpS_bind (aN hi (wpS_bind (aN hj (mj C (hP _ (d8 hi)) (hP _ (d8 hj)) hk h))))))
theorem Sg.one {a:Array Keyed} {lo:Nat}:Sg key a lo (lo+1):=fun i j h1 h2 h3=>by
 rw [show i=j by lia];exact KeyOrd.kle_refl _
theorem Sg.more {a:Array Keyed} {lo n:Nat} (h:Sg key a lo (lo+n)) (h1:1<=n) (q:kl key (at_ a (lo+n-1)) (at_ a (lo+n))):Sg key a lo (lo+(n+1)):=fun i j z1 z2 z3=>by
 by_cases hj:j=lo+n
 ·subst hj
  by_cases hi:i=lo+n
  ·subst hi;exact KeyOrd.kle_refl _
  ·exact KeyOrd.kle_trans (h i (lo+n-1) z1 (by lia) (by lia)) q
 ·exact h i j z1 z2 (by lia)
theorem Fl.more {a:Array Keyed} {lo n:Nat} (h:Fl key a lo (lo+n)) (h1:1<=n) (q:kl key (at_ a (lo+n)) (at_ a (lo+n-1))):Fl key a lo (lo+(n+1)):=fun i j z1 z2 z3=>by
 by_cases hj:j=lo+n
 ·subst hj
  by_cases hi:i=lo+n
  ·subst hi;exact KeyOrd.kle_refl _
  ·exact KeyOrd.kle_trans q (h i (lo+n-1) z1 (by lia) (by lia))
 ·exact h i j z1 z2 (by lia)
theorem Fl.congr {a b:Array Keyed} {lo hi:Nat} (h:Fl key a lo hi) (e:∀k,key (at_ b k)=key (at_ a k)):Fl key b lo hi:=fun i j z1 z2 z3=>by
 show O.kle _ _
 rw [e,e];exact h i j z1 z2 z3
theorem BM (C:gG prog w A s κ O key P) {st:SortSt} {lo nrem:Nat} {Q:Option Nat->SortSt->Prop} (hk:kindOf st=κ) (hP:∀x∈(arrOf st).toList,P x) (hz:lo+nrem<=(arrOf st).size) (h1:1<=nrem)
  (h:∀n st',Mv lo st st'->1<=n->n<=nrem->Sg key (arrOf st') lo (lo+n)->Q (some n) st'):wpS (model prog w) A E s (countRun' lo nrem) Q st:=by
 rw [countRun'_eq]
 refine wpS_bind (wpS_mono (wpS_forRange (I:=fun k c st'=>st'=st/\c=(none,k)/\k<=nrem/\1<=k/\Sg key (arrOf st) lo (lo+k))
  (Q:=fun c st'=>st'=st/\∃n,c=(none,n)/\1<=n/\n<=nrem/\Sg key (arrOf st) lo (lo+n)/\(n < nrem->O.klt (key (at_ (arrOf st) (lo+n))) (key (at_ (arrOf st) (lo+n-1))))) ?step ?fin ⟨rfl,rfl,h1,by lia,Sg.one⟩) ?post)
 case fin=>
  rintro c st' ⟨rfl,rfl,a1,a2,a3⟩
  exact ⟨rfl,_,rfl,by lia,by lia,a3,fun z=>by lia⟩
 case step=>
  rintro k c st' _ hkn ⟨rfl,rfl,a1,a2,a3⟩
  dsimp only
  refine wpS_bind (ck C hk hP (by lia) (by lia) ?_)
  dsimp only
  cases hc:O.blt (key (at_ (arrOf st') (lo+k))) (key (at_ (arrOf st') (lo+k-1))) with
  | true=>rw [if_pos rfl];exact wpS_pure ⟨rfl,k,rfl,a2,a1,a3,fun _=>hc⟩
  | false=>rw [if_neg (by simp)];exact wpS_pure ⟨rfl,rfl,by lia,by lia,a3.more a2 hc⟩
 case post=>
  rintro c st' ⟨rfl,n,rfl,n1,n2,n3,n4⟩
  dsimp only
  by_cases e:n=nrem
  ·rw [if_pos (by simpa using e)]
   exact wpS_pure (h n st' Mv.rfl' n1 n2 n3)
  rw [if_neg (by simpa using e)]
  have n4:=n4 (by lia)
  by_cases hn:n > 1
  ·rw [if_pos hn]
   refine wpS_bind (ck C hk hP (by lia) (by lia) ?_)
   dsimp only
   cases hc:O.blt (key (at_ (arrOf st') lo)) (key (at_ (arrOf st') (lo+n-1))) with
   | true=>rw [if_pos rfl];exact wpS_pure (h n st' Mv.rfl' n1 n2 n3)
   | false=>
    rw [if_neg (by simp),reverseSlice'_eq]
    have eq:∀k,lo<=k->k < lo+n->key (at_ (arrOf st') k)=key (at_ (arrOf st') (lo+n-1)):=fun k k1 k2=>
     KeyOrd.kle_antisymm (n3 k (lo+n-1) k1 (by lia) (by lia)) (KeyOrd.kle_trans hc (n3 lo k (by lia) k1 (by lia)))
    have ek:=cQ (key:=key) (xs:=arrOf st') (i:=lo) (j:=lo+n) (by lia) eq
    refine wpS_bind (wpS_modify ?_)
    have M1:=(Mv.rfl' (lo:=lo) (st:=st')).rev (i:=lo) (j:=lo+n) (Nat.le_refl _) (by lia)
    have F1:Fl key (arrOf (setArr st' (mirror (arrOf st') lo (lo+n) ((lo+n-lo) / 2)))) lo (lo+(n+1)):=by
     refine Fl.congr (a:=arrOf st') (Fl.more (fun i j z1 z2 z3=>?_) n1 (KeyOrd.kle_of_klt n4)) ek
     show O.kle _ _
     rw [eq i z1 (by lia),eq j (by lia) z3];exact KeyOrd.kle_refl _
    generalize setArr st' (mirror (arrOf st') lo (lo+n) ((lo+n-lo) / 2))=st1 at M1 F1 ⊢
    refine wpS_bind (wpS_lift (wpAny_rule ⟨rfl,?_⟩))
    refine wpS_bind (wpS_mono (wpS_forRange (I:=fun k c st2=>Mv lo st' st2/\∃q,c=(none,k,q)/\k<=nrem/\q+1<=k/\Fl key (arrOf st2) lo (lo+k)/\(∀i,lo+k-(q+1)<=i->i < lo+k->key (at_ (arrOf st2) i)=key (at_ (arrOf st2) (lo+k-1))))
     (Q:=fun c st2=>Mv lo st' st2/\∃k q,c=(none,k,q)/\k<=nrem/\q+1<=k/\Fl key (arrOf st2) lo (lo+k)/\(∀i,lo+k-(q+1)<=i->i < lo+k->key (at_ (arrOf st2) i)=key (at_ (arrOf st2) (lo+k-1)))) ?dstep ?dfin ⟨M1,0,rfl,by lia,by lia,F1,fun i g1 g2=>by rw [show i=lo+(n+1)-1 by lia]⟩) ?dpost)
    case dfin=>
     rintro c st2 ⟨M2,q,rfl,a1,a2,a3,a4⟩
     exact ⟨M2,_,q,rfl,a1,a2,a3,a4⟩
    case dstep=>
     rintro k c st2 hk1 hkn ⟨M2,q,rfl,a1,a2,a3,a4⟩
     have hz2:lo+nrem<=(arrOf st2).size:=by rw [M2.size];exact hz
     have hk2:kindOf st2=κ:=M2.kind.trans hk
     have hP2:=M2.all hP
     dsimp only
     refine wpS_bind (ck C hk2 hP2 (by lia) (by lia) ?_)
     dsimp only
     cases hc:O.blt (key (at_ (arrOf st2) (lo+k))) (key (at_ (arrOf st2) (lo+k-1))) with
     | true=>
      rw [if_pos rfl]
      have F2:=a3.more (by lia) (KeyOrd.kle_of_klt hc)
      by_cases hq:q > 0
      ·rw [if_pos hq,reverseSlice'_eq]
       have ek:=cQ (key:=key) (xs:=arrOf st2) (i:=lo+k-(q+1)) (j:=lo+k) (by lia) a4
       refine wpS_bind (wpS_modify (wpS_pure ⟨M2.rev (by lia) (by lia),0,rfl,by lia,by lia,F2.congr ek,fun i g1 g2=>?_⟩))
       rw [show i=lo+(k+1)-1 by lia]
      ·rw [if_neg hq]
       exact wpS_pure ⟨M2,0,rfl,by lia,by lia,F2,fun i g1 g2=>by rw [show i=lo+(k+1)-1 by lia]⟩
     | false=>
      rw [if_neg (by simp)]
      refine wpS_bind (ck C hk2 hP2 (by lia) (by lia) ?_)
      dsimp only
      cases hd:O.blt (key (at_ (arrOf st2) (lo+k-1))) (key (at_ (arrOf st2) (lo+k))) with
      | true=>rw [if_pos rfl];exact wpS_pure ⟨M2,k,q,rfl,a1,a2,a3,a4⟩
      | false=>
       rw [if_neg (by simp)]
       have eq1:key (at_ (arrOf st2) (lo+k))=key (at_ (arrOf st2) (lo+k-1)):=O.total _ _ hc hd
       refine wpS_pure ⟨M2,q+1,rfl,by lia,by lia,a3.more (by lia) hd,fun i g1 g2=>?_⟩
       rw [show lo+(k+1)-1=lo+k by lia]
       by_cases hi:i=lo+k
       ·rw [hi]
       ·rw [eq1];exact a4 i (by lia) (by lia)
    case dpost=>
     rintro c st2 ⟨M2,k,q,rfl,a1,a2,a3,a4⟩
     have hz2:lo+nrem<=(arrOf st2).size:=by rw [M2.size];exact hz
     dsimp only
     by_cases hq:q > 0
     ·rw [if_pos hq,reverseSlice'_eq]
      have ek:=cQ (key:=key) (xs:=arrOf st2) (i:=lo+k-(q+1)) (j:=lo+k) (by lia) a4
      refine wpS_bind (wpS_modify ?_)
      have M3:=M2.rev (i:=lo+k-(q+1)) (j:=lo+k) (by lia) (by lia)
      have F3:Fl key (arrOf (setArr st2 (mirror (arrOf st2) (lo+k-(q+1)) (lo+k) ((lo+k-(lo+k-(q+1))) / 2)))) lo (lo+k):=a3.congr ek
      generalize setArr st2 (mirror (arrOf st2) (lo+k-(q+1)) (lo+k) ((lo+k-(lo+k-(q+1))) / 2))=st3 at M3 F3 ⊢
      have hz3:lo+nrem<=(arrOf st3).size:=by rw [M3.size];exact hz
      rw [reverseSlice'_eq]
      refine wpS_bind (wpS_modify ?_)
      have M4:=M3.rev (i:=lo) (j:=lo+k) (Nat.le_refl _) (by lia)
      have S4:Sg key (arrOf (setArr st3 (mirror (arrOf st3) lo (lo+k) ((lo+k-lo) / 2)))) lo (lo+k):=fun i j g1 g2 g3=>by
       show kl key (at_ (mirror (arrOf st3) lo (lo+k) ((lo+k-lo) / 2)) i) (at_ (mirror (arrOf st3) lo (lo+k) ((lo+k-lo) / 2)) j)
       rw [bQ (by lia),bQ (by lia),if_pos ⟨g1,by lia⟩,if_pos ⟨by lia,g3⟩]
       exact F3 _ _ (by lia) (by lia) (by lia)
      generalize setArr st3 (mirror (arrOf st3) lo (lo+k) ((lo+k-lo) / 2))=st4 at M4 S4 ⊢
      have hz4:lo+nrem<=(arrOf st4).size:=by rw [M4.size];exact hz
      have hk4:kindOf st4=κ:=M4.kind.trans hk
      have hP4:=M4.all hP
      refine wpS_bind (wpS_mono (wpS_forRange (I:=fun i c st5=>st5=st4/\c=(none,i)/\i<=nrem/\1<=i/\Sg key (arrOf st4) lo (lo+i)) (Q:=fun c st5=>st5=st4/\∃i,c=(none,i)/\i<=nrem/\1<=i/\Sg key (arrOf st4) lo (lo+i)) ?tstep ?tfin ⟨rfl,rfl,a1,by lia,S4⟩) ?tpost)
      case tfin=>
       rintro c st5 ⟨rfl,rfl,b1,b2,b3⟩
       exact ⟨rfl,_,rfl,b1,b2,b3⟩
      case tstep=>
       rintro i c st5 _ hi ⟨rfl,rfl,b1,b2,b3⟩
       dsimp only
       refine wpS_bind (ck C hk4 hP4 (by lia) (by lia) ?_)
       dsimp only
       cases hc:O.blt (key (at_ (arrOf st5) (lo+i))) (key (at_ (arrOf st5) (lo+i-1))) with
       | true=>rw [if_pos rfl];exact wpS_pure ⟨rfl,i,rfl,b1,b2,b3⟩
       | false=>rw [if_neg (by simp)];exact wpS_pure ⟨rfl,rfl,by lia,by lia,b3.more b2 hc⟩
      case tpost=>
       rintro c st5 ⟨rfl,i,rfl,b1,b2,b3⟩
       exact wpS_pure (h i st5 M4 b2 b1 b3)
     ·rw [if_neg hq]
      have M3:=M2
      have F3:=a3
      have hz3:lo+nrem<=(arrOf st2).size:=by rw [M3.size];exact hz
      rw [reverseSlice'_eq]
      refine wpS_bind (wpS_modify ?_)
      have M4:=M3.rev (i:=lo) (j:=lo+k) (Nat.le_refl _) (by lia)
      have S4:Sg key (arrOf (setArr st2 (mirror (arrOf st2) lo (lo+k) ((lo+k-lo) / 2)))) lo (lo+k):=fun i j g1 g2 g3=>by
       show kl key (at_ (mirror (arrOf st2) lo (lo+k) ((lo+k-lo) / 2)) i) (at_ (mirror (arrOf st2) lo (lo+k) ((lo+k-lo) / 2)) j)
       rw [bQ (by lia),bQ (by lia),if_pos ⟨g1,by lia⟩,if_pos ⟨by lia,g3⟩]
       exact F3 _ _ (by lia) (by lia) (by lia)
      generalize setArr st2 (mirror (arrOf st2) lo (lo+k) ((lo+k-lo) / 2))=st4 at M4 S4 ⊢
      have hz4:lo+nrem<=(arrOf st4).size:=by rw [M4.size];exact hz
      have hk4:kindOf st4=κ:=M4.kind.trans hk
      have hP4:=M4.all hP
      refine wpS_bind (wpS_mono (wpS_forRange (I:=fun i c st5=>st5=st4/\c=(none,i)/\i<=nrem/\1<=i/\Sg key (arrOf st4) lo (lo+i)) (Q:=fun c st5=>st5=st4/\∃i,c=(none,i)/\i<=nrem/\1<=i/\Sg key (arrOf st4) lo (lo+i)) ?tstep ?tfin ⟨rfl,rfl,a1,by lia,S4⟩) ?tpost)
      case tfin=>
       rintro c st5 ⟨rfl,rfl,b1,b2,b3⟩
       exact ⟨rfl,_,rfl,b1,b2,b3⟩
      case tstep=>
       rintro i c st5 _ hi ⟨rfl,rfl,b1,b2,b3⟩
       dsimp only
       refine wpS_bind (ck C hk4 hP4 (by lia) (by lia) ?_)
       dsimp only
       cases hc:O.blt (key (at_ (arrOf st5) (lo+i))) (key (at_ (arrOf st5) (lo+i-1))) with
       | true=>rw [if_pos rfl];exact wpS_pure ⟨rfl,i,rfl,b1,b2,b3⟩
       | false=>rw [if_neg (by simp)];exact wpS_pure ⟨rfl,rfl,by lia,by lia,b3.more b2 hc⟩
      case tpost=>
       rintro c st5 ⟨rfl,i,rfl,b1,b2,b3⟩
       exact wpS_pure (h i st5 M4 b2 b1 b3)
  ·rw [if_neg hn]
   have hn1:n=1:=by lia
   subst hn1
   have M1:Mv lo st' st':=Mv.rfl'
   have F1:Fl key (arrOf st') lo (lo+(1+1)):=Fl.more (fun i j z1 z2 z3=>by rw [show i=j by lia];exact KeyOrd.kle_refl _) (Nat.le_refl _) (KeyOrd.kle_of_klt n4)
   refine wpS_bind (wpS_lift (wpAny_rule ⟨rfl,?_⟩))
   refine wpS_bind (wpS_mono (wpS_forRange (I:=fun k c st2=>Mv lo st' st2/\∃q,c=(none,k,q)/\k<=nrem/\q+1<=k/\Fl key (arrOf st2) lo (lo+k)/\(∀i,lo+k-(q+1)<=i->i < lo+k->key (at_ (arrOf st2) i)=key (at_ (arrOf st2) (lo+k-1))))
    (Q:=fun c st2=>Mv lo st' st2/\∃k q,c=(none,k,q)/\k<=nrem/\q+1<=k/\Fl key (arrOf st2) lo (lo+k)/\(∀i,lo+k-(q+1)<=i->i < lo+k->key (at_ (arrOf st2) i)=key (at_ (arrOf st2) (lo+k-1)))) ?dstep ?dfin ⟨M1,0,rfl,by lia,by lia,F1,fun i g1 g2=>by rw [show i=lo+(1+1)-1 by lia]⟩) ?dpost)
   case dfin=>
    rintro c st2 ⟨M2,q,rfl,a1,a2,a3,a4⟩
    exact ⟨M2,_,q,rfl,a1,a2,a3,a4⟩
   case dstep=>
    rintro k c st2 hk1 hkn ⟨M2,q,rfl,a1,a2,a3,a4⟩
    have hz2:lo+nrem<=(arrOf st2).size:=by rw [M2.size];exact hz
    have hk2:kindOf st2=κ:=M2.kind.trans hk
    have hP2:=M2.all hP
    dsimp only
    refine wpS_bind (ck C hk2 hP2 (by lia) (by lia) ?_)
    dsimp only
    cases hc:O.blt (key (at_ (arrOf st2) (lo+k))) (key (at_ (arrOf st2) (lo+k-1))) with
    | true=>
     rw [if_pos rfl]
     have F2:=a3.more (by lia) (KeyOrd.kle_of_klt hc)
     by_cases hq:q > 0
     ·rw [if_pos hq,reverseSlice'_eq]
      have ek:=cQ (key:=key) (xs:=arrOf st2) (i:=lo+k-(q+1)) (j:=lo+k) (by lia) a4
      refine wpS_bind (wpS_modify (wpS_pure ⟨M2.rev (by lia) (by lia),0,rfl,by lia,by lia,F2.congr ek,fun i g1 g2=>?_⟩))
      rw [show i=lo+(k+1)-1 by lia]
     ·rw [if_neg hq]
      exact wpS_pure ⟨M2,0,rfl,by lia,by lia,F2,fun i g1 g2=>by rw [show i=lo+(k+1)-1 by lia]⟩
    | false=>
     rw [if_neg (by simp)]
     refine wpS_bind (ck C hk2 hP2 (by lia) (by lia) ?_)
     dsimp only
     cases hd:O.blt (key (at_ (arrOf st2) (lo+k-1))) (key (at_ (arrOf st2) (lo+k))) with
     | true=>rw [if_pos rfl];exact wpS_pure ⟨M2,k,q,rfl,a1,a2,a3,a4⟩
     | false=>
      rw [if_neg (by simp)]
      have eq1:key (at_ (arrOf st2) (lo+k))=key (at_ (arrOf st2) (lo+k-1)):=O.total _ _ hc hd
      refine wpS_pure ⟨M2,q+1,rfl,by lia,by lia,a3.more (by lia) hd,fun i g1 g2=>?_⟩
      rw [show lo+(k+1)-1=lo+k by lia]
      by_cases hi:i=lo+k
      ·rw [hi]
      ·rw [eq1];exact a4 i (by lia) (by lia)
   case dpost=>
    rintro c st2 ⟨M2,k,q,rfl,a1,a2,a3,a4⟩
    have hz2:lo+nrem<=(arrOf st2).size:=by rw [M2.size];exact hz
    dsimp only
    by_cases hq:q > 0
    ·rw [if_pos hq,reverseSlice'_eq]
     have ek:=cQ (key:=key) (xs:=arrOf st2) (i:=lo+k-(q+1)) (j:=lo+k) (by lia) a4
     refine wpS_bind (wpS_modify ?_)
     have M3:=M2.rev (i:=lo+k-(q+1)) (j:=lo+k) (by lia) (by lia)
     have F3:Fl key (arrOf (setArr st2 (mirror (arrOf st2) (lo+k-(q+1)) (lo+k) ((lo+k-(lo+k-(q+1))) / 2)))) lo (lo+k):=a3.congr ek
     generalize setArr st2 (mirror (arrOf st2) (lo+k-(q+1)) (lo+k) ((lo+k-(lo+k-(q+1))) / 2))=st3 at M3 F3 ⊢
     have hz3:lo+nrem<=(arrOf st3).size:=by rw [M3.size];exact hz
     rw [reverseSlice'_eq]
     refine wpS_bind (wpS_modify ?_)
     have M4:=M3.rev (i:=lo) (j:=lo+k) (Nat.le_refl _) (by lia)
     have S4:Sg key (arrOf (setArr st3 (mirror (arrOf st3) lo (lo+k) ((lo+k-lo) / 2)))) lo (lo+k):=fun i j g1 g2 g3=>by
      show kl key (at_ (mirror (arrOf st3) lo (lo+k) ((lo+k-lo) / 2)) i) (at_ (mirror (arrOf st3) lo (lo+k) ((lo+k-lo) / 2)) j)
      rw [bQ (by lia),bQ (by lia),if_pos ⟨g1,by lia⟩,if_pos ⟨by lia,g3⟩]
      exact F3 _ _ (by lia) (by lia) (by lia)
     generalize setArr st3 (mirror (arrOf st3) lo (lo+k) ((lo+k-lo) / 2))=st4 at M4 S4 ⊢
     have hz4:lo+nrem<=(arrOf st4).size:=by rw [M4.size];exact hz
     have hk4:kindOf st4=κ:=M4.kind.trans hk
     have hP4:=M4.all hP
     refine wpS_bind (wpS_mono (wpS_forRange (I:=fun i c st5=>st5=st4/\c=(none,i)/\i<=nrem/\1<=i/\Sg key (arrOf st4) lo (lo+i)) (Q:=fun c st5=>st5=st4/\∃i,c=(none,i)/\i<=nrem/\1<=i/\Sg key (arrOf st4) lo (lo+i)) ?tstep ?tfin ⟨rfl,rfl,a1,by lia,S4⟩) ?tpost)
     case tfin=>
      rintro c st5 ⟨rfl,rfl,b1,b2,b3⟩
      exact ⟨rfl,_,rfl,b1,b2,b3⟩
     case tstep=>
      rintro i c st5 _ hi ⟨rfl,rfl,b1,b2,b3⟩
      dsimp only
      refine wpS_bind (ck C hk4 hP4 (by lia) (by lia) ?_)
      dsimp only
      cases hc:O.blt (key (at_ (arrOf st5) (lo+i))) (key (at_ (arrOf st5) (lo+i-1))) with
      | true=>rw [if_pos rfl];exact wpS_pure ⟨rfl,i,rfl,b1,b2,b3⟩
      | false=>rw [if_neg (by simp)];exact wpS_pure ⟨rfl,rfl,by lia,by lia,b3.more b2 hc⟩
     case tpost=>
      rintro c st5 ⟨rfl,i,rfl,b1,b2,b3⟩
      exact wpS_pure (h i st5 M4 b2 b1 b3)
    ·rw [if_neg hq]
     have M3:=M2
     have F3:=a3
     have hz3:lo+nrem<=(arrOf st2).size:=by rw [M3.size];exact hz
     rw [reverseSlice'_eq]
     refine wpS_bind (wpS_modify ?_)
     have M4:=M3.rev (i:=lo) (j:=lo+k) (Nat.le_refl _) (by lia)
     have S4:Sg key (arrOf (setArr st2 (mirror (arrOf st2) lo (lo+k) ((lo+k-lo) / 2)))) lo (lo+k):=fun i j g1 g2 g3=>by
      show kl key (at_ (mirror (arrOf st2) lo (lo+k) ((lo+k-lo) / 2)) i) (at_ (mirror (arrOf st2) lo (lo+k) ((lo+k-lo) / 2)) j)
      rw [bQ (by lia),bQ (by lia),if_pos ⟨g1,by lia⟩,if_pos ⟨by lia,g3⟩]
      exact F3 _ _ (by lia) (by lia) (by lia)
     generalize setArr st2 (mirror (arrOf st2) lo (lo+k) ((lo+k-lo) / 2))=st4 at M4 S4 ⊢
     have hz4:lo+nrem<=(arrOf st4).size:=by rw [M4.size];exact hz
     have hk4:kindOf st4=κ:=M4.kind.trans hk
     have hP4:=M4.all hP
     refine wpS_bind (wpS_mono (wpS_forRange (I:=fun i c st5=>st5=st4/\c=(none,i)/\i<=nrem/\1<=i/\Sg key (arrOf st4) lo (lo+i)) (Q:=fun c st5=>st5=st4/\∃i,c=(none,i)/\i<=nrem/\1<=i/\Sg key (arrOf st4) lo (lo+i)) ?tstep ?tfin ⟨rfl,rfl,a1,by lia,S4⟩) ?tpost)
     case tfin=>
      rintro c st5 ⟨rfl,rfl,b1,b2,b3⟩
      exact ⟨rfl,_,rfl,b1,b2,b3⟩
     case tstep=>
      rintro i c st5 _ hi ⟨rfl,rfl,b1,b2,b3⟩
      dsimp only
      refine wpS_bind (ck C hk4 hP4 (by lia) (by lia) ?_)
      dsimp only
      cases hc:O.blt (key (at_ (arrOf st5) (lo+i))) (key (at_ (arrOf st5) (lo+i-1))) with
      | true=>rw [if_pos rfl];exact wpS_pure ⟨rfl,i,rfl,b1,b2,b3⟩
      | false=>rw [if_neg (by simp)];exact wpS_pure ⟨rfl,rfl,by lia,by lia,b3.more b2 hc⟩
     case tpost=>
      rintro c st5 ⟨rfl,i,rfl,b1,b2,b3⟩
      exact wpS_pure (h i st5 M4 b2 b1 b3)
theorem BN (C:gG prog w A s κ O key P) {st:SortSt} {lo n ok:Nat} {Q:Bool->SortSt->Prop} (hk:kindOf st=κ) (hP:∀x∈(arrOf st).toList,P x) (hz:lo+n<=(arrOf st).size) (ho:1<=ok) (hn:ok<=n) (hs:Sg key (arrOf st) lo (lo+ok))
  (h:∀st',Mv lo st st'->Sg key (arrOf st') lo (lo+n)->Q true st'):wpS (model prog w) A E s (binarySort' lo n ok) Q st:=by
 rw [binarySort'_eq]
 refine wpS_bind (wpS_mono (wpS_forRange (I:=fun k c st'=>c=(none,())/\Mv lo st st'/\k<=n/\Sg key (arrOf st') lo (lo+k)) (Q:=fun c st'=>c=(none,())/\Mv lo st st'/\Sg key (arrOf st') lo (lo+n)) ?step ?fin ⟨rfl,Mv.rfl',by lia,by rw [show max ok 1=ok by lia];exact hs⟩) ?post)
 case post=>
  rintro c st' ⟨rfl,M,S⟩
  exact wpS_pure (h st' M S)
 case fin=>
  rintro c st' ⟨hc,M,hkn,S⟩
  rw [show max (max ok 1) n=n by lia] at S
  exact ⟨hc,M,S⟩
 case step=>
  rintro k c st' hak hkn ⟨rfl,M,_,S⟩
  have hz':lo+n<=(arrOf st').size:=by rw [M.size];exact hz
  have hk':kindOf st'=κ:=M.kind.trans hk
  have hP':=M.all hP
  dsimp only
  refine wpS_bind (wpS_mono (wpS_forRange (I:=fun x c st''=>st''=st'/\∃l r,c=(none,l,r)/\l<=r/\r<=k/\r-l<=k-x/\(∀i,i < l->kl key (at_ (arrOf st') (lo+i)) (at_ (arrOf st') (lo+k)))/\(∀i,r<=i->i < k->O.klt (key (at_ (arrOf st') (lo+k))) (key (at_ (arrOf st') (lo+i)))))
   (Q:=fun c st''=>st''=st'/\∃l r,c=(none,l,r)/\l<=k/\(∀i,i < l->kl key (at_ (arrOf st') (lo+i)) (at_ (arrOf st') (lo+k)))/\(∀i,l<=i->i < k->O.klt (key (at_ (arrOf st') (lo+k))) (key (at_ (arrOf st') (lo+i))))) ?s1 ?f1 ⟨rfl,0,k,rfl,by lia,by lia,by lia,fun i hi=>by lia,fun i h1 h2=>by lia⟩) ?p1)
  case f1=>
   rintro c st'' ⟨rfl,l,r,rfl,z1,z2,z3,z4,z5⟩
   have:l=r:=by lia
   subst this
   exact ⟨rfl,l,l,rfl,z2,z4,z5⟩
  case s1=>
   rintro x c st'' _ hx ⟨rfl,l,r,rfl,z1,z2,z3,z4,z5⟩
   dsimp only
   by_cases hge:l >= r
   ·rw [if_pos hge]
    have:l=r:=by lia
    subst this
    exact wpS_pure ⟨rfl,l,l,rfl,z2,z4,z5⟩
   rw [if_neg hge]
   refine wpS_bind (ck C hk' hP' (by lia) (by lia) ?_)
   dsimp only
   cases hc:O.blt (key (at_ (arrOf st'') (lo+k))) (key (at_ (arrOf st'') (lo+(l+r) / 2))) with
   | true=>
    rw [if_pos rfl]
    exact wpS_pure ⟨rfl,l,(l+r) / 2,rfl,by lia,by lia,by lia,z4,fun i g1 g2=>KeyOrd.klt_of_klt_of_kle hc (S (lo+(l+r) / 2) (lo+i) (by lia) (by lia) (by lia))⟩
   | false=>
    rw [if_neg (by simp)]
    exact wpS_pure ⟨rfl,(l+r) / 2+1,r,rfl,by lia,by lia,by lia,fun i g1=>KeyOrd.kle_trans (S (lo+i) (lo+(l+r) / 2) (by lia) (by lia) (by lia)) hc,z5⟩
  case p1=>
   rintro c st'' ⟨rfl,l,r,rfl,z1,z2,z3⟩
   dsimp only
   rw [moveDown'_eq]
   have eb:∀i,at_ (bubble (arrOf st'') (lo+k) (lo+k-(lo+l))) i=if i=lo+l then at_ (arrOf st'') (lo+k) else if lo+l < i/\i<=lo+k then at_ (arrOf st'') (i-1) else at_ (arrOf st'') i:=fun i=>by
    have z:=getElem?_bubble (xs:=arrOf st'') (src:=lo+k) (by lia) (lo+k-(lo+l)) (by lia) i
    rw [show lo+k-(lo+k-(lo+l))=lo+l by lia] at z
    by_cases c1:i=lo+l
    ·rw [if_pos c1] at z ⊢;exact ba z
    ·rw [if_neg c1] at z ⊢
     by_cases c2:lo+l < i/\i<=lo+k
     ·rw [if_pos c2] at z ⊢;exact ba z
     ·rw [if_neg c2] at z ⊢;exact ba z
   refine wpS_bind (wpS_modify (wpS_pure ⟨rfl,⟨M.kind,M.pend,M.fail,(bubble_perm _ _ _).trans M.perm,fun i hi=>?_⟩,by lia,fun i j g1 g2 g3=>?_⟩))
   ·rw [<- M.pre i hi]
    show (bubble (arrOf st'') (lo+k) (lo+k-(lo+l)))[i]?=_
    rw [getElem?_bubble (by lia) _ (by lia),if_neg (by lia),if_neg (by lia)]
   ·show kl key (at_ (bubble (arrOf st'') (lo+k) (lo+k-(lo+l))) i) (at_ (bubble (arrOf st'') (lo+k) (lo+k-(lo+l))) j)
    rw [eb,eb]
    by_cases c1:i=lo+l
    ·rw [if_pos c1]
     by_cases c2:j=lo+l
     ·rw [if_pos c2];exact KeyOrd.kle_refl _
     ·rw [if_neg c2,if_pos ⟨by lia,by lia⟩]
      have:=z3 (j-1-lo) (by lia) (by lia)
      rw [show lo+(j-1-lo)=j-1 by lia] at this
      exact KeyOrd.kle_of_klt this
    ·rw [if_neg c1]
     by_cases c3:lo+l < i
     ·rw [if_pos ⟨c3,by lia⟩,if_neg (by lia),if_pos ⟨by lia,by lia⟩]
      exact S _ _ (by lia) (by lia) (by lia)
     ·rw [if_neg (by lia)]
      by_cases c2:j=lo+l
      ·rw [if_pos c2]
       have:=z2 (i-lo) (by lia)
       rwa [show lo+(i-lo)=i by lia] at this
      ·rw [if_neg c2]
       by_cases c4:lo+l < j
       ·rw [if_pos ⟨c4,by lia⟩];exact S _ _ g1 (by lia) (by lia)
       ·rw [if_neg (by lia)];exact S _ _ g1 g2 (by lia)
end
end Tim
end
section
namespace Tim
open PySem PyProof.Rows
theorem mq:∀(l:List Keyed) (a:Array Keyed) (b j0:Nat),((l.zipIdx j0).foldl (fun a x=>a.setIfInBounds (b+x.2) x.1) a).size=a.size
 | [],_,_,_=>rfl
 | x::l,a,b,j0=>by
  rw [List.zipIdx_cons,List.foldl_cons,mq l]
  simp
theorem tI:∀(l:List Keyed) (a:Array Keyed) (b j0:Nat) (i:Nat),b+j0+l.length<=a.size->((l.zipIdx j0).foldl (fun a x=>a.setIfInBounds (b+x.2) x.1) a)[i]?=if b+j0<=i/\i < b+j0+l.length then l[i-(b+j0)]? else a[i]?
 | [],a,b,j0,i,_=>by
  rw [if_neg (by simp only [List.length_nil];lia)];rfl
 | x::l,a,b,j0,i,h=>by
  have hl:(x::l).length=l.length+1:=rfl
  rw [hl] at h ⊢
  rw [List.zipIdx_cons,List.foldl_cons,tI l _ b (j0+1) i (by simp;lia)]
  by_cases c:b+(j0+1)<=i/\i < b+(j0+1)+l.length
  ·rw [if_pos c,if_pos (by lia),show i-(b+j0)=(i-(b+(j0+1)))+1 by lia,List.getElem?_cons_succ]
  ·rw [if_neg c]
   by_cases e:i=b+j0
   ·subst e
    rw [if_pos (by lia),Nat.sub_self,List.getElem?_cons_zero]
    simp [Array.getElem?_setIfInBounds];lia
   ·rw [if_neg (by lia)]
    simp [Array.getElem?_setIfInBounds];lia
noncomputable def Cov:List (Nat×Nat×Nat)->Nat->Nat->Prop
 | [],f,t=>f=t
 | x::r,f,t=>x.1=f/\1<=x.2.1/\Cov r (f+x.2.1) t
theorem Cov.le:∀{l:List (Nat×Nat×Nat)} {f t:Nat},Cov l f t->f+l.length<=t
 | [],_,_,h=>by cases h;exact Nat.le_refl _
 | x::r,f,t,⟨h1,h2,h3⟩=>by have:=Cov.le h3;simp only [List.length_cons];lia
theorem Cov.app:∀{l m:List (Nat×Nat×Nat)} {f t:Nat},Cov (l++m) f t↔∃k,Cov l f k/\Cov m k t
 | [],m,f,t=>⟨fun h=>⟨f,rfl,h⟩,fun zq1=>by obtain ⟨k,h1,h2⟩:=zq1;cases h1;exact h2⟩
 | x::r,m,f,t=>⟨fun ⟨h1,h2,h3⟩=>let ⟨k,k1,k2⟩:=Cov.app.mp h3;⟨k,⟨h1,h2,k1⟩,k2⟩,fun zt1=>by obtain ⟨k,⟨h1,h2,k1⟩,k2⟩:=zt1;exact ⟨h1,h2,Cov.app.mpr ⟨k,k1,k2⟩⟩⟩
theorem Cov.mem:∀{l:List (Nat×Nat×Nat)} {f t:Nat},Cov l f t->∀x∈l,f<=x.1/\x.1+x.2.1<=t
 | x::r,f,t,⟨h1,h2,h3⟩,y,hy=>by
  have:=Cov.le h3
  rcases List.mem_cons.mp hy with rfl | hy
  ·lia
  ·have:=Cov.mem h3 y hy;lia
section
variable {prog:Program} {w:World} {A:Around} {E:Value->Shared->Prop} {s:Shared} {κ:SortKind} {O:KeyOrd} {key:Keyed->O.α} {P:Keyed->Prop}
theorem xm {σ:Type} {M:Model} {x:σ} {Q:PUnit->σ->Prop} {st:σ} (h:Q ⟨⟩ x):wpS M A E s (set x:StateT σ Sem PUnit) Q st:=by
 unfold wpS;rw [StateT.run_set];exact wpAny_pure ⟨rfl,h⟩
structure G {O:KeyOrd} (κ:SortKind) (key:Keyed->O.α) (a0:Array Keyed) (st:SortSt) (lo:Nat):Prop where
 kind:kindOf st=κ
 fail:failedOf st=none
 perm:(arrOf st).Perm a0
 cov:Cov (pendingOf st).toList 0 lo
 srt:∀x∈(pendingOf st).toList,Sg key (arrOf st) x.1 (x.1+x.2.1)
 le:lo<=a0.size
theorem tJ {a:Array Keyed} {x:Keyed} {base n:Nat} (h:Sg key a base (base+n)):∀i j,i<=j->j < n->bey key false x (at_ a (base+j))=true->bey key false x (at_ a (base+i))=true:=fun i j hij hj q=>by
 have:kl key (at_ a (base+i)) x:=KeyOrd.kle_trans (h _ _ (by lia) (by lia) (by lia)) (mm q)
 show (!O.blt (key x) (key (at_ a (base+i))))=true
 rw [show O.blt (key x) (key (at_ a (base+i)))=false from this];rfl
theorem tK {a:Array Keyed} {x:Keyed} {base n:Nat} (h:Sg key a base (base+n)):∀i j,i<=j->j < n->bey key true x (at_ a (base+j))=true->bey key true x (at_ a (base+i))=true:=fun i j hij hj q=>
 KeyOrd.klt_of_kle_of_klt (h (base+i) (base+j) (by lia) (by lia) (by lia)) (i6 q)
theorem mr {a:Array Keyed} {i n j:Nat} (h:n<=a.size) (hj:i+j < n):at_ (a.extract i n) j=at_ a (i+j):=by
 refine ba ?_
 rw [Array.getElem?_extract]
 rw [if_pos (by lia)]
theorem mw {a:Array Keyed} {i n:Nat} (h:n<=a.size):(a.extract i n).size=n-i:=by
 rw [Array.size_extract];lia
theorem tL {a:Array Keyed} {i n:Nat} (h:n<=a.size) (q:Sg key a i n):(a.extract i n).toList.Pairwise (kl key):=by
 rw [List.pairwise_iff_getElem]
 intro x y hx hy hxy
 have hz:=mw (a:=a) (i:=i) h
 have hx':x < (a.extract i n).size:=by rw [<- Array.length_toList];exact hx
 have hy':y < (a.extract i n).size:=by rw [<- Array.length_toList];exact hy
 have g:∀z (hz:z < (a.extract i n).toList.length),(a.extract i n).toList[z]=at_ (a.extract i n) z:=fun z hz'=>by
  have e1:=bW (a:=a.extract i n) (i:=z) (by rw [<- Array.length_toList];exact hz')
  rw [List.getElem?_eq_getElem hz'] at e1
  exact Option.some.inj e1
 rw [g x hx,g y hy,mr h (by lia),mr h (by lia)]
 exact q _ _ (by lia) (by lia) (by lia)
theorem i9 {a:Array Keyed} {i n:Nat} (h:n<=a.size) {x:Keyed} (hx:x∈(a.extract i n).toList):∃j,i<=j/\j < n/\x=at_ a j:=by
 obtain ⟨j,hj,e⟩:=List.getElem_of_mem hx
 have hj':j < (a.extract i n).size:=by rw [<- Array.length_toList];exact hj
 have hz:=mw (a:=a) (i:=i) h
 have e1:=bW (a:=a.extract i n) (i:=j) hj'
 rw [List.getElem?_eq_getElem hj,e] at e1
 refine ⟨i+j,by lia,by lia,?_⟩
 rw [Option.some.inj e1,mr h (by lia)]
theorem j5 {a:Array Keyed} (hP:∀x∈a.toList,P x) {i:Nat} (h:i < a.size):P (at_ a i):=hP _ (d8 h)
theorem xn {a m:Array Keyed} {lo hi:Nat} (h:hi<=a.size) (hl:lo<=hi) (hm:m.toList.Perm (a.extract lo hi).toList) :
  let a':=(m.toList.zipIdx).foldl (fun a x=>a.setIfInBounds (lo+x.2) x.1) a
  a'.Perm a/\(∀i,(lo<=i/\i < hi->a'[i]?=m[i-lo]?)/\(¬ (lo<=i/\i < hi)->a'[i]?=a[i]?)):=by
 intro a'
 have hlen:m.toList.length=hi-lo:=by rw [hm.length_eq];simp;lia
 have g:∀i,a'[i]?=if lo+0<=i/\i < lo+0+m.toList.length then m.toList[i-(lo+0)]? else a[i]?:=fun i=>tI m.toList a lo 0 i (by lia)
 rw [Nat.add_zero,hlen,show lo+(hi-lo)=hi by lia] at g
 have hz:a'.size=a.size:=mq _ _ _ _
 refine ⟨?_,fun i=>⟨fun c=>by rw [g,if_pos c,Array.getElem?_toList],fun c=>by rw [g,if_neg c]⟩⟩
 have e:a'.toList=a.toList.take lo++(m.toList++a.toList.drop hi):=by
  apply List.ext_getElem?
  intro i
  rw [Array.getElem?_toList,g,List.getElem?_append,List.getElem?_append]
  have hlt:(a.toList.take lo).length=lo:=by simp;lia
  rw [hlt,hlen]
  by_cases c1:i < lo
  ·rw [if_neg (by lia),if_pos c1,List.getElem?_take,if_pos c1,Array.getElem?_toList]
  ·rw [if_neg c1]
   by_cases c2:i < hi
   ·rw [if_pos ⟨by lia,c2⟩,if_pos (by lia)]
   ·rw [if_neg (by lia),if_neg (by lia),List.getElem?_drop,Array.getElem?_toList]
    congr 1;lia
 have e2:a.toList=a.toList.take lo++((a.extract lo hi).toList++a.toList.drop hi):=by
  rw [nG a lo hi hl]
  conv=>lhs;rw [<- List.take_append_drop hi a.toList,<- List.take_append_drop lo (a.toList.take hi)]
  rw [List.take_take,Nat.min_eq_left hl,List.append_assoc]
 rw [Array.perm_iff_toList_perm,e]
 conv=>rhs;rw [e2]
 exact List.Perm.append_left _ (hm.append_right _)
theorem nH (C:gG prog w A s κ O key P) {a0:Array Keyed} {st:SortSt} {lo i:Nat} {Q:Bool->SortSt->Prop} (hP:∀x∈a0.toList,P x) (g:G κ key a0 st lo) (hi:i+1 < (pendingOf st).size)
  (h:∀st',G κ key a0 st' lo->(∀j,lo<=j->(arrOf st')[j]?=(arrOf st)[j]?)->(pendingOf st').size+1=(pendingOf st).size->Q true st'):wpS (model prog w) A E s (mergeAt' i) Q st:=by
 obtain ⟨sa,na,pw,eA⟩:∃sa na pw,(pendingOf st)[i]?=some (sa,na,pw):=⟨_,_,_,getElem?_pos _ i (by lia)⟩
 obtain ⟨sb,nb,pw2,eB⟩:∃sb nb pw2,(pendingOf st)[i+1]?=some (sb,nb,pw2):=⟨_,_,_,getElem?_pos _ (i+1) hi⟩
 have eL:(pendingOf st).toList=(pendingOf st).toList.take i++(sa,na,pw)::(sb,nb,pw2)::(pendingOf st).toList.drop (i+2):=by
  conv=>lhs;rw [<- List.take_append_drop i (pendingOf st).toList]
  congr 1
  rw [<- Array.getElem?_toList] at eA eB
  obtain ⟨l1,q1⟩:=List.getElem?_eq_some_iff.mp eA
  obtain ⟨l2,q2⟩:=List.getElem?_eq_some_iff.mp eB
  rw [List.drop_eq_getElem_cons l1,q1,List.drop_eq_getElem_cons l2,q2]
 have hcov:=g.cov
 rw [eL] at hcov
 obtain ⟨k0,c1,c2,c3,c4,c5,c6⟩:=Cov.app.mp hcov
 dsimp only at c2 c3 c4 c5 c6
 subst c2
 have hpost:=Cov.le c6
 have hsz:(arrOf st).size=a0.size:=g.perm.size_eq
 have hle:=g.le
 have hPs:∀x∈(arrOf st).toList,P x:=fun x hx=>hP x ((Array.perm_iff_toList_perm.mp g.perm).mem_iff.mp hx)
 have sgA:Sg key (arrOf st) sa (sa+na):=g.srt (sa,na,pw) (by rw [eL];simp)
 have sgB:Sg key (arrOf st) (sa+na) (sa+na+nb):=by have:=g.srt (sb,nb,pw2) (by rw [eL];simp);dsimp only at this;rwa [c4] at this
 -- the pending runs afterwards
 have pn:(((pendingOf st).setIfInBounds i (sa,na+nb,pw)).eraseIdxIfInBounds (i+1)).toList=(pendingOf st).toList.take i++(sa,na+nb,pw)::(pendingOf st).toList.drop (i+2):=by
  rw [Array.eraseIdxIfInBounds,dif_pos (by simp;lia),Array.toList_eraseIdx,Array.toList_setIfInBounds]
  conv=>lhs;rw [eL]
  have hl:((pendingOf st).toList.take i).length=i:=by simp;lia
  rw [List.set_append_right _ _ (by lia),hl,Nat.sub_self,List.set_cons_zero,List.eraseIdx_append_of_length_le (by lia),hl,Nat.add_sub_cancel_left,List.eraseIdx_cons_succ,List.eraseIdx_cons_zero]
 have hps:(((pendingOf st).setIfInBounds i (sa,na+nb,pw)).eraseIdxIfInBounds (i+1)).size+1=(pendingOf st).size:=by
  rw [<- Array.length_toList,pn];simp;lia
 -- what is wanted of a state with these runs
 have fin:∀st',kindOf st'=κ->failedOf st'=none->pendingOf st'=(((pendingOf st).setIfInBounds i (sa,na+nb,pw)).eraseIdxIfInBounds (i+1))->(arrOf st').Perm (arrOf st)->(∀j,¬ (sa<=j/\j < sa+na+nb)->(arrOf st')[j]?=(arrOf st)[j]?) ->
   Sg key (arrOf st') sa (sa+na+nb)->Q true st':=fun st' k1 k2 k3 k4 k5 k6=>by
  refine h st' ⟨k1,k2,k4.trans g.perm,?_,?_,hle⟩ (fun j hj=>k5 j (by lia)) (by rw [k3];exact hps)
  ·rw [k3,pn]
   refine Cov.app.mpr ⟨sa,c1,rfl,by show 1<=na+nb;lia,?_⟩
   show Cov _ (sa+(na+nb)) lo
   rw [<- Nat.add_assoc];exact c6
  ·intro x hx
   rw [k3,pn] at hx
   rcases List.mem_append.mp hx with hx | hx
   ·have q:=g.srt x (by rw [eL];exact List.mem_append_left _ hx)
    have r:=Cov.mem c1 x hx
    intro i' j' z1 z2 z3
    show O.kle _ _
    rw [ba (k5 i' (by lia)),ba (k5 j' (by lia))]
    exact q i' j' z1 z2 z3
   ·rcases List.mem_cons.mp hx with rfl | hx
    ·show Sg key (arrOf st') sa (sa+(na+nb))
     rw [<- Nat.add_assoc];exact k6
    ·have q:=g.srt x (by rw [eL];exact List.mem_append_right _ (List.mem_cons_of_mem _ (List.mem_cons_of_mem _ hx)))
     have r:=Cov.mem c6 x hx
     intro i' j' z1 z2 z3
     show O.kle _ _
     rw [ba (k5 i' (by lia)),ba (k5 j' (by lia))]
     exact q i' j' z1 z2 z3
 subst c4
 delta mergeAt'
 refine wpS_bind (wpS_get ?_)
 rw [eA,eB]
 dsimp only
 refine wpS_bind (xm ?_)
 refine wpS_bind (aN (show sa+na < (arrOf st).size by lia) (wpS_bind (d7 C g.kind (show 0 < na by lia) (show sa+na<=(arrOf st).size by lia) (fun j hj=>j5 hPs (by lia)) (j5 hPs (by lia)) (tJ sgA) fun k z1 z2 z3=>?_)))
 dsimp only
 have low:∀j,sa<=j->j < sa+k->kl key (at_ (arrOf st) j) (at_ (arrOf st) (sa+na)):=fun j j1 j2=>by
  have:=mm (z2 (j-sa) (by lia));rwa [show sa+(j-sa)=j by lia] at this
 have high:∀j,sa+k<=j->j < sa+na->O.klt (key (at_ (arrOf st) (sa+na))) (key (at_ (arrOf st) j)):=fun j j1 j2=>by
  have:=tG (z3 (j-sa) (by lia) (by lia));rwa [show sa+(j-sa)=j by lia] at this
 by_cases e1:na-k=0
 ·rw [if_pos (by simpa using e1)]
  refine wpS_pure (fin _ g.kind g.fail rfl (Array.Perm.refl _) (fun _ _=>rfl) fun i' j' y1 y2 y3=>?_)
  show kl key (at_ (arrOf st) i') (at_ (arrOf st) j')
  by_cases d1:j' < sa+na
  ·exact sgA i' j' y1 y2 d1
  ·by_cases d2:i' < sa+na
   ·exact KeyOrd.kle_trans (low i' y1 (by lia)) (sgB _ j' (Nat.le_refl _) (by lia) y3)
   ·exact sgB i' j' (by lia) y2 y3
 rw [if_neg (by simpa using e1)]
 have hlast:sa+k+(na-k)-1=sa+na-1:=by lia
 rw [hlast]
 refine wpS_bind (aN (show sa+na-1 < (arrOf st).size by lia) (wpS_bind (d7 C g.kind (show nb-1 < nb by lia) (show sa+na+nb<=(arrOf st).size by lia) (fun j hj=>j5 hPs (by lia)) (j5 hPs (by lia)) (tK sgB) fun m y1 y2 y3=>?_)))
 dsimp only
 have lowB:∀j,sa+na<=j->j < sa+na+m->O.klt (key (at_ (arrOf st) j)) (key (at_ (arrOf st) (sa+na-1))):=fun j j1 j2=>by
  have:=i6 (y2 (j-(sa+na)) (by lia));rwa [show sa+na+(j-(sa+na))=j by lia] at this
 have highB:∀j,sa+na+m<=j->j < sa+na+nb->kl key (at_ (arrOf st) (sa+na-1)) (at_ (arrOf st) j):=fun j j1 j2=>by
  have:=mn (y3 (j-(sa+na)) (by lia) (by lia));rwa [show sa+na+(j-(sa+na))=j by lia] at this
 by_cases e2:m=0
 ·rw [if_pos (by simpa using e2)]
  refine wpS_pure (fin _ g.kind g.fail rfl (Array.Perm.refl _) (fun _ _=>rfl) fun i' j' x1 x2 x3=>?_)
  show kl key (at_ (arrOf st) i') (at_ (arrOf st) j')
  by_cases d1:j' < sa+na
  ·exact sgA i' j' x1 x2 d1
  ·by_cases d2:i' < sa+na
   ·exact KeyOrd.kle_trans (sgA i' (sa+na-1) x1 (by lia) (by lia)) (highB j' (by lia) x3)
   ·exact sgB i' j' (by lia) x2 x3
 rw [if_neg (by simpa using e2)]
 have hx1:sa+na<=(arrOf st).size:=by lia
 have hx2:sa+na+m<=(arrOf st).size:=by lia
 have sx:=mw (a:=arrOf st) (i:=sa+k) hx1
 have sy:=mw (a:=arrOf st) (i:=sa+na) hx2
 have srX:=tL (key:=key) (i:=sa+k) hx1 (fun i' j' a1 a2 a3=>sgA i' j' (by lia) a2 a3)
 have srY:=tL (key:=key) (i:=sa+na) hx2 (fun i' j' a1 a2 a3=>sgB i' j' a1 a2 (by lia))
 have PX:∀x∈((arrOf st).extract (sa+k) (sa+na)).toList,P x:=fun x hx=>by obtain ⟨j,j1,j2,rfl⟩:=i9 hx1 hx;exact j5 hPs (by lia)
 have PY:∀x∈((arrOf st).extract (sa+na) (sa+na+m)).toList,P x:=fun x hx=>by obtain ⟨j,j1,j2,rfl⟩:=i9 hx2 hx;exact j5 hPs (by lia)
 have H0:∀y∈((arrOf st).extract (sa+k) (sa+na)).toList,kl key (at_ ((arrOf st).extract (sa+na) (sa+na+m)) 0) y:=fun y hy=>by
  obtain ⟨j,j1,j2,rfl⟩:=i9 hx1 hy
  rw [mr hx2 (by lia),Nat.add_zero]
  exact KeyOrd.kle_of_klt (high j j1 j2)
 have HL:∀x∈((arrOf st).extract (sa+na) (sa+na+m)).toList,kl key x (at_ ((arrOf st).extract (sa+k) (sa+na)) (((arrOf st).extract (sa+k) (sa+na)).size-1)):=fun x hx=>by
  obtain ⟨j,j1,j2,rfl⟩:=i9 hx2 hx
  rw [sx,mr hx1 (by lia),show sa+k+(sa+na-(sa+k)-1)=sa+na-1 by lia]
  exact KeyOrd.kle_of_klt (lowB j j1 j2)
 have eXY:((arrOf st).extract (sa+k) (sa+na+m)).toList=((arrOf st).extract (sa+k) (sa+na)).toList++((arrOf st).extract (sa+na) (sa+na+m)).toList:=by
  rw [<- Array.toList_append,Array.extract_append_extract]
  congr 2 <;> lia
 -- the end,by either way
 have done:∀(r:Array Keyed) (st1:SortSt),kindOf st1=κ->failedOf st1=none->pendingOf st1=(((pendingOf st).setIfInBounds i (sa,na+nb,pw)).eraseIdxIfInBounds (i+1))->arrOf st1=arrOf st ->
   Res (kl key) ((arrOf st).extract (sa+k) (sa+na)).toList ((arrOf st).extract (sa+na) (sa+na+m)).toList r.toList ->
   Q true (SortSt.mk' (kindOf st1) ((r.toList.zipIdx).foldl (fun a x=>a.setIfInBounds (sa+k+x.2) x.1) (arrOf st1)) (pendingOf st1) (gallopOf st1) (failedOf st1)):=fun r st1 k1 k2 k3 k4 R=>by
  rw [k4]
  obtain ⟨R1,R2⟩:=R
  rw [<- eXY] at R1
  obtain ⟨b1,b2⟩:=xn (a:=arrOf st) (m:=r) (lo:=sa+k) (hi:=sa+na+m) hx2 (by lia) R1
  generalize (r.toList.zipIdx).foldl (fun a x=>a.setIfInBounds (sa+k+x.2) x.1) (arrOf st)=a' at b1 b2 ⊢
  have hrl:r.size=sa+na+m-(sa+k):=by have:=R1.length_eq;rw [Array.length_toList,Array.length_toList,mw hx2] at this;exact this
  have mid:∀j,sa+k<=j->j < sa+na+m->at_ a' j=at_ r (j-(sa+k)):=fun j j1 j2=>ba ((b2 j).1 ⟨j1,j2⟩)
  have out:∀j,¬ (sa+k<=j/\j < sa+na+m)->at_ a' j=at_ (arrOf st) j:=fun j hj=>ba ((b2 j).2 hj)
  have midv:∀j,sa+k<=j->j < sa+na+m->∃t,sa+k<=t/\t < sa+na+m/\at_ a' j=at_ (arrOf st) t:=fun j j1 j2=>by
   have hm:at_ r (j-(sa+k))∈r.toList:=d8 (by lia)
   obtain ⟨t,t1,t2,t3⟩:=i9 hx2 (R1.mem_iff.mp hm)
   exact ⟨t,t1,t2,by rw [mid j j1 j2,t3]⟩
  refine fin _ k1 k2 k3 b1 (fun j hj=>(b2 j).2 (by lia)) fun i' j' x1 x2 x3=>?_
  show kl key (at_ a' i') (at_ a' j')
  by_cases d1:i' < sa+k
  ·rw [out i' (by lia)]
   by_cases d2:j' < sa+k
   ·rw [out j' (by lia)];exact sgA i' j' x1 x2 (by lia)
   ·by_cases d3:j' < sa+na+m
    ·obtain ⟨t,t1,t2,t3⟩:=midv j' (by lia) d3
     rw [t3]
     by_cases d4:t < sa+na
     ·exact sgA i' t x1 (by lia) d4
     ·exact KeyOrd.kle_trans (low i' x1 d1) (sgB _ t (Nat.le_refl _) (by lia) (by lia))
    ·rw [out j' (by lia)]
     exact KeyOrd.kle_trans (low i' x1 d1) (sgB _ j' (Nat.le_refl _) (by lia) x3)
  ·by_cases d2:i' < sa+na+m
   ·by_cases d3:j' < sa+na+m
    ·rw [mid i' (by lia) d2,mid j' (by lia) d3]
     exact d9 R2 (by lia) (by lia)
    ·obtain ⟨t,t1,t2,t3⟩:=midv i' (by lia) d2
     rw [t3,out j' (by lia)]
     by_cases d4:t < sa+na
     ·exact KeyOrd.kle_trans (sgA t (sa+na-1) (by lia) (by lia) (by lia)) (highB j' (by lia) x3)
     ·exact sgB t j' (by lia) (by lia) x3
   ·rw [out i' (by lia),out j' (by lia)]
    exact sgB i' j' (by lia) x2 x3
 by_cases hcase:na-k<=m
 ·rw [if_pos hcase]
  refine wpS_bind (BK C g.kind (show 0 < ((arrOf st).extract (sa+k) (sa+na)).size by rw [sx];lia) (show 0 < ((arrOf st).extract (sa+na) (sa+na+m)).size by rw [sy];lia) PX PY srX srY H0 HL fun r st1 S R=>?_)
  refine wpS_bind (wpS_modify (wpS_bind (wpS_get ?_)))
  have hf:failedOf st1=none:=S.2.2.2.trans g.fail
  show wpS _ _ _ _ (pure (failedOf st1).isNone) _ _
  rw [hf]
  exact wpS_pure (done r st1 (S.1.trans g.kind) hf S.2.2.1 S.2.1 R)
 ·rw [if_neg hcase]
  refine wpS_bind (BL C g.kind (show 0 < ((arrOf st).extract (sa+k) (sa+na)).size by rw [sx];lia) (show 0 < ((arrOf st).extract (sa+na) (sa+na+m)).size by rw [sy];lia) PX PY srX srY H0 HL fun r st1 S R=>?_)
  refine wpS_bind (wpS_modify (wpS_bind (wpS_get ?_)))
  have hf:failedOf st1=none:=S.2.2.2.trans g.fail
  show wpS _ _ _ _ (pure (failedOf st1).isNone) _ _
  rw [hf]
  exact wpS_pure (done r st1 (S.1.trans g.kind) hf S.2.2.1 S.2.1 R)
end
end Tim
end
section
namespace Tim
open PySem PyProof.Rows
noncomputable def bare (x:Nat×Nat×Nat):Nat×Nat:=(x.1,x.2.1)
theorem Cov.bare:∀{l m:List (Nat×Nat×Nat)} {f t:Nat},l.map bare=m.map bare->Cov l f t->Cov m f t
 | [],[],_,_,_,h=>h
 | [],_::_,_,_,e,_=>by cases e
 | _::_,[],_,_,e,_=>by cases e
 | x::l,y::m,f,t,e,⟨h1,h2,h3⟩=>by
  have e':=List.cons.inj e
  have e1:x.1=y.1:=(Prod.mk.inj e'.1).1
  have e2:x.2.1=y.2.1:=(Prod.mk.inj e'.1).2
  exact ⟨e1▸h1,e2▸h2,e2▸Cov.bare e'.2 h3⟩
theorem tM (l:List (Nat×Nat×Nat)) (i pw:Nat):(l.modify i fun x=>(x.1,x.2.1,pw)).map bare=l.map bare:=by
 apply List.ext_getElem?
 intro j
 rw [List.getElem?_map,List.getElem?_map,List.getElem?_modify]
 cases l[j]? with
 | none=>rfl
 | some x=>by_cases h:i=j <;> simp [h,bare]
section
variable {prog:Program} {w:World} {A:Around} {E:Value->Shared->Prop} {s:Shared} {κ:SortKind} {O:KeyOrd} {key:Keyed->O.α} {P:Keyed->Prop}
theorem G.push {a0:Array Keyed} {st:SortSt} {lo n:Nat} (g:G κ key a0 st lo) (S:Sg key (arrOf st) lo (lo+n)) (h1:1<=n) (h2:lo+n<=a0.size):G κ key a0 (setPending st ((pendingOf st).push (lo,n,0))) (lo+n):=by
 have e:(pendingOf (setPending st ((pendingOf st).push (lo,n,0)))).toList=(pendingOf st).toList++[(lo,n,0)]:=Array.toList_push ..
 refine ⟨g.kind,g.fail,g.perm,?_,fun x hx=>?_,h2⟩
 ·rw [e];exact Cov.app.mpr ⟨lo,g.cov,rfl,h1,rfl⟩
 ·rw [e] at hx
  rcases List.mem_append.mp hx with hx | hx
  ·exact g.srt x hx
  ·rw [List.mem_singleton] at hx;subst hx;exact S
theorem G.pow {a0:Array Keyed} {st:SortSt} {lo:Nat} (g:G κ key a0 st lo) (i pw:Nat):G κ key a0 (setPending st ((pendingOf st).modify i fun x=>(x.1,x.2.1,pw))) lo:=by
 have e:(pendingOf (setPending st ((pendingOf st).modify i fun x=>(x.1,x.2.1,pw)))).toList=(pendingOf st).toList.modify i fun x=>(x.1,x.2.1,pw):=Array.toList_modify ..
 have b:=tM (pendingOf st).toList i pw
 refine ⟨g.kind,g.fail,g.perm,?_,fun x hx=>?_,g.le⟩
 ·rw [e];exact Cov.bare b.symm g.cov
 ·rw [e] at hx
  have hb:bare x∈((pendingOf st).toList.map bare):=by rw [<- b];exact List.mem_map_of_mem hx
  obtain ⟨y,hy,ey⟩:=List.mem_map.mp hb
  have q:=g.srt y hy
  have e1:y.1=x.1:=(Prod.mk.inj ey).1
  have e2:y.2.1=x.2.1:=(Prod.mk.inj ey).2
  rw [e1,e2] at q
  exact q
theorem Sg.keep {a b:Array Keyed} {lo hi:Nat} (h:Sg key a lo hi) (e:∀j,lo<=j->b[j]?=a[j]?):Sg key b lo hi:=fun i j z1 z2 z3=>by
 rw [ba (e i z1),ba (e j (by lia))];exact h i j z1 z2 z3
theorem xo (C:gG prog w A s κ O key P) {st:SortSt} {Q:Unit->SortSt->Prop} (hP:∀x∈(arrOf st).toList,P x) (hk:kindOf st=κ) (hf:failedOf st=none) (hp:pendingOf st=#[]) (h1:1<=(arrOf st).size)
  (h:∀st',(arrOf st').Perm (arrOf st)->failedOf st'=none->(arrOf st').toList.Pairwise (kl key)->Q () st'):wpS (model prog w) A E s sortRuns' Q st:=by
 have g0:G κ key (arrOf st) st 0:=⟨hk,hf,Array.Perm.refl _,by rw [hp];rfl,(fun x hx=>by rw [hp] at hx;cases hx),Nat.zero_le _⟩
 rw [sortRuns'_eq]
 refine wpS_bind (wpS_get ?_)
 dsimp only
 refine wpS_bind (wpS_mono (wpS_forRange (I:=fun x c st1=>∃lo,c=(none,lo)/\x<=lo/\G κ key (arrOf st) st1 lo) (Q:=fun c st1=>c=(none,(arrOf st).size)/\G κ key (arrOf st) st1 (arrOf st).size) ?step ?fin ⟨0,rfl,Nat.le_refl _,g0⟩) ?post)
 case fin=>
  rintro c st1 ⟨lo,rfl,hx,g⟩
  have:=g.le
  have e:lo=(arrOf st).size:=by lia
  subst e;exact ⟨rfl,g⟩
 case post=>
  rintro c st1 ⟨rfl,g⟩
  dsimp only
  refine wpS_bind (wpS_mono (wpS_forRange (I:=fun x c st2=>c=(none,())/\(pendingOf st2).size+x<=(arrOf st).size/\G κ key (arrOf st) st2 (arrOf st).size) (Q:=fun c st2=>c=(none,())/\(pendingOf st2).size<=1/\G κ key (arrOf st) st2 (arrOf st).size) ?ls ?lf ⟨rfl,by have:=g.cov.le;rw [Array.length_toList] at this;lia,g⟩) ?lp)
  case lf=>
   rintro c st2 ⟨rfl,b1,g2⟩
   exact ⟨rfl,by lia,g2⟩
  case ls=>
   rintro x c st2 _ hx ⟨rfl,b1,g2⟩
   refine wpS_bind (wpS_get ?_)
   by_cases hp1:(pendingOf st2).size<=1
   ·rw [if_pos hp1];exact wpS_pure ⟨rfl,hp1,g2⟩
   rw [if_neg hp1]
   have hi:∀b:Bool,(if b=true then (pendingOf st2).size-2-1 else (pendingOf st2).size-2)+1 < (pendingOf st2).size:=fun b=>by
    cases b with
    | true=>rw [if_pos rfl];lia
    | false=>rw [if_neg (by simp)];lia
   refine wpS_bind (nH C hP g2 (hi _) fun st3 g3 _ b3=>?_)
   rw [if_neg (by simp)]
   exact wpS_pure ⟨rfl,by lia,g3⟩
  case lp=>
   rintro c st2 ⟨rfl,b1,g2⟩
   refine wpS_pure (h st2 g2.perm g2.fail ?_)
   have hz:(arrOf st2).size=(arrOf st).size:=g2.perm.size_eq
   have S:Sg key (arrOf st2) 0 (arrOf st).size:=by
    have c:=g2.cov
    have q:=g2.srt
    rw [<- Array.length_toList] at b1
    match hl:(pendingOf st2).toList,b1 with
    | [],_=>rw [hl] at c;have c:0=(arrOf st).size:=c;lia
    | [x],_=>
     rw [hl] at c q
     obtain ⟨c1,_,c3⟩:=c
     have:=q x List.mem_cons_self
     have c3:0+x.2.1=(arrOf st).size:=c3
     rwa [c1,c3] at this
    | _::_::_,b1=>simp only [List.length_cons] at b1;lia
   rw [List.pairwise_iff_getElem]
   intro i j hi hj hij
   have gt:∀z (hz:z < (arrOf st2).toList.length),(arrOf st2).toList[z]=at_ (arrOf st2) z:=fun z hz'=>by
    have e1:=bW (a:=arrOf st2) (i:=z) (by rw [<- Array.length_toList];exact hz')
    rw [List.getElem?_eq_getElem hz'] at e1
    exact Option.some.inj e1
   rw [gt i hi,gt j hj]
   rw [Array.length_toList] at hi hj
   exact S i j (Nat.zero_le _) (by lia) (by lia)
 case step=>
  rintro x c st1 _ hx ⟨lo,rfl,hxl,g⟩
  have hle:=g.le
  have hsz:(arrOf st1).size=(arrOf st).size:=g.perm.size_eq
  dsimp only
  by_cases hge:lo >= (arrOf st).size
  ·rw [if_pos hge]
   have e:lo=(arrOf st).size:=by lia
   subst e;exact wpS_pure ⟨rfl,g⟩
  rw [if_neg hge]
  have hPs:∀x∈(arrOf st1).toList,P x:=fun x hx=>hP x ((Array.perm_iff_toList_perm.mp g.perm).mem_iff.mp hx)
  have step:∀{st2:SortSt},Mv lo st1 st2->G κ key (arrOf st) st2 lo:=fun {st2} M=>by
   refine ⟨M.kind.trans g.kind,M.fail.trans g.fail,M.perm.trans g.perm,by rw [M.pend];exact g.cov,fun x hx=>?_,hle⟩
   rw [M.pend] at hx
   have q:=g.srt x hx
   have r:=g.cov.mem x hx
   intro i j z1 z2 z3
   rw [ba (M.pre i (by lia)),ba (M.pre j (by lia))]
   exact q i j z1 z2 z3
  refine wpS_bind (BM C g.kind hPs (by lia) (by lia) fun n st2 M2 n1 n2 S2=>?_)
  dsimp only
  by_cases hm:n < minRun' (arrOf st).size (arrOf st).size 0
  ·rw [if_pos hm]
   refine wpS_bind (wpS_lift (wpAny_rule ⟨rfl,?_⟩))
   have hz2:(arrOf st2).size=(arrOf st).size:=M2.size.trans hsz
   refine wpS_bind (BN C (M2.kind.trans g.kind) (M2.all hPs) (by rw [hz2];lia) n1 (by lia) S2 fun st3 M3 S3=>?_)
   rw [if_neg (by simp)]
   have M4:Mv lo st1 st3:=⟨M3.kind.trans M2.kind,M3.pend.trans M2.pend,M3.fail.trans M2.fail,M3.perm.trans M2.perm,fun i hi=>(M3.pre i hi).trans (M2.pre i hi)⟩
   have g4:=step M4
   have n3:1<=min ((arrOf st).size-lo) (minRun' (arrOf st).size (arrOf st).size 0):=by lia
   have n4:lo+min ((arrOf st).size-lo) (minRun' (arrOf st).size (arrOf st).size 0)<=(arrOf st).size:=by lia
   generalize min ((arrOf st).size-lo) (minRun' (arrOf st).size (arrOf st).size 0)=N at S3 n3 n4 ⊢
   refine wpS_bind (wpS_get ?_)
   cases hb:(pendingOf st3).back? with
   | none=>
    dsimp only
    exact wpS_bind (wpS_modify (wpS_pure ⟨_,rfl,by lia,g4.push S3 n3 n4⟩))
   | some z=>
    obtain ⟨s1,l1,p1⟩:=z
    dsimp only
    refine wpS_bind (wpS_mono (wpS_forRange (I:=fun _ c st5=>c=(none,())/\G κ key (arrOf st) st5 lo/\Sg key (arrOf st5) lo (lo+N)) (Q:=fun c st5=>c=(none,())/\G κ key (arrOf st) st5 lo/\Sg key (arrOf st5) lo (lo+N)) ?ms ?mf ⟨rfl,g4,S3⟩) ?mp)
    case mf=>rintro c st5 z;exact z
    case ms=>
     rintro y c st5 _ hy ⟨rfl,g5,S5⟩
     refine wpS_bind (wpS_get ?_)
     by_cases hp2:(pendingOf st5).size > 1
     ·rw [if_pos hp2]
      obtain ⟨u1,u2,u3,hu⟩:∃u1 u2 u3,(pendingOf st5)[(pendingOf st5).size-2]?=some (u1,u2,u3):=⟨_,_,_,getElem?_pos _ _ (by lia)⟩
      rw [hu]
      dsimp only
      split
      ·exact wpS_pure ⟨rfl,g5,S5⟩
      ·refine wpS_bind (nH C hP g5 (by lia) fun st6 g6 k6 _=>?_)
       rw [if_neg (by simp)]
       exact wpS_pure ⟨rfl,g6,S5.keep k6⟩
     ·rw [if_neg hp2]
      exact wpS_pure ⟨rfl,g5,S5⟩
    case mp=>
     rintro c st5 ⟨rfl,g5,S5⟩
     dsimp only
     exact wpS_bind (wpS_modify (wpS_bind (wpS_modify (wpS_pure ⟨_,rfl,by lia,(g5.pow _ _).push S5 n3 n4⟩))))
  ·rw [if_neg hm]
   have g4:=step M2
   have n4:lo+n<=(arrOf st).size:=by lia
   refine wpS_bind (wpS_get ?_)
   cases hb:(pendingOf st2).back? with
   | none=>
    dsimp only
    exact wpS_bind (wpS_modify (wpS_pure ⟨_,rfl,by lia,g4.push S2 n1 n4⟩))
   | some z=>
    obtain ⟨s1,l1,p1⟩:=z
    dsimp only
    refine wpS_bind (wpS_mono (wpS_forRange (I:=fun _ c st5=>c=(none,())/\G κ key (arrOf st) st5 lo/\Sg key (arrOf st5) lo (lo+n)) (Q:=fun c st5=>c=(none,())/\G κ key (arrOf st) st5 lo/\Sg key (arrOf st5) lo (lo+n)) ?ms ?mf ⟨rfl,g4,S2⟩) ?mp)
    case mf=>rintro c st5 z;exact z
    case ms=>
     rintro y c st5 _ hy ⟨rfl,g5,S5⟩
     refine wpS_bind (wpS_get ?_)
     by_cases hp2:(pendingOf st5).size > 1
     ·rw [if_pos hp2]
      obtain ⟨u1,u2,u3,hu⟩:∃u1 u2 u3,(pendingOf st5)[(pendingOf st5).size-2]?=some (u1,u2,u3):=⟨_,_,_,getElem?_pos _ _ (by lia)⟩
      rw [hu]
      dsimp only
      split
      ·exact wpS_pure ⟨rfl,g5,S5⟩
      ·refine wpS_bind (nH C hP g5 (by lia) fun st6 g6 k6 _=>?_)
       rw [if_neg (by simp)]
       exact wpS_pure ⟨rfl,g6,S5.keep k6⟩
     ·rw [if_neg hp2]
      exact wpS_pure ⟨rfl,g5,S5⟩
    case mp=>
     rintro c st5 ⟨rfl,g5,S5⟩
     dsimp only
     exact wpS_bind (wpS_modify (wpS_bind (wpS_modify (wpS_pure ⟨_,rfl,by lia,(g5.pow _ _).push S5 n1 n4⟩))))
end
end Tim
end
section
namespace Tim
open PySem PyProof.Rows L2
section
variable {prog:Program} {w:World} {A:Around} {E:Value->Shared->Prop} {s:Shared} {κ:SortKind} {O:KeyOrd} {key:Keyed->O.α} {P:Keyed->Prop}
noncomputable def bK (h:Heap) (a:Addr) (vs:List Value):Heap:=((h.update a (Obj.mapSeq fun _=>#[])).push (seqObj "tuple" vs.toArray 0)).push (seqObj "list" #[] 0)
theorem xp {h:Heap} {a b:Addr} {vs:List Value} {o:Obj} (hb:b≠a) (e:h.get? b=some o):(bK h a vs).get? b=some o:=
 Heap.get?_push_of_some _ (Heap.get?_push_of_some _ (((Heap.SameBut.update h a _).2 b hb).trans e))
theorem tN (vs:List Value):(vs.toArray.zip vs.toArray).toList=vs.map fun v=>(v,v):=by
 apply List.ext_getElem <;> simp
theorem tO {a:Addr} {vs:List Value} {n:Nat} {R:PySem.Fin->Shared->Prop} (ho:s.heap.get? a=some (seqObj "list" vs.toArray n)) (h2:2<=vs.length) (hz:vs.length<=sizeLine)
  (hk:∀Q':SortKind->Shared->Prop,Q' κ { s with heap:=bK s.heap a vs }->wpAny (model prog w) A (keyKind' vs.toArray) Q' E { s with heap:=bK s.heap a vs })
  (C:gG prog w A { s with heap:=bK s.heap a vs } κ O key P) (hP:∀v∈vs,P (v,v))
  (h:∀out:List Value,out.Perm vs->out.Pairwise (fun x y=>O.kle (key (x,x)) (key (y,y)))->R (.done (.ret .none)) { s with heap:=sortedHeap s.heap a vs out.toArray }) :
  wpAny (model prog w) A (Builtin.«list.sort» ⟨[.ref a],[]⟩) R E s:=by
 have many:¬ vs.toArray.size < 2:=by rw [List.size_toArray];lia
 obtain ⟨e,he⟩:∃e,(s.heap.update a (Obj.mapSeq fun _=>#[])).get? a=some (seqObj "list" #[] e):=⟨_,get?_update_seq ho (fun _=>#[])⟩
 rw [list_sort_plain]
 refine wpAny_bind (listItems_at ho rfl (wpAny_bind (listUpdate_at ho rfl (wpAny_bind (seqEpoch_at he rfl (wpAny_bind (wpAny_newTuple (wpAny_bind (wpAny_newList (wpAny_holding ?_))) (hsz:=hz))))) (by rw [List.size_toArray];lia))))
 have he2:(bK s.heap a vs).get? a=some (seqObj "list" #[] e):=Heap.get?_push_of_some _ (Heap.get?_push_of_some _ he)
 dsimp only
 rw [if_neg many,if_neg many]
 refine wpAny_bind (hk _ ?_)
 have hl0:(arrOf (SortSt.mk' κ (vs.toArray.zip vs.toArray) #[] 7 none)).toList=vs.map fun v=>(v,v):=tN vs
 refine wpAny_bind (wpAny_mono (xo (E:=E) C (st:=SortSt.mk' κ (vs.toArray.zip vs.toArray) #[] 7 none) (Q:=fun _ st'=>(arrOf st').toList.Perm (vs.map fun v=>(v,v))/\failedOf st'=none/\(arrOf st').toList.Pairwise (kl key))
  (fun x hx=>?_) rfl rfl rfl ?_ fun st' q1 q2 q3=>⟨?_,q2,q3⟩) ?_ fun _ _ z=>z)
 ·rw [hl0] at hx
  obtain ⟨v,hv,rfl⟩:=List.mem_map.mp hx
  exact hP v hv
 ·rw [<- Array.length_toList,hl0,List.length_map];lia
 ·rw [<- hl0];exact Array.perm_iff_toList_perm.mp q1
 rintro ⟨⟨⟩,st'⟩ s' ⟨rfl,pm,hf,pw⟩
 dsimp only
 have same:∀x∈(arrOf st').toList,x=(x.2,x.2):=fun x hx=>by
  obtain ⟨v,_,rfl⟩:=List.mem_map.mp (pm.mem_iff.mp hx);rfl
 have eo:(arrOf st').map (·.2)=((arrOf st').toList.map (·.2)).toArray:=by apply Array.ext' ; simp
 have p2:((arrOf st').toList.map (·.2)).Perm vs:=by have:=pm.map (·.2);rw [List.map_map] at this;simpa [Function.comp_def] using this
 have w2:((arrOf st').toList.map (·.2)).Pairwise (fun x y=>O.kle (key (x,x)) (key (y,y))):=by
  rw [List.pairwise_map]
  refine List.Pairwise.imp_of_mem (fun {x y} hx hy q=>?_) pw
  have q:O.kle (key x) (key y):=q
  rw [same x hx,same y hy] at q
  exact q
 refine wpAny_bind (seqEpoch_at he2 rfl (wpAny_bind (listUpdate_at he2 rfl ?_ (hsz2:=by rw [eo,List.size_toArray,p2.length_eq];lia))))
 rw [eo,hf]
 simp only [bne_self_eq_false,Bool.false_eq_true,if_false]
 exact wpAny_pure (h _ p2 w2)
noncomputable def cA (h:Heap) (vs:List Value):Heap:=((h.push (seqObj "list" #[] 0)).update h.objs.size (Obj.mapSeq (·++vs.toArray))).push (seqObj "list" vs.toArray 0)
theorem pre_size (h:Heap) (vs:List Value):((h.push (seqObj "list" #[] 0)).update h.objs.size (Obj.mapSeq (·++vs.toArray))).objs.size=h.objs.size+1:=by rw [Heap.size_update,size_push']
theorem oV {h:Heap} {b:Addr} {vs:List Value} {o:Obj} (e:h.get? b=some o):(bK (cA h vs) (h.objs.size+1) vs).get? b=some o:=by
 have hb:b < h.objs.size:=Heap.lt_size e
 refine xp (Nat.ne_of_lt (Nat.lt_succ_of_lt hb)) (Heap.get?_push_of_some _ (((Heap.SameBut.update _ _ _).2 b (Nat.ne_of_lt hb)).trans (Heap.get?_push_of_some _ e)))
theorem nI {l:Addr} {vs:List Value} {Q:Value->Shared->Prop} (hl:s.heap.IsList l vs.toArray) (h2:2<=vs.length) (hz:vs.length<=sizeLine)
  (hk:∀Q':SortKind->Shared->Prop,Q' κ { s with heap:=bK (cA s.heap vs) (s.heap.objs.size+1) vs }->wpAny (model prog w) A.in1.in1 (keyKind' vs.toArray) Q' E { s with heap:=bK (cA s.heap vs) (s.heap.objs.size+1) vs })
  (C:gG prog w A.in1.in1 { s with heap:=bK (cA s.heap vs) (s.heap.objs.size+1) vs } κ O key P) (hP:∀v∈vs,P (v,v))
  (h:∀out:List Value,out.Perm vs->out.Pairwise (fun x y=>O.kle (key (x,x)) (key (y,y)))->Q (.ref (s.heap.objs.size+1)) { s with heap:=sortedAll s.heap vs out.toArray }) :
  wpAny (model prog w) A (call (.builtin "sorted") [.ref l]) Q E s:=by
 have z1:=pre_size s.heap vs
 have z2:(cA s.heap vs).get? (s.heap.objs.size+1)=some (seqObj "list" vs.toArray 0):=z1▸Heap.get?_push_size _ rfl
 have col:=fun R r=>collect_list (prog:=prog) (w:=w) (A:=A.in1) (E:=E) (Q:=R) hl r hz
 refine Calls.call_function_entry kind_sorted plain_sorted entry_sorted (args_sorted1 _) (wpAny_bind (m:=checkCount "sorted" 1 1 _) (wpAny_pure (wpAny_bind (m:=collect (.ref l)) (col _ (wpAny_bind (wpAny_newList ?_ (hsz:=hz)))))))
 dsimp only
 rw [z1]
 refine wpAny_bind (wpAny_holding (wpAny_call_entry slot_list_sort ⟨_,z2,rfl⟩ entry_list_sort (tO (κ:=κ) (O:=O) (key:=key) (P:=P) z2 h2 hz hk C hP fun out p q=>⟨_,rfl,wpAny_pure ⟨_,rfl,h out p q⟩⟩) (args_list_sort _)))
noncomputable def dec (h:Heap):Value->List Int
 | .ref p=>match h.get? p with
  | some o=>match o.data with
   | .seq xs _=>xs.toList.map numOf
   | _=>[]
  | none=>[]
 | _=>[]
noncomputable def IsT (h:Heap) (v:Value) (ns:List Int):Prop:=∃p its,v=.ref p/\IsTup h p (List.toArray its)/\Vals (ns.map V.int) its
theorem j6:∀{ns:List Int} {its:List Value},Vals (ns.map V.int) its->its.map numOf=ns
 | [],its,h=>by have h:Vals [] its:=h;cases h;rfl
 | n::ns,its,h=>by
  have h:Vals (V.int n::ns.map V.int) its:=h
  cases h with
  | cons a b=>obtain ⟨t,rfl⟩:=a;rw [List.map_cons,j6 b];rfl
theorem IsT.dec {h:Heap} {v:Value} (q:IsT h v ns):dec h v=ns:=by
 obtain ⟨p,its,rfl,⟨o,ho,_,n,hd⟩,r⟩:=q
 unfold Tim.dec
 dsimp only
 rw [ho]
 dsimp only
 rw [hd]
 dsimp only
 exact j6 r
theorem qr {h:Heap}:gG prog w A { s with heap:=h } (tuples' true) lexOrd (fun x=>dec h x.1) (fun x=>∃ns,IsT h x.1 ns):=by
 intro x y C hx hy q
 obtain ⟨ns,hx⟩:=hx
 obtain ⟨ms,hy⟩:=hy
 have q:C (HT.lexLt (dec h x.1) (dec h y.1)) { s with heap:=h }:=q
 rw [hx.dec,hy.dec] at q
 obtain ⟨p,us,ex,⟨o,ho,_,n,hd⟩,r⟩:=hx
 obtain ⟨p',vs,ey,⟨o',ho',_,n',hd'⟩,r'⟩:=hy
 rw [ex,ey]
 exact PySem.W.kat_lt (s:={ s with heap:=h }) ho hd ho' hd' (wg ns ms 0 r r' (by simp) q)
end
end Tim
namespace L2
open PySem PySem.Spec PyProof.Rows
noncomputable def tP (K:PySem.W.Frag):List V->Hp->VK->Prop:=fun xs H Q=>∃(l:Addr) (ps:List Addr) (mss:List (List Int)),xs=[.ref l]/\SqL K H l (ps.map V.ref)/\iM K H ps mss/\(∀ms∈mss,ms≠[]) /\
 ∀(D:Addr) (ps':List Addr),H D=none->iM K H ps' (srt mss)->Q (.ref D) (upd H D (.lst (ps'.map V.ref)))
noncomputable def adr:Value->Addr
 | .ref a=>a
 | _=>0
theorem oW (f:Addr->List Int):∀{ps:List Addr},(∀p∈ps,SqT K H p ((f p).map V.int))->iM K H ps (ps.map f)
 | [],_=>.nil
 | p::ps,h=>.cons (h p List.mem_cons_self) (oW f fun q hq=>h q (List.mem_cons_of_mem _ hq))
theorem j7 (f:Addr->List Int):∀{ps:List Addr} {mss:List (List Int)},iM K H ps mss->(∀p ms,SqT K H p (ms.map V.int)->f p=ms)->ps.map f=mss/\∀p∈ps,SqT K H p ((f p).map V.int)
 | _,_,.nil,_=>⟨rfl,fun _ h=>nomatch h⟩
 | _,_,.cons h t,hf=>by
  obtain ⟨e,q⟩:=j7 f t hf
  refine ⟨by rw [List.map_cons,e,hf _ _ h],fun p hp=>?_⟩
  rcases List.mem_cons.mp hp with rfl | hp
  ·rw [hf _ _ h];exact h
  ·exact q p hp
theorem nJ {X:Cx}:cI X (.builtin "sorted") (tP X.K):=by
 intro pins s σ H xs us Q I r h
 obtain ⟨l,ps,mss,rfl,hl,ht,hne,q⟩:=h
 obtain ⟨u,rfl,rx⟩:=vals1 r
 cases rx
 obtain ⟨vs,rv,pl,hz⟩:=I.list hl
 have hlen:ps.length=mss.length:=Paired.length ht
 have evs:=gw rv
 subst evs
 rw [List.length_map] at hz
 by_cases h2:ps.length < 2
 ·refine m6 pl.isList (by simpa using h2) ?_
  obtain ⟨e,he⟩:=sortedAll_at s.heap (ps.map Value.ref) (ps.map Value.ref).toArray
  have es:srt mss=mss:=(m5 (List.Perm.refl _) (by
   match mss,hlen with
   | [],_=>exact List.Pairwise.nil
   | [_],_=>simp
   | _::_::_,hl=>simp at hl;lia)).symm
  exact ⟨.ref (s.heap.objs.size+1),_,I.laid (t':=s.toks) (o:=.lst (ps.map V.ref)) (fun b o e=>sortedAll_old e) (Nat.le_succ _) ⟨by rw [List.length_map];exact hz,_,e,rv,he⟩,rfl,q _ ps (I.hok.fresh (Nat.le_succ _)) (by rw [es];exact ht)⟩
 ·have isT:∀p ms,SqT X.K H p (ms.map V.int)->Tim.IsT (Tim.bK (Tim.cA s.heap (ps.map Value.ref)) (s.heap.objs.size+1) (ps.map Value.ref)) (.ref p) ms:=fun p ms hp=>by
   obtain ⟨its,r1,⟨o,ho,hc,n,hd⟩,_⟩:=I.tuple hp
   exact ⟨p,its,rfl,⟨o,Tim.oV ho,hc,n,hd⟩,r1⟩
  have isT0:∀p ms,SqT X.K H p (ms.map V.int)->Tim.IsT s.heap (.ref p) ms:=fun p ms hp=>by
   obtain ⟨its,r1,t1,_⟩:=I.tuple hp
   exact ⟨p,its,rfl,t1,r1⟩
  obtain ⟨em,each⟩:=j7 (fun p=>Tim.dec s.heap (.ref p)) ht fun p ms hp=>(isT0 p ms hp).dec
  have dd:∀p∈ps,Tim.dec (Tim.bK (Tim.cA s.heap (ps.map Value.ref)) (s.heap.objs.size+1) (ps.map Value.ref)) (.ref p)=Tim.dec s.heap (.ref p):=fun p hp=>(isT p _ (each p hp)).dec
  obtain ⟨fs,k1,k2,k3⟩:=m7 (h:=Tim.bK (Tim.cA s.heap (ps.map Value.ref)) (s.heap.objs.size+1) (ps.map Value.ref)) (fun a xs hx=>let ⟨its,r1,⟨o,ho,hc,n,hd⟩,_⟩:=I.tuple hx;⟨its,r1,⟨o,Tim.oV ho,hc,n,hd⟩⟩) ht hne
  refine Tim.nI (κ:=tuples' true) (O:=lexOrd) (key:=fun x=>Tim.dec (Tim.bK (Tim.cA s.heap (ps.map Value.ref)) (s.heap.objs.size+1) (ps.map Value.ref)) x.1)
   (P:=fun x=>∃ns,Tim.IsT (Tim.bK (Tim.cA s.heap (ps.map Value.ref)) (s.heap.objs.size+1) (ps.map Value.ref)) x.1 ns) pl.isList (by simp;lia) (by simpa using hz) (fun Q' hq=>?_) Tim.qr (fun v hv=>?_) fun out pm pw=>?_
  ·refine PySem.W.kat_kind (T:=.type "int") k1 (by lia) (fun v hv=>?_) rfl ?_
   ·obtain ⟨i,t,rfl⟩:=k3 v hv
    exact PySem.W.Looks.of_pure rfl
   ·rw [show ((Value.type "int") != Value.type "tuple")=true by decide +kernel]
    exact hq
  ·obtain ⟨p,hp,rfl⟩:=List.mem_map.mp hv
   exact ⟨_,isT p _ (each p hp)⟩
  ·have pa:(out.map adr).Perm ps:=by
    have:=pm.map adr
    rw [List.map_map] at this
    simpa [adr,Function.comp_def] using this
   have eo:out=(out.map adr).map Value.ref:=by
    rw [List.map_map]
    conv=>lhs;rw [<- List.map_id out]
    refine List.map_congr_left fun v hv=>?_
    obtain ⟨p,_,rfl⟩:=List.mem_map.mp (pm.mem_iff.mp hv)
    rfl
   have hin:∀p∈out.map adr,p∈ps:=fun p hp=>pa.mem_iff.mp hp
   have es:(out.map adr).map (fun p=>Tim.dec s.heap (.ref p))=srt mss:=by
    refine m5 ?_ ?_
    ·rw [<- em];exact pa.map _
    ·rw [List.pairwise_map,List.pairwise_map]
     refine List.Pairwise.imp_of_mem (fun {x y} hx hy z=>?_) pw
     obtain ⟨p,hp,rfl⟩:=List.mem_map.mp (pm.mem_iff.mp hx)
     obtain ⟨p',hp',rfl⟩:=List.mem_map.mp (pm.mem_iff.mp hy)
     have z:HT.lexLt (Tim.dec _ (.ref p')) (Tim.dec _ (.ref p))=false:=z
     rw [dd p hp,dd p' hp'] at z
     show lexLe (Tim.dec s.heap (.ref p)) (Tim.dec s.heap (.ref p'))=true
     unfold lexLe
     rw [z];rfl
   obtain ⟨e,he⟩:=sortedAll_at s.heap (ps.map Value.ref) out.toArray
   rw [eo] at he
   refine ⟨.ref (s.heap.objs.size+1),upd H (s.heap.objs.size+1) (.lst ((out.map adr).map V.ref)),I.laid (t':=s.toks) (o:=.lst ((out.map adr).map V.ref)) (fun b o e=>sortedAll_old e) (Nat.le_succ _) ⟨by rw [List.length_map,pa.length_eq];exact hz,_,e,jN _,?_⟩,rfl,q _ _ (I.hok.fresh (Nat.le_succ _)) ?_⟩
   ·rw [<- eo] at he ⊢;exact he
   ·rw [<- es];exact oW _ fun p hp=>each p (hin p hp)
end L2
end
section
namespace L2
open PySem PySem.Spec PyProof.Rows
section
variable {prog:Program} {w:World} {A:Around} {E:Value->Shared->Prop} {s:Shared}
theorem ja:Builtin.Dict_items.ownsTuple "dict_itemiterator"=true:=by decide
theorem fP {it:Addr} {Q:Nat->Shared->Prop} (ty:s.TypeIs (.ref it) "dict_itemiterator") (h:Q 2 s) :
  wpAny (model prog w) A (typeNameOfWhole (.ref it) >>= fun n=>pure (if Builtin.Dict_items.ownsTuple n=true then 2 else 0)) Q E s:=
 wpAny_bind (wpAny_typeNameOfWhole_itemiter ty (wpAny_pure (by rw [ja];exact h)))
theorem tQ {it d:Addr} {i n ep:Nat} {ok ov k v:Value} {Q:Value->Shared->Prop} (hit:IsItemIter s.heap it d i n ep ok ov)
  (hQ:∀h',IsItemIterOut h' it d i n ep k v s.heap.objs.size->h'.get? s.heap.objs.size=some { cls:=.type "tuple",data:=.seq #[k,v] }->h'.objs.size=s.heap.objs.size+1->(∀b u,b≠it->s.heap.get? b=some u->h'.get? b=some u)->Q (.ref s.heap.objs.size) { s with heap:=h' }) :
  wpAny (model prog w) A (Builtin.Dict_items.pairFromOwner (.ref it) 6 k v) Q E s:=by
 have hb:it≠s.heap.objs.size:=Nat.ne_of_lt (Heap.lt_size hit)
 refine wpAny_bind (wpAny_newTuple ?_)
 have e0:IsItemIter (s.heap.push { cls:=.type "tuple",data:=.seq #[k,v] }) it d i n ep ok ov:=Heap.get?_push_of_some _ hit
 have t0:(s.heap.push { cls:=.type "tuple",data:=.seq #[k,v] }).get? s.heap.objs.size=some { cls:=.type "tuple",data:=.seq #[k,v] }:=Heap.get?_push_size _ rfl
 have z0:(s.heap.push { cls:=.type "tuple",data:=.seq #[k,v] }).objs.size=s.heap.objs.size+1:=Heap.size_push ..
 have q0:∀b u,s.heap.get? b=some u->(s.heap.push { cls:=.type "tuple",data:=.seq #[k,v] }).get? b=some u:=fun b u e=>Heap.get?_push_of_some _ e
 refine wpAny_bind (wpAny_bind (wpAny_field e0 rfl (x:=.none) rfl (wpAny_pure ?_)))
 rw [if_pos rfl]
 refine wpAny_bind (wpAny_field e0 rfl (x:=ok) rfl (wpAny_bind (wpAny_field e0 rfl (x:=ov) rfl (wpAny_bind (wpAny_setField_rec e0 (k:=6) (by simp) fun g1 e1 b1=>?_)))))
 refine wpAny_bind (wpAny_setField_rec e1 (k:=7) (by simp) fun g2 e2 b2=>wpAny_bind (wpAny_setField_rec e2 (k:=0) (by simp) fun g3 e3 b3=>wpAny_bind (wpAny_setField_rec e3 (k:=1) (by simp) fun g4 e4 b4=>wpAny_bind (wpAny_letGo (wpAny_pure ?_)))))
 have all:∀b u,b≠it->(s.heap.push { cls:=.type "tuple",data:=.seq #[k,v] }).get? b=some u->g4.get? b=some u:=fun b u hn e=>(b4.2 b hn).trans ((b3.2 b hn).trans ((b2.2 b hn).trans ((b1.2 b hn).trans e)))
 exact hQ g4 e4 (all _ _ hb.symm t0) (b4.1.trans (b3.1.trans (b2.1.trans (b1.1.trans z0)))) fun b u hn e=>all b u hn (q0 b u e)
theorem tR {it d:Addr} {i ep:Nat} {o:Obj} {es:Array DictEntry} {ok ov:Value} {Q:Option Value->Shared->Prop} (hit:IsItemIter s.heap it d i es.size ep ok ov) (ho:s.heap.get? d=some o) (hd:o.data=.dict es ep) (hi:i < es.size)
  (hQ:∀h',IsItemIterOut h' it d (i+1) es.size ep es[i].key es[i].val s.heap.objs.size->h'.get? s.heap.objs.size=some { cls:=.type "tuple",data:=.seq #[es[i].key,es[i].val] }->h'.objs.size=s.heap.objs.size+1->(∀b u,b≠it->s.heap.get? b=some u->h'.get? b=some u) ->
   Q (some (.ref s.heap.objs.size)) { s with heap:=h' }):wpAny (model prog w) A (pyNext (.ref it)) Q E s:=by
 have ty:s.TypeIs (.ref it) "dict_itemiterator":=⟨_,hit,rfl⟩
 unfold pyNext
 refine wpAny_bind (wpAny_attempt (wpAny_callSpecial?_slot (name:=Str.ofString "__next__") ty F.slot_dict_itemiterator_next (wpAny_call_entry F.slot_dict_itemiterator_next ty F.entry_dict_itemiterator_next ?_ (F.args_dict_itemiterator_next_1 _))))
 refine wpAny_bind (wpAny_pure (wpAny_bind (wpAny_bind (fP ty (wpAny_bind (wpAny_fieldsOf hit rfl ?_))))))
 show wpAny _ _ (if (Value.ref d==Value.none)=true then _ else _) _ _ s
 rw [if_neg (fun z:(Value.ref d==Value.none)=true=>Bool.false_ne_true z)]
 refine wpAny_bind (wpAny_pure (wpAny_bind (wpAny_dictEntries ho hd ?_)))
 rw [if_neg (by simp)]
 refine wpAny_bind (wpAny_pure (wpAny_bind (wpAny_dictEpoch ho hd ?_)))
 rw [if_neg (by simp)]
 refine wpAny_pure ?_
 have hx:(if ((i:Nat):Int) < 0 then none else es[((i:Nat):Int).toNat]?)=some es[i]:=by rw [if_neg (by lia),Int.toNat_natCast];exact Array.getElem?_eq_getElem hi
 dsimp only
 rw [hx]
 refine wpAny_bind (fP ty (wpAny_bind (wpAny_isOneOf_itemiter ty (wpAny_bind (wpAny_setField_rec hit (k:=3) (by simp) fun g e b=>?_)))))
 have e':IsItemIter g it d (i+1) es.size ep ok ov:=by
  have z:((i+1:Nat):Int)=(i:Int)+1:=by lia
  unfold IsItemIter;rw [z];exact e
 have ty':Shared.TypeIs { s with heap:=g } (.ref it) "dict_itemiterator":=⟨_,e',rfl⟩
 refine wpAny_bind (wpAny_holding (wpAny_bind (wpAny_isOneOf_itemiter ty' (wpAny_bind (wpAny_isOneOf_itemiter ty' (tQ (s:={ s with heap:=g }) e' fun h' a1 a2 a3 a4=>?_))))))
 have gz:g.objs.size=s.heap.objs.size:=b.1
 rw [show ({ s with heap:=g }:Shared).heap.objs.size=s.heap.objs.size from gz] at a1 a2 a3 ⊢
 exact wpAny_pure ⟨_,rfl,wpAny_pure (hQ h' a1 a2 a3 fun c u hn z=>a4 c u hn ((b.2 c hn).trans z))⟩
theorem xq {it d:Addr} {i ep:Nat} {o:Obj} {es:Array DictEntry} {ok ov:Value} {Q:Option Value->Shared->Prop} (hh:A.handled=none) (hit:IsItemIter s.heap it d i es.size ep ok ov) (ho:s.heap.get? d=some o) (hd:o.data=.dict es ep) (hi:es.size<=i)
  (hQ:∀h',Heap.ExtBut it s.heap h'->Q none { s with heap:=h' }):wpAny (model prog w) A (pyNext (.ref it)) Q E s:=by
 have ty:s.TypeIs (.ref it) "dict_itemiterator":=⟨_,hit,rfl⟩
 unfold pyNext
 refine wpAny_bind (wpAny_attempt (wpAny_callSpecial?_slot (name:=Str.ofString "__next__") ty F.slot_dict_itemiterator_next (wpAny_call_entry F.slot_dict_itemiterator_next ty F.entry_dict_itemiterator_next ?_ (F.args_dict_itemiterator_next_1 _))))
 refine wpAny_bind (wpAny_pure (wpAny_bind (wpAny_bind (fP ty (wpAny_bind (wpAny_fieldsOf hit rfl ?_))))))
 show wpAny _ _ (if (Value.ref d==Value.none)=true then _ else _) _ _ s
 rw [if_neg (fun z:(Value.ref d==Value.none)=true=>Bool.false_ne_true z)]
 refine wpAny_bind (wpAny_pure (wpAny_bind (wpAny_dictEntries ho hd ?_)))
 rw [if_neg (by simp)]
 refine wpAny_bind (wpAny_pure (wpAny_bind (wpAny_dictEpoch ho hd ?_)))
 rw [if_neg (by simp)]
 refine wpAny_pure ?_
 have hx:(if ((i:Nat):Int) < 0 then none else es[((i:Nat):Int).toNat]?)=none:=by rw [if_neg (by lia),Int.toNat_natCast];exact Array.getElem?_eq_none hi
 dsimp only
 rw [hx]
 refine wpAny_bind (fP ty (wpAny_bind (wpAny_setField hit rfl (by simp) ?_)))
 unfold newExc newTuple
 refine wpAny_bind (wpAny_bind (wpAny_newObj_type (wpAny_bind (m:=firstArgMember _ _) (wpAny_of_eq (a:=Value.none) (by first | rfl | (simp only [firstArgMember];rfl)) (wpAny_newObj_type (wpAny_raiseNew_none (show A.in1.handled=none from hh) ?_) (by size_fits)))) (by size_fits)))
 refine wpAny_bind (wpAny_isInstance (b:=true) (T:="StopIteration") ⟨_,Heap.get?_push_size _ rfl,rfl⟩ isSubtype_stop (wpAny_pure (hQ _ ?_)))
 intro b u hn e
 exact Heap.get?_push_of_some _ (Heap.get?_push_of_some _ (((Heap.SameBut.update ..).2 b hn).trans e))
end
end L2
end
section
namespace L2
open PySem PySem.Spec PyProof.Rows
theorem jb:entryFor table "dict_itemiterator.__iter__"=some Builtin.«dict_keyiterator.__iter__»:=
 entryFor_alias (id':="dict_keyiterator.__iter__") (by kernel_rfl) rfl (by decide +kernel) (by kernel_rfl)
section
variable {prog:Program} {w:World} {A:Around} {E:Value->Shared->Prop} {s:Shared}
theorem tS {d:Addr} {Q:Value->Shared->Prop} (ty:s.TypeIs (.ref d) "dict") (hd:(d==sysModules)=false)
  (h:Q (.ref s.heap.objs.size) { s with heap:=s.heap.push { cls:=.type "dict_items",data:=.fields #[.ref d] } }):wpAny (model prog w) A (call (.builtin "dict.items") [.ref d]) Q E s:=by
 refine wpAny_call_entry F.slot_dict_items ty F.entry_dict_items (wpAny_bind (wpAny_bind (wpAny_notOrdered_dict ty (wpAny_pure ?_)))) (F.args_dict_items_1 _)
 refine wpAny_bind (m:=Builtin.Dict.showsAll d) ?_
 unfold Builtin.Dict.showsAll
 rw [if_neg (by rw [hd];exact Bool.false_ne_true)]
 exact wpAny_pure (wpAny_bind (wpAny_newObj_type (wpAny_pure ⟨_,rfl,h⟩)))
theorem tT {v d:Addr} {o:Obj} {es:Array DictEntry} {ep:Nat} {Q:Value->Shared->Prop} (hv:s.heap.IsItemsView v d) (ho:s.heap.get? d=some o) (hd:o.data=.dict es ep)
  (h:Q (.ref s.heap.objs.size) { s with heap:=s.heap.push { cls:=.type "dict_itemiterator",data:=.fields #[.none,.bool false,.ref d,.int 0 0,.int es.size 0,.int ep 0,.none,.none] } }):wpAny (model prog w) A (pyIter (.ref v)) Q E s:=by
 obtain ⟨ov,g1,g2,g3⟩:=id hv
 refine wpAny_pyIter_slot hv.typeIs F.slot_dict_items_iter (wpAny_call_entry F.slot_dict_items_iter hv.typeIs F.entry_dict_items_iter (wpAny_bind (wpAny_pure (wpAny_bind (wpAny_bind (wpAny_field g1 g3 (x:=.ref d) rfl (wpAny_pure (wpAny_bind (wpAny_bind (wpAny_dictEntries ho hd (wpAny_bind (wpAny_dictEpoch ho hd ?_))))))))))) (F.args_dict_items_iter_1 _))
 simp only [ja,if_true]
 refine wpAny_newObj_type (wpAny_pure ⟨_,rfl,"dict_itemiterator",_,⟨_,Heap.get?_push_size _ rfl,rfl⟩,F.slot_dict_itemiterator_next.lookup,?_⟩) (by simp only [sizeOk,Builtin.Dict_items.ownedTupleFields,List.size_toArray,List.length_append,List.length_cons,List.length_nil,sizeLine_eq];lia)
 simpa [rawInt,Builtin.Dict_items.ownedTupleFields] using h
theorem tU {it d:Addr} {i n ep:Nat} {ok ov:Value} {Q:Value->Shared->Prop} (hit:IsItemIter s.heap it d i n ep ok ov) (h:Q (.ref it) s):wpAny (model prog w) A (pyIter (.ref it)) Q E s:=
 have ty:s.TypeIs (.ref it) "dict_itemiterator":=⟨_,hit,rfl⟩
 wpAny_pyIter_slot ty F.slot_dict_itemiterator_iter (wpAny_call_entry F.slot_dict_itemiterator_iter ty jb (show wpAny _ _ (ret (.ref it)) _ _ s from wpAny_pure ⟨_,rfl,"dict_itemiterator",_,ty,F.slot_dict_itemiterator_next.lookup,h⟩) (F.args_dict_itemiterator_iter_1 _))
end
noncomputable def Iti (d:Addr) (ob:Obj) (es:List (List Int×Addr×V)):It:=
 ⟨fun i H=>H d=some (bG d ob es)/\i < es.length,fun i H x H'=>∃p e,es[i]?=some e/\H p=none/\x=.ref p/\H'=upd H p (.tup [.ref e.2.1,e.2.2]),fun i H=>H d=some (bG d ob es)/\es.length<=i⟩
theorem EV.pick {xs:List (List Int×Addr×Value)} (r:EV es xs):∀{i:Nat} {e:List Int×Addr×V},es[i]?=some e->∃x,xs[i]?=some x/\e.2.1=x.2.1/\RelV e.2.2 x.2.2:=by
 induction r with
 | nil=>intro i e h;simp at h
 | @cons p q ps qs h t ih=>
  intro i e he
  cases i with
  | zero=>simp at he;subst he;exact ⟨q,rfl,h.2.1,h.2.2⟩
  | succ i=>simpa using ih (by simpa using he)
theorem nK {P:Program} {w:World} {elts:List Expr} {x1} {tp:Pos} (it d:Addr) (ob:Obj) (es:List (List Int×Addr×V)) (ds:Array DictEntry) (ep:Nat) (hob:ob.data=.dict ds ep) :
  Turn P w K (.Tuple elts x1 tp) (Iti d ob es) [it] it (fun i h=>∃ok ov,IsItemIter h it d i ds.size ep ok ov) where
 mem:=by simp
 obj:=fun i h zq1 b hb=>by
  obtain ⟨ok,ov,st⟩:=zq1
  have e:b=it:=by simpa using hb
  subst e
  exact ⟨_,st,fun v z=>by
   have z':Data.fields _=Data.cell v:=z
   cases z'⟩
 keep:=fun i h h' zt1 k=>by obtain ⟨ok,ov,st⟩:=zt1;exact ⟨ok,ov,k it (by simp) _ st⟩
 item:=by
  rintro X hP hw hK hc i pins s σ H E I hf ⟨ok,ov,st⟩ ⟨hd,hi⟩
  subst hP hw hK
  obtain ⟨f0,f1,f2,f3,f4,f5⟩:=hf it (by simp)
  obtain ⟨⟨z,m,nd,xs,ev,o,ds',ep',g1,g2,g3,g4⟩,g5⟩:=dH I hd
  rw [g5] at g1;cases g1
  rw [hob] at g3;cases g3
  obtain ⟨e,he⟩:∃e,es[i]?=some e:=⟨_,List.getElem?_eq_getElem hi⟩
  obtain ⟨x,hx,ek,rv⟩:=ev.pick he
  have hxl:i < xs.length:=by have:=Paired.length ev;lia
  have hds:ds.size=xs.length:=by have:=congrArg List.length g4;simpa using this
  have hent:ds[i]'(by lia)=rC x:=by
   have h1:ds.toList[i]?=some (rC x):=by rw [g4,List.getElem?_map,hx];rfl
   rw [Array.getElem?_toList,Array.getElem?_eq_getElem (by lia)] at h1
   exact Option.some.inj h1
  refine tR st g5 hob (by lia) fun h' a1 a2 a3 a4=>⟨_,rfl,wpAny_letOwnedTupleGo_items (s:={ s with heap:=h' }) a1 fun h2 b1 b2=>?_⟩
  have hb2:∀b u,b≠it->h'.get? b=some u->h2.get? b=some u:=fun b u hn q=>(b2.2 b hn).trans q
  have I2:Inv X pins σ H { s with heap:=h2 }:=I.turned (t':=s.toks) (fun b o hb q=>hb2 b o hb (a4 b o hb q)) f0 f1 f3 f4 f5
  have np:H s.heap.objs.size=none:=I.hok.fresh (Nat.le_refl _)
  obtain ⟨_,p1,_,p3,p4,p5⟩:=I.fpOk (H':=H) (b:=s.heap.objs.size) (Nat.le_refl _) np
  have nit:s.heap.objs.size≠it:=Nat.ne_of_gt (Heap.lt_size st)
  have tup:=hb2 _ _ nit a2
  rw [hent] at tup
  refine ⟨.ref s.heap.objs.size,upd H s.heap.objs.size (.tup [.ref e.2.1,e.2.2]),I2.track np I.sz p1 p4 p5 ⟨by rw [sizeLine_eq];exact Nat.le_of_ble_eq_true rfl,[.ref x.2.1,x.2.2],.cons (by rw [ek];rfl) (.cons rv .nil),⟨_,tup,rfl,_,rfl⟩⟩,rfl,⟨_,e,he,np,rfl,rfl⟩,⟨_,_,b1⟩,fun b hb=>?_⟩
  have e':b=it:=by simpa using hb
  subst e'
  rw [aL nit.symm];exact f0
 done:=by
  rintro X hP hw hK hc i pins s σ H E I hf ⟨ok,ov,st⟩ ⟨hd,hi⟩
  subst hP hw hK
  obtain ⟨f0,f1,f2,f3,f4,f5⟩:=hf it (by simp)
  obtain ⟨⟨z,m,nd,xs,ev,o,ds',ep',g1,g2,g3,g4⟩,g5⟩:=dH I hd
  rw [g5] at g1;cases g1
  rw [hob] at g3;cases g3
  have hds:ds.size=xs.length:=by have:=congrArg List.length g4;simpa using this
  have:=Paired.length ev
  exact xq (I.ok.hd hc) st g5 hob (by lia) fun h' eb=>⟨rfl,I.turned (t':=s.toks) (fun b o hb e=>eb b o hb e) f0 f1 f3 f4 f5⟩
 self:=fun _ _ _ _ _ zt1 h=>by obtain ⟨ok,ov,st⟩:=zt1;exact tU st h
section
variable {X:Cx}
noncomputable def tV (to:TE):TI:=fun σ H R=>to σ H fun x H1=>∃d ob es,x=.ref d/\H1 d=some (bG d ob es)/\R (Iti d ob es) H1
theorem tW {o:Expr} {to:TE} {apos cpos tp:Pos} {elts:List Expr} {x1} (ho:PE X o to) (hbase:attributeBase o "items" X.env (eval o X.env)=eval o X.env:=by rfl)
  (hline:(apos.endLine==cpos.line)=true:=by rfl):PI X (.Tuple elts x1 tp) (.Call (.Attribute o "items" apos) [] [] cpos) (tV to):=by
 intro pins s σ H R I h
 refine wpAny_Call_method0_late hbase hline (thn (ho pins s σ H _ I h) fun v s1 zr1=>?_)
 obtain ⟨x,H1,I1,r1,d,ob,es,hx,hd,q1⟩:=zr1
 subst hx
 cases r1
 obtain ⟨⟨z,m,nd,xs,ev,o',ds,ep,g1,g2,g3,g4⟩,g5⟩:=dH I1 hd
 rw [g5] at g1;cases g1
 refine ⟨"dict","dict.items",PySem.F.plainAttrs_dict,PySem.F.slot_dict_items,PySem.F.type_dict_items,⟨_,g5,g2.1⟩,fun b e=>by cases e;exact ⟨_,g5,g2.2.1⟩,?_⟩
 refine Calls.callWith_builtin rfl (PySem.evalArgs_none (tS ⟨_,g5,g2.1⟩ m ?_))
 have I2:Inv X pins σ H1 { s1 with heap:=s1.heap.push { cls:=.type "dict_items",data:=.fields #[.ref d] } }:=I1.kept (t':=s1.toks) fun b u q=>Heap.get?_push_of_some _ q
 refine tT (s:={ s1 with heap:=s1.heap.push { cls:=.type "dict_items",data:=.fields #[.ref d] } }) ⟨_,Heap.get?_push_size _ rfl,rfl,rfl⟩ (Heap.get?_push_of_some _ g5) g3 ?_
 refine ⟨(s1.heap.push { cls:=.type "dict_items",data:=.fields #[.ref d] }).objs.size,[(s1.heap.push { cls:=.type "dict_items",data:=.fields #[.ref d] }).objs.size],_,_,H1,rfl,I2.kept (t':=s1.toks) fun b u q=>Heap.get?_push_of_some _ q,nK _ d ob es ds ep g3,⟨_,_,Heap.get?_push_size _ rfl⟩,fun b hb=>?_,q1⟩
 have e:b=(s1.heap.push { cls:=.type "dict_items",data:=.fields #[.ref d] }).objs.size:=by simpa using hb
 subst e
 exact I2.fpOk (Nat.le_refl _) (I2.hok.fresh (Nat.le_refl _))
end
end L2
namespace VL
open PySem L2
section
variable {K:PySem.W.Frag} {X:Cx} {e o:Expr} {te:TE} {va:VT} {pos apos tp:Pos}
noncomputable def itD (kvs:List (List Int×D)):List D:=kvs.map fun x=>.tup [kT x.1,x.2]
noncomputable def tX (va:VT):VTN:=fun S Q=>va S fun r S1=>∃kvs,r=.d (dc kvs)/\Q (itD kvs) S1
theorem tY {elts:List Expr} {x1} (h:VE K X false o te va) (hbase:attributeBase o "items" X.env (eval o X.env)=eval o X.env:=by rfl) (hline:(apos.endLine==pos.line)=true:=by rfl) :
  VI K X (.Tuple elts x1 tp) (.Call (.Attribute o "items" apos) [] [] pos) (tV te) (tX va):=⟨tW h.pe hbase hline,fun H0 Z σ H S Q C k t hc=>h.snd H0 Z σ H S _ _ k t fun v H1 r S1 k1 st1 rr zq1=>by
 obtain ⟨kvs,er,q⟩:=zq1
 subst er
 have rr:Rep K _ _ H1 v (.dic (kvs.map (·.1)) (kvs.map (·.2))):=rr
 cases rr with
 | @dic a ob es _ _ n f hh ek rk r=>
 refine ⟨a,ob,es,rfl,hh,hc _ (itD kvs) H1 S1 k1 st1 (fun σ2 S2 H2 nm st2 i=>?_) q⟩
 obtain ⟨e1,n1⟩:=st2 a n (by rw [hh];exact fun z=>nomatch z)
 have hh2:H2 a=some (bG a ob es):=e1.trans hh
 have len:(itD kvs).length=es.length:=by have:=congrArg List.length ek;simp [itD] at this ⊢;lia
 rw [len]
 refine ⟨fun hi=>⟨hh2,hi⟩,fun x H3 zr1 hi=>?_,fun hi=>⟨hh2,by lia⟩⟩
 obtain ⟨p,en,he,hp,hx,hH⟩:=zr1
 subst hx;subst hH
 have hg:∀b,H2 b≠none->upd H2 p (.tup [.ref en.2.1,en.2.2]) b=H2 b:=aY hp
 have rk2:=(rk.stp st2).mono (N':=NM Z σ2 S2) (F':=AnyF) (H':=upd H2 p (.tup [.ref en.2.1,en.2.2])) (fun b n z=>⟨n,hg b z⟩) fun _ _=>trivial
 have r2:=(r.stp st2).mono (N':=NM Z σ2 S2) (F':=AnyF) (H':=upd H2 p (.tup [.ref en.2.1,en.2.2])) (fun b n z=>⟨n,hg b z⟩) fun _ _=>trivial
 obtain ⟨dk,hk1,hk2⟩:=rk2.get (i:=i) (v:=.ref en.2.1) (by rw [List.getElem?_map,he];rfl)
 obtain ⟨dv,hv1,hv2⟩:=r2.get (i:=i) (v:=en.2.2) (by rw [List.getElem?_map,he];rfl)
 refine ⟨hg,.tup [dk,dv],?_,.tup ?_ (.inl aK) (.cons hk2 (.cons hv2 .nil))⟩
 ·rw [List.getElem?_map,List.getElem?_map] at hk1
  rw [List.getElem?_map] at hv1
  unfold itD
  rw [List.getElem?_map]
  cases hkv:kvs[i]? with
  | none=>rw [hkv] at hv1;cases hv1
  | some kv=>rw [hkv] at hv1 hk1;cases hv1;cases hk1;rfl
 ·exact nm p hp⟩
end
end VL
end
section
namespace L2
open PySem PySem.Spec PyProof.Rows
section
variable {prog:Program} {w:World} {κ:Type} [DecidableEq κ] {knd:HeapKind prog w κ} {A:Around} {E:Value->Shared->Prop} {s:Shared}
theorem qt {d a:Addr} {xs:List (κ×Addr×Value)} {k:κ} {dv:Value} {Q:Value->Shared->Prop} (hu:knd.room A) (hkey:knd.is s.heap k a) (hm:s.heap.DictOfH knd d xs) (hz:xs.length < sizeLine)
  (old:∀p,atKey xs k=some p->Q p.2 { s with toks:=s.toks+knd.draws k })
  (new:atKey xs k=none->∀h',h'.DictOfH knd d (xs++[(k,a,dv)])->Heap.SameBut d s.heap h'->Q dv { s with heap:=h',toks:=s.toks+knd.draws k }) :
  wpAny (model prog w) A (dictSetDefault d (.ref a) dv) Q E s:=by
 obtain ⟨o,es,ep,g1,g2,g3,g4,g5,g6⟩:=hm
 have hes:=size_of_entries g4
 refine wpAny_holding (wpAny_bind (knd.pyHash hu hkey (wpAny_bind (wpAny_dictFind_heap (s:={ s with toks:=s.toks+knd.draws k }) hu hkey g1 g3 g4 g5 g6 (fun no=>?_) fun j p hj=>?_))))
 ·have nk:=not_mem_keys_of_get no
  have stay:∀{x:κ} {b:Addr},knd.is s.heap x b->knd.is (s.heap.update d (Obj.mapDictKeys fun z=>z.push ⟨knd.hash k,.ref a,dv⟩)) x b:=fun hx=>knd.keeps hx g1 g3 (Heap.SameBut.update ..)
  refine wpAny_bind (wpAny_rule (wpAny_bind (wpAny_updateDictKeys (hz:=by lia) (s:={ s with toks:=s.toks+knd.draws k }) g1 g3 (wpAny_pure (new (atKey_none_of_get no) _ ⟨_,_,ep+1,Heap.get?_update_self _ g1 (Obj.isFreed_of_dict (Obj.data_mapDictKeys g3 _)),g2.mapDictKeys _,Obj.data_mapDictKeys g3 _,?_,fun x hx=>?_,?_⟩ (Heap.SameBut.update ..))))))
  ·rw [Array.toList_push,g4,List.map_append];rfl
  ·rcases List.mem_append.mp hx with hx | hx
   ·exact stay (g5 x hx)
   ·cases List.mem_singleton.mp hx;exact stay hkey
  ·rw [List.map_append]
   exact List.nodup_append.mpr ⟨g6,by simp,fun x hx y hy z=>nk (by cases List.mem_singleton.mp hy;exact (show x=k from z)▸hx)⟩
 ·refine wpAny_bind (wpAny_dictEntries (s:={ s with toks:=s.toks+knd.draws k }) g1 g3 ?_)
  rw [entry_at g4 j,hj]
  exact wpAny_bind (wpAny_rule (wpAny_pure (old p (atKey_of_get g6 hj))))
end
section
variable {X:Cx}
noncomputable def tZ (K:PySem.W.Frag) (n:Int):R2:=fun x y H Q=>∃b a ms es,y=.ref b/\x=.ref a/\SqN K H b ms/\(∃ob,H a=some (bG a ob es))/\cg K H es/\es.length < sizeLine /\
 (∀v,atE es ms=some v->Q v H)/\(atE es ms=none->∀ob,Q (.int n) (upd H a (bG a ob (es++[(ms,b,.int n)]))))
noncomputable def zk (K:PySem.W.Frag) (n:Int) (to ti:TE):TE:=fun σ H Q=>to σ H fun x H1=>(∃a es ob,x=.ref a/\H1 a=some (bG a ob es))/\ti σ H1 fun y H2=>tZ K n x y H2 Q
theorem t4 {k:List Int} (h:atE es k=none):k∉es.map (·.1):=fun z=>by
 have e:=fK (es:=es) (k:=k)
 rw [h,decide_eq_true z] at e;cases e
theorem qu {s:Shared} {x y:V} {v u:Value} {n:Int} {t:Tok} {Q:VK} (hu:X.A.units+64 < cLine) (I:Inv X pins σ H s) (rx:RelV x v) (ry:RelV y u) (h:tZ X.K n x y H Q) :
  wpAny (model X.prog X.w) X.A (call (.builtin "dict.setdefault") [v,u,.int n t]) (EP X pins σ Q) X.xe s:=by
 obtain ⟨b,a,ms,es,rfl,rfl,h1,⟨ob,h2⟩,h3,hl,q1,q2⟩:=h
 cases rx;cases ry
 obtain ⟨z,m,nd,xs,ev,dd⟩:=fJ I h2 h3
 have rel:=ev.at_ ms
 refine wpAny_call_entry F.slot_dict_setdefault dd.typeIs F.entry_dict_setdefault ?_ (F.args_dict_setdefault_3 _ _ _)
 unfold Builtin.«dict.setdefault» Builtin.Dict.keyAndDefault
 refine wpAny_bind (wpAny_bind (wpAny_notOrdered_dict dd.typeIs (show wpAny _ _ (pure (a,Value.ref b,some (Value.int n t))) _ _ s from wpAny_pure ?_)))
 show wpAny _ _ (if (a==sysModules)=true then _ else (dictSetDefault a (.ref b) (.int n t) >>= _)) _ _ s
 rw [if_neg (by rw [m];exact Bool.false_ne_true)]
 refine wpAny_bind (qt (tupleKind_room_in1 (by lia)) (de I h1) dd (by rw [<- Paired.length ev];exact hl) (fun p hp=>?_) fun hn h' dd' hs=>?_)
 ·rw [hp] at rel
  cases hv:atE es ms with
  | none=>rw [hv] at rel;exact rel.elim
  | some vv=>
   rw [hv] at rel
   exact wpAny_pure ⟨_,rfl,vv,H,I.tok _,rel,q1 vv hv⟩
 ·rw [hn] at rel
  cases hv:atE es ms with
  | some vv=>rw [hv] at rel;exact rel.elim
  | none=>
   obtain ⟨qo,qd,qe,f1,f2,f3,f4,_,f6⟩:=dd'
   have ev':EV (es++[(ms,b,V.int n)]) (xs++[(ms,b,Value.int n t)]):=Paired.snoc ev ⟨rfl,rfl,t,rfl⟩
   refine wpAny_pure ⟨_,rfl,.int n,_,I.write (x:=a) (e:=a) (by rw [h2];exact True.intro) (.inl rfl) (fun c o hc q=>(hs.2 c hc).trans q) ⟨qo,f1⟩ (DctP.ok ⟨?_,m,?_,_,ev',qo,qd,qe,f1,f2,f3,f4⟩ f1),⟨t,rfl⟩,q2 hv qo⟩
   ·rw [List.length_append];show es.length+1<=sizeLine;lia
   ·rw [ev'.keys];exact f6
noncomputable def two' (K:PySem.W.Frag) (x:V) (Q:VK):List V->Hp->Prop
 | [y,.int k],H=>tZ K k x y H Q
 | _,_=>False
theorem xr {o ie:Expr} {to ti:TE} {n:Int} {j:Nat} {pc apos cpos:Pos} (hu:X.A.units+64 < cLine) (ho:PE X o to) (hi:PE X ie ti) (hbase:attributeBase o "setdefault" X.env (eval o X.env)=eval o X.env:=by rfl)
  (hfew:((backTo cpos (starEach [ie,.Constant (.int n) j pc] X.env)).all (fun x=>!x.1)&&(backToKw cpos (keywordEach [] X.env)).all (fun x=>x.1.isSome)
   && decide (([ie,.Constant (.int n) j pc]:List Expr).length+([]:List Keyword).length+(if ([]:List Keyword).isEmpty then 0 else 1) < 30))=true:=by rfl)
  (hline:(apos.endLine==cpos.line)=true:=by rfl) (hs:starEach [ie,.Constant (.int n) j pc] X.env=(false,eval ie X.env)::starEach [.Constant (.int n) j pc] X.env:=by rfl) (hplain:(backTo cpos (starEach [.Constant (.int n) j pc] X.env)).any (·.1)=false:=by rfl) :
  PE X (.Call (.Attribute o "setdefault" apos) [ie,.Constant (.int n) j pc] [] cpos) (zk X.K n to ti):=by
 intro pins s σ H Q I h
 refine wpAny_Call_method_late hbase hfew hline rfl (thn (ho pins s σ H _ I h) fun v s1 zr1=>?_)
 obtain ⟨x,H1,I1,r1,⟨a,es,ob,hx,ha⟩,q1⟩:=zr1
 subst hx
 cases r1
 obtain ⟨_,_,_,_,_,ob,_,_,z1,z2,_⟩:=fw I1 ha
 refine ⟨"dict","dict.setdefault",PySem.F.plainAttrs_dict,PySem.F.slot_dict_setdefault,PySem.F.type_dict_setdefault,⟨_,z1,z2.1⟩,fun b e=>by cases e;exact ⟨_,z1,z2.2.1⟩,?_⟩
 have hA:=cU hi (cU (gh (i:=n)) iI rfl) hs cpos pins s1 σ H1 (two' X.K (.ref a) Q) I1 q1
 rw [hs] at hA ⊢
 refine Calls.callWith_builtin (by show (false||(backTo cpos (starEach [.Constant (.int n) j pc] X.env)).any (·.1))=false;rw [hplain] <;> rfl) (Calls.evalArgs_plain ?_)
 refine thn hA fun us s2 zr1=>?_
 obtain ⟨vs,H2,I2,r2,q2⟩:=zr1
 match vs,r2,q2 with
 | [y,.int k],r2,q2=>
  obtain ⟨u,w,rfl,ru,t,rfl⟩:=r2.two
  exact qu hu I2 (show RelV (.ref a) (.ref a) from rfl) ru q2
end
end L2
end
section
namespace L2
open PySem PySem.Spec PyProof.Rows
section
variable {X:Cx} {k1 k2 k3 e1 e2 e3 ie:Expr} {t1 t2 t3 ti:TE} {n1 n2 n3:Int} {j1 j2 j3:Nat} {p1 p2 p3 dpos pos:Pos}
noncomputable def Ey (n1 n2 n3:Int) (t1 t2 t3 ti:TE):TE:=fun σ H Q=>t1 σ H fun v1 H1=>t2 σ H1 fun v2 H2=>t3 σ H2 fun v3 H3=>ti σ H3 fun y H4=>(y=.int n1/\Q v1 H4)\/(y=.int n2/\Q v2 H4)\/(y=.int n3/\Q v3 H4)
theorem fj {M:Model} {A:Around} {E:Value->Shared->Prop} {s:Shared} {m:Sem Value} {q:Pos} {Q:Value->Shared->Prop} (h:wpAny M A m Q E s):wpAny M A (do let x <- m;standAt q;pure x) Q E s:=
 wpAny_bind (wpAny_mono h (fun _ _ z=>wpAny_bind (wpAny_standAt (wpAny_pure z))) fun _ _ z=>z)
theorem BO (hd:n1≠n2/\n1≠n3/\n2≠n3) (h1:PE X e1 t1) (h2:PE X e2 t2) (h3:PE X e3 t3) (hi:PE X ie ti) (hs:cV ie) :
  PE X (.Subscript (.Dict [some (.Constant (.int n1) j1 p1),some (.Constant (.int n2) j2 p2),some (.Constant (.int n3) j3 p3)] [e1,e2,e3] dpos) ie pos) (Ey n1 n2 n3 t1 t2 t3 ti):=by
 intro pins s σ H Q I h
 have hb:sysModules < s.heap.objs.size:=nv I
 have np:H s.heap.objs.size=none:=I.hok.fresh (Nat.le_refl _)
 have I0:Inv X pins σ H { s with heap:=s.heap.push { cls:=.type "dict",data:=.dict #[] } }:=I.kept (t':=s.toks) fun b u q=>Heap.get?_push_of_some _ q
 obtain ⟨_,f1,f2,f3,f4,f5⟩:=I.fpOk (H':=H) (b:=s.heap.objs.size) (Nat.le_refl _) np
 have pin0:∀(ob:Obj),(∀v,ob.data≠.cell v)->∀{s':Shared} {H':Hp},Inv X pins σ H' s'->s'.heap.get? s.heap.objs.size=some ob->H' s.heap.objs.size=none->Inv X (pins++[(s.heap.objs.size,ob)]) σ H' s':=fun ob oc s' H' I' g gn=>I'.pins_of fun p hp=>by
  rcases List.mem_append.mp hp with hp | hp
  ·exact I'.pin p (List.mem_append_right _ hp)
  ·cases List.mem_singleton.mp hp
   exact ⟨g,gn,f1,f2,oc⟩
 have I1:=pin0 { cls:=.type "dict",data:=.dict #[] } (fun v z=>by cases z) I0 (Heap.get?_push_size _ rfl) np
 refine Subscript_ (wpAny_Dict_pairs (knd:=intKind X.prog X.w) (pairs:=[(eval (.Constant (.int n1) j1 p1) X.env,do let x <- eval e1 X.env;standAt dpos;pure x),(eval (.Constant (.int n2) j2 p2) X.env,do let x <- eval e2 X.env;standAt dpos;pure x),(eval (.Constant (.int n3) j3 p3) X.env,do let x <- eval e3 X.env;standAt dpos;pure x)]) rfl (by simp) (by simp) ?_)
 refine evalPairs_cons (thn (gh _ _ σ H (fun v H'=>v=.int n1/\H'=H) I1 ⟨rfl,rfl⟩) fun a1 s1 ⟨w1,K1,I2,r1,hw1,hK1⟩=>fj (thn (h1 _ s1 σ H _ (hK1▸I2) h) fun b1 s2 zr1=>?_))
 obtain ⟨v1,H1,I3,rv1,q1⟩:=zr1
 refine evalPairs_cons (thn (gh _ _ σ H1 (fun v H'=>v=.int n2/\H'=H1) I3 ⟨rfl,rfl⟩) fun a2 s3 ⟨w2,K2,I4,r2,hw2,hK2⟩=>fj (thn (h2 _ s3 σ H1 _ (hK2▸I4) q1) fun b2 s4 zr1=>?_))
 obtain ⟨v2,H2,I5,rv2,q2⟩:=zr1
 refine evalPairs_cons (thn (gh _ _ σ H2 (fun v H'=>v=.int n3/\H'=H2) I5 ⟨rfl,rfl⟩) fun a3 s5 ⟨w3,K3,I6,r3,hw3,hK3⟩=>fj (thn (h3 _ s5 σ H2 _ (hK3▸I6) q2) fun b3 s6 ⟨v3,H3,I7,rv3,q3⟩=>evalPairs_nil ?_))
 subst hw1;subst hw2;subst hw3
 obtain ⟨u1,rfl⟩:=r1
 obtain ⟨u2,rfl⟩:=r2
 obtain ⟨u3,rfl⟩:=r3
 obtain ⟨g7,gn7,_⟩:=I7.pin (s.heap.objs.size,_) (List.mem_append_right _ (List.mem_append_right _ List.mem_cons_self))
 refine ⟨[(n1,b1),(n2,b2),(n3,b3)],⟨intKind_is _ _ _ _,rfl,intKind_is _ _ _ _,rfl,intKind_is _ _ _ _,rfl,trivial⟩,⟨_,#[],0,g7,⟨rfl,rfl,rfl⟩,rfl,fun e he=>by simp at he,.nil,List.nodup_nil⟩,fun h' D sb=>?_⟩
 have em:merged [] [(n1,b1),(n2,b2),(n3,b3)]=[(n1,b1),(n2,b2),(n3,b3)]:=by
  obtain ⟨d1,d2,d3⟩:=hd
  simp [merged,stored,d1,d2,d3]
 rw [em] at D
 have I8:Inv X pins σ H3 s6:=I7.unpinned
 have I9:Inv X pins σ H3 { s6 with heap:=h',toks:=s6.toks+[(Value.int n1 u1,b1),(Value.int n2 u2,b2),(Value.int n3 u3,b3)].length }:=I8.turned (fun b o hn e=>(sb.2 b hn).trans e) gn7 f1 f3 f4 f5
 obtain ⟨ob,es,ep,go,gx,gd,gk,gp,gnn⟩:=id D
 have I10:=pin0 ob (fun v z=>by rw [gd] at z;cases z) I9 go gn7
 refine thn (hi _ _ σ H3 _ I10 q3) fun iv s7 zr1=>?_
 obtain ⟨y,H4,I11,ry,q4⟩:=zr1
 obtain ⟨g11,_⟩:=I11.pin (s.heap.objs.size,ob) (List.mem_append_right _ (List.mem_append_right _ List.mem_cons_self))
 have I12:Inv X pins σ H4 s7:=I11.unpinned
 have D7:s7.heap.DictOf (intKind X.prog X.w) s.heap.objs.size [(n1,b1),(n2,b2),(n3,b3)]:=⟨ob,es,ep,g11,gx,gd,gk,gp,gnn⟩
 have fin:∀(ve:Expr) (n:Int) (b:Value) (v:V),RelV v b->y=.int n->valueAt [(n1,b1),(n2,b2),(n3,b3)] n=some b->Q v H4->wpAny (model X.prog X.w) X.A (subscriptTail ve ie (.ref s.heap.objs.size) iv) (EP X pins σ Q) X.xe s7:=fun ve n b v rv hy hm q=>by
  subst hy
  obtain ⟨t,rfl⟩:=ry
  exact tail_any D7.typeIs slot_dict_getitem.lookup (wpAny_getItem_of (k:=n) (intKind_is _ _ _ _) D7.mapOf hm ⟨v,H4,I12.tok _,rv,q⟩) (hs _ _)
 obtain ⟨d1,d2,d3⟩:=hd
 rcases q4 with ⟨hy,q⟩ | ⟨hy,q⟩ | ⟨hy,q⟩
 ·exact fin _ n1 b1 v1 rv1 hy (by simp [valueAt]) q
 ·exact fin _ n2 b2 v2 rv2 hy (by simp [valueAt,d1]) q
 ·exact fin _ n3 b3 v3 rv3 hy (by simp [valueAt,d2,d3]) q
end
end L2
namespace VL
open PySem L2
section
variable {K:PySem.W.Frag} {X:Cx} {m:Bool} {e o ie e1 e2 e3:Expr} {te ti t1 t2 t3:TE} {va vi v1 v2 v3:VT} {pos dpos p1 p2 p3:Pos} {n1 n2 n3:Int} {j1 j2 j3:Nat} {S:List Sl} {Q:VR->List Sl->Prop}
noncomputable def Ez (n1 n2 n3:Int) (v1 v2 v3 vi:VT):VT:=fun S Q=>v1 S fun r1 S1=>v2 S1 fun r2 S2=>v3 S2 fun r3 S3=>vi S3 fun ri S4=>(ri=.d (.int n1)/\Q r1 S4)\/(ri=.d (.int n2)/\Q r2 S4)\/(ri=.d (.int n3)/\Q r3 S4)
theorem t5 (hd:n1≠n2/\n1≠n3/\n2≠n3) (h1:VE K X m e1 t1 v1) (h2:VE K X m e2 t2 v2) (h3:VE K X m e3 t3 v3) (hi:VE K X false ie ti vi) (hs:cV ie) :
  VE K X m (.Subscript (.Dict [some (.Constant (.int n1) j1 p1),some (.Constant (.int n2) j2 p2),some (.Constant (.int n3) j3 p3)] [e1,e2,e3] dpos) ie pos) (Ey n1 n2 n3 t1 t2 t3 ti) (Ez n1 n2 n3 v1 v2 v3 vi):=
 ⟨BO hd h1.pe h2.pe h3.pe hi.pe hs,fun H0 Z σ H S Q C k t hc=>h1.snd H0 Z σ H S _ _ k t fun x1 H1 r1 S1 k1 st1 rr1 t1=>h2.snd H0 Z σ H1 S1 _ _ k1 t1 fun x2 H2 r2 S2 k2 st2 rr2 t2=>h3.snd H0 Z σ H2 S2 _ _ k2 t2 fun x3 H3 r3 S3 k3 st3 rr3 t3=>
  hi.snd H0 Z σ H3 S3 _ _ k3 t3 fun y H4 ri S4 k4 st4 rri q=>by
   have stA:=((st1.trans st2).trans st3).trans st4
   rcases q with ⟨er,q⟩ | ⟨er,q⟩ | ⟨er,q⟩
   ·subst er;cases (show Rep K _ _ H4 y (.int n1) from rri)
    exact .inl ⟨rfl,hc _ H4 r1 S4 k4 stA (rr1.step ((st2.trans st3).trans st4)) q⟩
   ·subst er;cases (show Rep K _ _ H4 y (.int n2) from rri)
    exact .inr (.inl ⟨rfl,hc _ H4 r2 S4 k4 stA (rr2.step (st3.trans st4)) q⟩)
   ·subst er;cases (show Rep K _ _ H4 y (.int n3) from rri)
    exact .inr (.inr ⟨rfl,hc _ H4 r3 S4 k4 stA (rr3.step st4) q⟩)⟩
noncomputable def k3i (n1 n2 n3:Int) (r1 r2 r3:VR) (Q:VR->List Sl->Prop):VR->List Sl->Prop:=fun ri S4=>(ri=.d (.int n1)/\Q r1 S4)\/(ri=.d (.int n2)/\Q r2 S4)\/(ri=.d (.int n3)/\Q r3 S4)
noncomputable def k3c (n1 n2 n3:Int) (r1 r2:VR) (vi:VT) (Q:VR->List Sl->Prop):VR->List Sl->Prop:=fun r3 S3=>vi S3 (k3i n1 n2 n3 r1 r2 r3 Q)
noncomputable def k3b (n1 n2 n3:Int) (r1:VR) (v3 vi:VT) (Q:VR->List Sl->Prop):VR->List Sl->Prop:=fun r2 S2=>v3 S2 (k3c n1 n2 n3 r1 r2 vi Q)
noncomputable def k3a (n1 n2 n3:Int) (v2 v3 vi:VT) (Q:VR->List Sl->Prop):VR->List Sl->Prop:=fun r1 S1=>v2 S1 (k3b n1 n2 n3 r1 v3 vi Q)
theorem EA (h:v1 S (k3a n1 n2 n3 v2 v3 vi Q)):Ez n1 n2 n3 v1 v2 v3 vi S Q:=h
theorem EB (h:v2 S (k3b n1 n2 n3 r v3 vi Q)):k3a n1 n2 n3 v2 v3 vi Q r S:=h
theorem EC {r r':VR} (h:v3 S (k3c n1 n2 n3 r' r vi Q)):k3b n1 n2 n3 r' v3 vi Q r S:=h
theorem ED {r r' r'':VR} (h:vi S (k3i n1 n2 n3 r'' r' r Q)):k3c n1 n2 n3 r'' r' vi Q r S:=h
theorem BP {r1 r2 r3:VR} (h:Q r1 S):k3i n1 n2 n3 r1 r2 r3 Q (.d (.int n1)) S:=.inl ⟨rfl,h⟩
theorem BQ {r1 r2 r3:VR} (h:Q r2 S):k3i n1 n2 n3 r1 r2 r3 Q (.d (.int n2)) S:=.inr (.inl ⟨rfl,h⟩)
theorem BR {r1 r2 r3:VR} (h:Q r3 S):k3i n1 n2 n3 r1 r2 r3 Q (.d (.int n3)) S:=.inr (.inr ⟨rfl,h⟩)
noncomputable def sdA (kvs:List (List Int×D)) (k:List Int) (n:Int):List (List Int×D):=if k∈kvs.map (·.1) then kvs else kvs++[(k,.int n)]
noncomputable def zo (i:Nat) (n:Int) (vk:VT):VT:=fun S Q=>(∃kvs,S[i]?=some (od kvs))/\vk S fun rk S1=>∃kvs ms j,S1[i]?=some (od kvs)/\get S1 rk=some (kT ms)/\kvs.length<=1000000/\(dA kvs ms).getD (.int n)=.int j/\Q (.d (.int j)) (S1.set i (od (sdA kvs ms n)))
theorem qv {l:List Sl} {i:Nat} {s:Sl} (h:l[i]?=some s):l.set i s=l:=by
 apply List.ext_getElem?
 intro j
 rw [List.getElem?_set]
 by_cases e:i=j
 ·subst e
  rw [if_pos rfl]
  split
  ·exact h.symm
  ·rename_i z
   have:=(List.getElem?_eq_some_iff.mp h).1
   exact absurd this z
 ·rw [if_neg e]
theorem xt {apos pc:Pos} {n:Int} {j:Nat} (i:Nat) (hK:X.K=K) (hu:X.A.units+64 < cLine) (ho:PE X o (cT i)) (hk:VE K X false ie ti vi) (hbase:attributeBase o "setdefault" X.env (eval o X.env)=eval o X.env:=by rfl)
  (hfew:((backTo pos (starEach [ie,.Constant (.int n) j pc] X.env)).all (fun x=>!x.1)&&(backToKw pos (keywordEach [] X.env)).all (fun x=>x.1.isSome)
   && decide (([ie,.Constant (.int n) j pc]:List Expr).length+([]:List Keyword).length+(if ([]:List Keyword).isEmpty then 0 else 1) < 30))=true:=by rfl)
  (hline:(apos.endLine==pos.line)=true:=by rfl) (hs:starEach [ie,.Constant (.int n) j pc] X.env=(false,eval ie X.env)::starEach [.Constant (.int n) j pc] X.env:=by rfl) (hplain:(backTo pos (starEach [.Constant (.int n) j pc] X.env)).any (·.1)=false:=by rfl) :
  VE K X m (.Call (.Attribute o "setdefault" apos) [ie,.Constant (.int n) j pc] [] pos) (zk K n (cT i) ti) (zo i n vi):=
 ⟨by subst hK;exact xr hu ho hk.pe hbase hfew hline hs hplain,fun H0 Z σ H S Q C k zq1 hc=>by
  obtain ⟨⟨kvs0,e0⟩,t⟩:=zq1
  obtain ⟨o1,g1,p,es0,rfl,⟨ob0,ha0⟩,_⟩:=k.ownAt e0
  refine ⟨.ref p,g1,⟨p,es0,ob0,rfl,ha0⟩,hk.snd H0 Z σ H S _ _ k t fun y H2 rk S2 k2 st2 rr2 zr1=>?_⟩
  obtain ⟨kvs,ms,jj,e1,ek,hl,ej,q⟩:=zr1
  obtain ⟨o2,g2,p',es,e2,⟨ob,h2⟩,h3,⟨h4,h5⟩,h6⟩:=k2.ownAt e1
  rw [g1] at g2;cases g2;cases e2
  obtain ⟨b,rfl,hq,rb⟩:=tx rr2 ek
  have hka:cg K H2 es:=dB (by rw [h4];exact h5)
  have hle:es.length=kvs.length:=by have:=congrArg List.length h4;simpa using this
  refine ⟨b,p,ms,es,rfl,rfl,SqN.of hq,⟨ob,h2⟩,hka,by rw [sizeLine_eq];lia,fun v hv=>?_,fun hv obn=>?_⟩
  ·rcases fN (k:=ms) h4 h6 with ⟨z1,_⟩ | ⟨v',d,z1,z2,r⟩
   ·rw [hv] at z1;cases z1
   ·rw [hv] at z1;cases z1
    rw [z2] at ej
    cases (show d=.int jj from ej)
    cases r
    have hin:ms∈kvs.map (·.1):=by
     have s1:=fK (es:=es) (k:=ms)
     rw [hv,h4] at s1
     exact of_decide_eq_true s1.symm
    have es':S2.set i (od (sdA kvs ms n))=S2:=by unfold sdA;rw [if_pos hin];exact qv e1
    rw [es'] at q
    exact hc _ H2 (.d (.int jj)) S2 k2 st2 (Rep.int jj) q
  ·have hnin:ms∉kvs.map (·.1):=by rw [<- h4];exact t4 hv
   have na:NM Z σ S2 p->False:=fun n=>n (.inl ⟨i,_,e1,rfl,g1⟩)
   have hm:∀c,NM Z σ S2 c->H2 c≠none->NM Z σ S2 c/\upd H2 p (bG p obn (es++[(ms,b,.int n)])) c=H2 c:=fun c n _=>⟨n,aL fun z=>na (by rw [<- z];exact n)⟩
   have hj:jj=n:=by
    rcases fN (k:=ms) h4 h6 with ⟨_,z2⟩ | ⟨v',d,z1,_⟩
    ·rw [z2] at ej;cases ej;rfl
    ·rw [hv] at z1;cases z1
   subst hj
   unfold sdA at q
   rw [if_neg hnin] at q
   obtain ⟨k3,st3⟩:=k2.chgD (s:=od (kvs++[(ms,.int jj)])) (o:=bG p obn (es++[(ms,b,.int jj)])) e1 rfl g1 rfl ⟨p,es++[(ms,b,.int jj)],rfl,⟨obn,aK⟩,h3,⟨by rw [List.map_append,List.map_append,h4];rfl,by
    rw [List.map_append,List.map_append,List.map_append]
    exact Reps.append (h5.mono hm fun _ x=>x) (.cons (rb.mono hm fun _ x=>x) .nil)⟩,by
    rw [List.map_append,List.map_append]
    exact Reps.append (h6.mono hm fun _ x=>x) (.cons (.int jj) .nil)⟩
   exact hc _ _ (.d (.int jj)) _ k3 (st2.trans st3) (Rep.int jj) q⟩
noncomputable def zp (i:Nat) (n:Int) (Q:VR->List Sl->Prop):VR->List Sl->Prop:=fun rk S1=>∃kvs ms j,S1[i]?=some (od kvs)/\get S1 rk=some (kT ms)/\kvs.length<=1000000/\(dA kvs ms).getD (.int n)=.int j/\Q (.d (.int j)) (S1.set i (od (sdA kvs ms n)))
theorem BS {i:Nat} {n:Int} (e:S[i]?=some (od kvs)) (h:vi S (zp i n Q)):zo i n vi S Q:=⟨⟨kvs,e⟩,h⟩
theorem xu {i:Nat} {n j:Int} {rk:VR} (e:S[i]?=some (od kvs)) (ek:get S rk=some (kT ms)) (hl:kvs.length<=1000000) (ej:(dA kvs ms).getD (.int n)=.int j) (h:Q (.d (.int j)) (S.set i (od (sdA kvs ms n)))):zp i n Q rk S:=⟨kvs,ms,j,e,ek,hl,ej,h⟩
end
end VL
end
section
namespace VL
open PySem L2
section
variable {K:PySem.W.Frag} {X:Cx} {m:Bool} {e:Expr} {es:List Expr} {tr:TA} {vr:VTA} {x:Str} {p0 p pos:Pos} {j k:Nat} {ps:List Str} {S:List Sl} {QN:List D->List Sl->Prop}
noncomputable def EE (p:List D->(D->Prop)->Prop) (vr:VTA):VTD:=fun S Q=>vr S fun rs S1=>∃ds,gets S1 rs=some ds/\p ds fun d=>∃kvs,d=dc kvs/\flats (kvs.map (·.2))=true/\Q kvs S1
theorem EF {p:List D->(D->Prop)->Prop} (E:Has X.prog X.w X.K X.mg X.base k x ps (spP K p)) (hr:bY j X.A) (ha:VA K X false (e::es) tr vr)
  (hk:k<=j:=by decide) (hg:Gl X x:=by rfl) (hdb:(x==("__debug__":Str))=false:=by decide) (he:starEach (e::es) X.env=(false,eval e X.env)::starEach es X.env:=by rfl)
  (hpl:(backTo pos (starEach es X.env)).any (·.1)=false:=by rfl):VDe K X (.Call (.Name x p0) (e::es) [] pos) (gS (spP K p) [] E0 tr) (EE p vr):=⟨jJ E hr ha.pe hk hg hdb he hpl,fun H0 Z σ H S Q C k t hc=>
 ha.snd H0 Z σ H S _ _ k t fun vs H1 rs S1 k1 st1 rrs zq1=>by
  obtain ⟨ds,e,q⟩:=zq1
  refine ⟨ds,_,by rw [List.append_nil];exact rrs.gets k1 e,q,fun d v H' ⟨kvs,ed,hf,q⟩ g r=>?_⟩
  subst ed
  have r2:=Rep.avoid (N':=NM Z σ S1) (fun a z=>by
   have e:=k1.mo (Classical.not_not.mp z)
   rw [g a e.ne];exact e) (fun a zq1=>by obtain ⟨b,e,f⟩:=zq1;cases e;exact k1.nm f) r
  cases r2 with
  | @dic a ob ws _ _ n f h ek rk rs=>
   obtain ⟨b,e,f⟩:=f
   cases e
   have hM:∀b,¬(NM Z σ S1 b/\b≠a)->IsM (H' b):=fun b z=>by
    by_cases hb:b=a
    ·rw [hb,h];trivial
    ·have hmo:Mo Z σ S1 b:=Classical.byContradiction fun y=>z ⟨y,hb⟩
     have e:=k1.mo hmo
     rw [g b e.ne];exact e
   have sh:∀{us:List V} {ds:List D} {F:FP},Reps K (NM Z σ S1) F H' us ds->flats ds=true->∀F':FP,Reps K (fun b=>NM Z σ S1 b/\b≠a) F' H' us ds:=fun rr ff F'=>
    (Reps.avoid (N':=fun b=>NM Z σ S1 b/\b≠a) hM (fun b fb=>fb.elim) (Reps.flat (F':=fun _=>False) rr ff)).mono (fun _ n _=>⟨n,rfl⟩) (fun o f=>f.elim)
   exact hc a ws kvs H1 H' S1 k1 st1 f g ⟨ob,h⟩ ek (sh rk (iP _) _) (sh rs hf _) q⟩
noncomputable def EG (p:List D->(D->Prop)->Prop) (Q:List (List Int×D)->List Sl->Prop):List VR->List Sl->Prop:=fun rs S1=>∃ds,gets S1 rs=some ds/\p ds fun d=>∃kvs,d=dc kvs/\flats (kvs.map (·.2))=true/\Q kvs S1
theorem EH {p:List D->(D->Prop)->Prop} {Q:List (List Int×D)->List Sl->Prop} (h:vr S (EG p Q)):EE p vr S Q:=h
theorem BU {p:List D->(D->Prop)->Prop} {Q:List (List Int×D)->List Sl->Prop} (e:gets S rs=some ds) (h:p ds fun d=>∃kvs,d=dc kvs/\flats (kvs.map (·.2))=true/\Q kvs S):EG p Q rs S:=⟨ds,e,h⟩
noncomputable def t6 (vr:VTA):VTN:=fun S Q=>vr S fun rs S1=>∃r mss,rs=[r]/\get S1 r=some (eL mss)/\(∀ms∈mss,ms≠[])/\Q ((srt mss).map eT) S1
theorem fQ (hK:X.K=K) (hex:X.ex=[]) (hg:Gl X "sorted") (hm:X.mg "sorted"=none) (hb:bootBuiltins "sorted"=some (.builtin "sorted")) (ha:VA K X false [e] tr vr) (he:starEach [e] X.env=[(false,eval e X.env)]:=by rfl) :
  VN K X (.Call (.Name "sorted" p) [e] [] pos) (tCB (tP K) tr) (t6 vr):=
 ⟨by subst hK;exact iK nJ hg hm hb ha.pe (by decide) (by decide) he rfl,fun H0 Z σ H S Q C k t hc=>ha.snd H0 Z σ H S _ _ k t fun vs H1 rs S1 k1 st1 rrs zq1=>by
  obtain ⟨r,mss,e1,e2,h1,q⟩:=zq1
  subst e1
  obtain ⟨v,rfl,rv⟩:=rrs.one
  obtain ⟨a,ys,rfl,hq,rr⟩:=rv.elems k1 e2
  obtain ⟨ps,rfl,ht,_⟩:=jQ rr
  exact ⟨a,ps,mss,rfl,hq,ht,h1,fun l ps' hl ht'=>hc l _ _ H1 _ S1 k1 st1 hl (aY hl) aK (bU hl (fD k1.tupN ht')) q⟩⟩
noncomputable def t7 (QN:List D->List Sl->Prop):List VR->List Sl->Prop:=fun rs S1=>∃r mss,rs=[r]/\get S1 r=some (eL mss)/\(∀ms∈mss,ms≠[])/\QN ((srt mss).map eT) S1
theorem xw (h:vr S (t7 QN)):t6 vr S QN:=h
theorem fR (e:get S r=some (eL mss)) (h1:∀ms∈mss,ms≠[]) (h:QN ((srt mss).map eT) S):t7 QN [r] S:=⟨r,mss,rfl,e,h1,h⟩
variable {va:VT}
noncomputable def t8 (QN:List D->List Sl->Prop):VR->List Sl->Prop:=fun r S1=>∃kvs,r=.d (dc kvs)/\QN (itD kvs) S1
theorem xy (h:va S (t8 QN)):tX va S QN:=h
theorem t9 (h:QN (itD kvs) S):t8 QN (.d (dc kvs)) S:=⟨kvs,rfl,h⟩
end
end VL
end
section
namespace L2
open PySem PySem.Spec PyProof.Rows
section
variable {prog:Program} {w:World} {A:Around} {E:Value->Shared->Prop} {s:Shared}
noncomputable def KyIt (h:Heap) (it d:Addr) (i n ep:Nat):Prop:=h.get? it=some { cls:=.type "dict_keyiterator",data:=.fields #[.ref d,.int i 0,.int n 0,.int ep 0] }
theorem qw:Builtin.Dict_items.ownsTuple "dict_keyiterator"=false:=by decide
theorem ir {it:Addr} {Q:Nat->Shared->Prop} (ty:s.TypeIs (.ref it) "dict_keyiterator") (h:Q 0 s) :
  wpAny (model prog w) A (typeNameOfWhole (.ref it) >>= fun n=>pure (if Builtin.Dict_items.ownsTuple n=true then 2 else 0)) Q E s:=
 wpAny_bind (wpAny_typeNameOfWhole_keyiter ty (wpAny_pure (by rw [qw];exact h)))
theorem xA {it d:Addr} {i ep:Nat} {o:Obj} {es:Array DictEntry} {Q:Option Value->Shared->Prop} (hit:KyIt s.heap it d i es.size ep) (ho:s.heap.get? d=some o) (hd:o.data=.dict es ep) (hi:i < es.size)
  (hQ:∀h',KyIt h' it d (i+1) es.size ep->(∀b u,b≠it->s.heap.get? b=some u->h'.get? b=some u)->Q (some es[i].key) { s with heap:=h' }):wpAny (model prog w) A (pyNext (.ref it)) Q E s:=by
 have ty:s.TypeIs (.ref it) "dict_keyiterator":=⟨_,hit,rfl⟩
 unfold pyNext
 refine wpAny_bind (wpAny_attempt (wpAny_callSpecial?_slot (name:=Str.ofString "__next__") ty F.slot_dict_keyiterator_next (wpAny_call_entry F.slot_dict_keyiterator_next ty F.entry_dict_keyiterator_next ?_ (F.args_dict_keyiterator_next_1 _))))
 refine wpAny_bind (wpAny_pure (wpAny_bind (wpAny_bind (ir ty (wpAny_bind (wpAny_fieldsOf hit rfl ?_))))))
 show wpAny _ _ (if (Value.ref d==Value.none)=true then _ else _) _ _ s
 rw [if_neg (fun z:(Value.ref d==Value.none)=true=>Bool.false_ne_true z)]
 refine wpAny_bind (wpAny_pure (wpAny_bind (wpAny_dictEntries ho hd ?_)))
 rw [if_neg (by simp)]
 refine wpAny_bind (wpAny_pure (wpAny_bind (wpAny_dictEpoch ho hd ?_)))
 rw [if_neg (by simp)]
 refine wpAny_pure ?_
 have hx:(if ((i:Nat):Int) < 0 then none else es[((i:Nat):Int).toNat]?)=some es[i]:=by rw [if_neg (by lia),Int.toNat_natCast];exact Array.getElem?_eq_getElem hi
 dsimp only
 rw [hx]
 refine wpAny_bind (ir ty (wpAny_bind (wpAny_isOneOf_keyiter ty (wpAny_bind (wpAny_setField_rec hit (k:=1) (by simp) fun g e b=>?_)))))
 have e':KyIt g it d (i+1) es.size ep:=by
  have z:((i+1:Nat):Int)=(i:Int)+1:=by lia
  unfold KyIt;rw [z];exact e
 refine wpAny_bind (wpAny_holding (wpAny_bind (wpAny_isOneOf_keyiter (s:={ s with heap:=g }) ⟨_,e',rfl⟩ ?_)))
 exact wpAny_pure (wpAny_pure ⟨_,rfl,wpAny_pure (hQ g e' fun c u hn z=>(b.2 c hn).trans z)⟩)
theorem BV {it d:Addr} {i ep:Nat} {o:Obj} {es:Array DictEntry} {Q:Option Value->Shared->Prop} (hh:A.handled=none) (hit:KyIt s.heap it d i es.size ep) (ho:s.heap.get? d=some o) (hd:o.data=.dict es ep) (hi:es.size<=i)
  (hQ:∀h',Heap.ExtBut it s.heap h'->Q none { s with heap:=h' }):wpAny (model prog w) A (pyNext (.ref it)) Q E s:=by
 have ty:s.TypeIs (.ref it) "dict_keyiterator":=⟨_,hit,rfl⟩
 unfold pyNext
 refine wpAny_bind (wpAny_attempt (wpAny_callSpecial?_slot (name:=Str.ofString "__next__") ty F.slot_dict_keyiterator_next (wpAny_call_entry F.slot_dict_keyiterator_next ty F.entry_dict_keyiterator_next ?_ (F.args_dict_keyiterator_next_1 _))))
 refine wpAny_bind (wpAny_pure (wpAny_bind (wpAny_bind (ir ty (wpAny_bind (wpAny_fieldsOf hit rfl ?_))))))
 show wpAny _ _ (if (Value.ref d==Value.none)=true then _ else _) _ _ s
 rw [if_neg (fun z:(Value.ref d==Value.none)=true=>Bool.false_ne_true z)]
 refine wpAny_bind (wpAny_pure (wpAny_bind (wpAny_dictEntries ho hd ?_)))
 rw [if_neg (by simp)]
 refine wpAny_bind (wpAny_pure (wpAny_bind (wpAny_dictEpoch ho hd ?_)))
 rw [if_neg (by simp)]
 refine wpAny_pure ?_
 have hx:(if ((i:Nat):Int) < 0 then none else es[((i:Nat):Int).toNat]?)=none:=by rw [if_neg (by lia),Int.toNat_natCast];exact Array.getElem?_eq_none hi
 dsimp only
 rw [hx]
 refine wpAny_bind (ir ty (wpAny_bind (wpAny_setField hit rfl (by simp) ?_)))
 unfold newExc newTuple
 refine wpAny_bind (wpAny_bind (wpAny_newObj_type (wpAny_bind (m:=firstArgMember _ _) (wpAny_of_eq (a:=Value.none) (by first | rfl | (simp only [firstArgMember];rfl)) (wpAny_newObj_type (wpAny_raiseNew_none (show A.in1.handled=none from hh) ?_) (by size_fits)))) (by size_fits)))
 refine wpAny_bind (wpAny_isInstance (b:=true) (T:="StopIteration") ⟨_,Heap.get?_push_size _ rfl,rfl⟩ isSubtype_stop (wpAny_pure (hQ _ ?_)))
 intro b u hn e
 exact Heap.get?_push_of_some _ (Heap.get?_push_of_some _ (((Heap.SameBut.update ..).2 b hn).trans e))
theorem xB {d:Addr} {o:Obj} {es:Array DictEntry} {ep:Nat} {Q:Value->Shared->Prop} (ty:s.TypeIs (.ref d) "dict") (hs:(d==sysModules)=false) (ho:s.heap.get? d=some o) (hd:o.data=.dict es ep)
  (h:Q (.ref s.heap.objs.size) { s with heap:=s.heap.push { cls:=.type "dict_keyiterator",data:=.fields #[.ref d,.int 0 0,.int es.size 0,.int ep 0] } }):wpAny (model prog w) A (pyIter (.ref d)) Q E s:=by
 refine wpAny_pyIter_slot ty F.slot_dict_iter (wpAny_call_entry F.slot_dict_iter ty F.entry_dict_iter (wpAny_bind (wpAny_bind (wpAny_notOrdered_dict ty (wpAny_pure ?_)))) (F.args_dict_iter_1 _))
 refine wpAny_bind (m:=Builtin.Dict.showsAll d) ?_
 unfold Builtin.Dict.showsAll
 rw [if_neg (by rw [hs];exact Bool.false_ne_true)]
 refine wpAny_pure (wpAny_bind (wpAny_dictEntries ho hd (wpAny_bind (wpAny_dictEpoch ho hd (wpAny_bind (wpAny_newObj_type (wpAny_pure ⟨_,rfl,"dict_keyiterator",_,⟨_,Heap.get?_push_size _ rfl,rfl⟩,F.slot_dict_keyiterator_next.lookup,?_⟩)))))))
 simpa [rawInt] using h
end
noncomputable def Itk (d:Addr) (ob:Obj) (es:List (List Int×Addr×V)):It:=
 ⟨fun i H=>H d=some (bG d ob es)/\i < es.length,fun i H x H'=>∃e,es[i]?=some e/\x=.ref e.2.1/\H'=H,fun i H=>H d=some (bG d ob es)/\es.length<=i⟩
theorem qx {P:Program} {w:World} {tg:Expr} (it d:Addr) (ob:Obj) (es:List (List Int×Addr×V)) (ds:Array DictEntry) (ep:Nat) (hob:ob.data=.dict ds ep) :
  Turn P w K tg (Itk d ob es) [it] it (fun i h=>KyIt h it d i ds.size ep) where
 mem:=by simp
 obj:=fun i h st b hb=>by
  have e:b=it:=by simpa using hb
  subst e
  exact ⟨_,st,fun v z=>by
   have z':Data.fields _=Data.cell v:=z
   cases z'⟩
 keep:=fun i h h' st k=>k it (by simp) _ st
 item:=by
  rintro X hP hw hK hc i pins s σ H E I hf st ⟨hd,hi⟩
  subst hP hw hK
  obtain ⟨f0,f1,f2,f3,f4,f5⟩:=hf it (by simp)
  obtain ⟨⟨z,m,nd,xs,ev,o,ds',ep',g1,g2,g3,g4⟩,g5⟩:=dH I hd
  rw [g5] at g1;cases g1
  rw [hob] at g3;cases g3
  obtain ⟨e,he⟩:∃e,es[i]?=some e:=⟨_,List.getElem?_eq_getElem hi⟩
  obtain ⟨x,hx,ek,rv⟩:=ev.pick he
  have hxl:i < xs.length:=by have:=Paired.length ev;lia
  have hds:ds.size=xs.length:=by have:=congrArg List.length g4;simpa using this
  have hent:ds[i]'(by lia)=rC x:=by
   have h1:ds.toList[i]?=some (rC x):=by rw [g4,List.getElem?_map,hx];rfl
   rw [Array.getElem?_toList,Array.getElem?_eq_getElem (by lia)] at h1
   exact Option.some.inj h1
  refine xA st g5 hob (by lia) fun h' a1 a2=>⟨_,rfl,qY (s:={ s with heap:=h' }) a1 rfl rfl (by decide) ?_⟩
  refine ⟨.ref e.2.1,H,I.turned (t':=s.toks) (fun b o hb q=>a2 b o hb q) f0 f1 f3 f4 f5,?_,⟨e,he,rfl,rfl⟩,a1,fun b hb=>?_⟩
  ·rw [hent,ek];rfl
  ·have e':b=it:=by simpa using hb
   subst e';exact f0
 done:=by
  rintro X hP hw hK hc i pins s σ H E I hf st ⟨hd,hi⟩
  subst hP hw hK
  obtain ⟨f0,f1,f2,f3,f4,f5⟩:=hf it (by simp)
  obtain ⟨⟨z,m,nd,xs,ev,o,ds',ep',g1,g2,g3,g4⟩,g5⟩:=dH I hd
  rw [g5] at g1;cases g1
  rw [hob] at g3;cases g3
  have hds:ds.size=xs.length:=by have:=congrArg List.length g4;simpa using this
  have:=Paired.length ev
  exact BV (I.ok.hd hc) st g5 hob (by lia) fun h' eb=>⟨rfl,I.turned (t':=s.toks) (fun b o hb e=>eb b o hb e) f0 f1 f3 f4 f5⟩
 self:=fun _ _ _ _ _ st h=>wpAny_pyIter_keyiter ⟨_,st,rfl,rfl⟩ h
section
variable {X:Cx}
noncomputable def zr (to:TE):TI:=fun σ H R=>to σ H fun x H1=>∃d ob es,x=.ref d/\H1 d=some (bG d ob es)/\R (Itk d ob es) H1
theorem xC {tg o:Expr} {to:TE} (ho:PE X o to):PI X tg o (zr to):=by
 intro pins s σ H R I h
 refine thn (ho pins s σ H _ I h) fun v s1 zr1=>?_
 obtain ⟨x,H1,I1,r1,d,ob,es,hx,hd,q1⟩:=zr1
 subst hx
 cases r1
 obtain ⟨⟨z,m,nd,xs,ev,o',ds,ep,g1,g2,g3,g4⟩,g5⟩:=dH I1 hd
 rw [g5] at g1;cases g1
 refine xB ⟨_,g5,g2.1⟩ m g5 g3 ⟨s1.heap.objs.size,[s1.heap.objs.size],_,_,H1,rfl,I1.kept (t':=s1.toks) fun b u q=>Heap.get?_push_of_some _ q,qx _ d ob es ds ep g3,Heap.get?_push_size _ rfl,fun b hb=>?_,q1⟩
 have e:b=s1.heap.objs.size:=by simpa using hb
 subst e
 exact I1.fpOk (Nat.le_refl _) (I1.hok.fresh (Nat.le_refl _))
end
end L2
namespace VL
open PySem L2
section
variable {K:PySem.W.Frag} {X:Cx} {e o tg:Expr} {te:TE} {va:VT} {S:List Sl} {QN:List D->List Sl->Prop}
noncomputable def zt (va:VT):VTN:=fun S Q=>va S fun r S1=>∃kvs,r=.d (dc kvs)/\Q ((kvs.map (·.1)).map kT) S1
theorem xD (h:VE K X false o te va):VI K X tg o (zr te) (zt va):=⟨xC h.pe,fun H0 Z σ H S Q C k t hc=>h.snd H0 Z σ H S _ _ k t fun v H1 r S1 k1 st1 rr zq1=>by
 obtain ⟨kvs,er,q⟩:=zq1
 subst er
 have rr:Rep K _ _ H1 v (.dic (kvs.map (·.1)) (kvs.map (·.2))):=rr
 cases rr with
 | @dic a ob es _ _ n f hh ek rk r=>
 refine ⟨a,ob,es,rfl,hh,hc _ ((kvs.map (·.1)).map kT) H1 S1 k1 st1 (fun σ2 S2 H2 nm st2 i=>?_) q⟩
 obtain ⟨e1,n1⟩:=st2 a n (by rw [hh];exact fun z=>nomatch z)
 have hh2:H2 a=some (bG a ob es):=e1.trans hh
 have len:((kvs.map (·.1)).map kT).length=es.length:=by have:=congrArg List.length ek;simp at this ⊢;lia
 rw [len]
 refine ⟨fun hi=>⟨hh2,hi⟩,fun x H3 zr1 hi=>?_,fun hi=>⟨hh2,by lia⟩⟩
 obtain ⟨en,he,hx,hH⟩:=zr1
 subst hx;subst hH
 have rk2:=(rk.stp st2).mono (N':=NM Z σ2 S2) (F':=AnyF) (H':=H3) (fun b n z=>⟨n,rfl⟩) fun _ _=>trivial
 obtain ⟨dk,hk1,hk2⟩:=rk2.get (i:=i) (v:=.ref en.2.1) (by rw [List.getElem?_map,he];rfl)
 exact ⟨fun _ _=>rfl,dk,hk1,hk2⟩⟩
noncomputable def zu (QN:List D->List Sl->Prop):VR->List Sl->Prop:=fun r S1=>∃kvs,r=.d (dc kvs)/\QN ((kvs.map (·.1)).map kT) S1
theorem BW (h:va S (zu QN)):zt va S QN:=h
theorem xE (h:QN ((kvs.map (·.1)).map kT) S):zu QN (.d (dc kvs)) S:=⟨kvs,rfl,h⟩
end
end VL
end
section
namespace VL
open PySem L2
section
variable {K:PySem.W.Frag} {X:Cx} {stm:Stmt} {ts:TS} {t:VTS}
theorem oX:∀{S:List Sl} {i:Nat} {ks:List (List Int)} {ds:List D},S[i]?=some (.odi ks ds)->Wk S (S.set i (.val (.dic ks ds)))
 | [],i,_,_,h=>by simp at h
 | s::r,0,ks,ds,h=>by
  have e:s=.odi ks ds:=by simpa using h
  subst e
  exact .fd (Wk.refl r)
 | s::r,i+1,ks,ds,h=>Wk.keep (oX (by simpa using h))
noncomputable def zv (i:Nat) (t:VTS):VTS:=fun V S=>∃kvs,S[i]?=some (od kvs)/\t V (S.set i (.val (dc kvs)))
theorem xF (i:Nat) (h:VS K X stm ts t):VS K X stm ts (zv i t):=⟨h.ps,fun H0 Z σ H S V E k zq1 l=>by
 obtain ⟨kvs,e,t⟩:=zq1
 obtain ⟨k',st⟩:=k.wk (oX e)
 exact h.snd H0 Z σ H _ V E k' t (l.step st)⟩
theorem BX {i:Nat} {V:bh} (e:S[i]?=some (od kvs)) (h:t V (S.set i (.val (dc kvs)))):zv i t V S:=⟨kvs,e,h⟩
end
end VL
end
section
namespace L2
open PySem PySem.Spec PyProof.Rows
section
variable {X:Cx}
noncomputable def ua (K:PySem.W.Frag):V->V->Hp->VK->Prop:=fun x y H Q=>∃b a ms es v,y=.ref b/\x=.ref a/\SqN K H b ms/\(∃ob,H a=some (bG a ob es))/\cg K H es/\atE es ms=some v/\Q v H
theorem xG (hu:X.A.units+64 < cLine):Fs X (ua X.K):=by
 rintro pins s σ H o i ov iv Q I r1 r2 ⟨b,a,ms,es,v,ey,ex,h1,⟨ob,h2⟩,h3,hv,q⟩
 subst ex;subst ey
 cases r1;cases r2
 obtain ⟨z,m,nd,xs,ev,dd⟩:=fJ I h2 h3
 have r:=ev.at_ ms
 rw [hv] at r
 cases h5:atKey xs ms with
 | none=>rw [h5] at r;exact r.elim
 | some p=>
  rw [h5] at r
  exact wpAny_getItem_heap (tupleKind_room_in1 (by lia)) (de I h1) dd h5 ⟨v,H,I.tok _,r,q⟩
end
end L2
end
section
namespace VL
open PySem L2
section
variable {K:PySem.W.Frag} {X:Cx} {c e tg:Expr} {a:List Stmt} {tc:TT} {vt:VTT} {ta:TS} {wi:TI} {vi:VTN} {j:Nat} {pos ipos:Pos} {S:List Sl}
noncomputable def ub (S:List Sl):Prop:=∀(i:Nat) (s:Sl),S[i]?=some s->s.mut=false
theorem ub.mo (h:ub S) {b:Addr}:Mo Z σ S b↔Z b:=
 ⟨fun m=>by
  rcases m with ⟨k,t,h1,h2,_⟩ | m
  ·rw [h k t h1] at h2;cases h2
  ·exact m,.inr⟩
theorem ub.grow (h:ub S) {H H':Hp} {σ σ':St} {S':List Sl} (st:Step Z σ S H σ' S' H'):∀b,H b≠none->H' b=H b:=fun b hb=>by
 by_cases z:Z b
 ·exact st.2.2 b z hb
 ·exact (st.1 b (fun m=>z (h.mo.mp m)) hb).1
end
end VL
end
section
namespace VL
open PySem L2
section
variable {K:PySem.W.Frag} {N N':AP} {F:FP} {H H' H0:Hp} {Z P:AP} {σ σ':St} {S S':List Sl}
mutual
theorem Rep.mark {v:L2.V} {d:D}:Rep K N F H v d->Rep K N (fun o=>F o/\∀a,o=some a->N a/\IsM (H a)) H v d
 | .int i=>.int i
 | .bl i=>.bl i
 | .non=>.non
 | .str i=>.str i
 | .ty i=>.ty i
 | .tup n h r=>.tup n h (Reps.mark r)
 | .tupK h r=>.tupK h (Reps.mark r)
 | .lst n f h r=>.lst n ⟨f,fun a e=>by cases e;exact ⟨n,by rw [h];trivial⟩⟩ h (Reps.mark r)
 | .lstF n f h r=>.lstF n ⟨f,fun a e=>nomatch e⟩ h (Reps.mark r)
 | .lstK f h r=>.lstK ⟨f,fun a e=>nomatch e⟩ h (Reps.mark r)
 | .dic n f h e rk r=>.dic n ⟨f,fun a e=>by cases e;exact ⟨n,by rw [h];trivial⟩⟩ h e (Reps.mark rk) (Reps.mark r)
 | .exc n h e=>.exc n h e
 | .dib n f h e g rk r=>.dib n ⟨f,fun a e=>by cases e;exact ⟨n,by rw [h];trivial⟩⟩ h e g (Reps.mark rk) (Reps.mark r)
theorem Reps.mark {vs:List L2.V} {ds:List D}:Reps K N F H vs ds->Reps K N (fun o=>F o/\∀a,o=some a->N a/\IsM (H a)) H vs ds
 | .nil=>.nil
 | .cons h t=>.cons (Rep.mark h) (Reps.mark t)
end
end
end VL
end
section
namespace L2
open PySem PySem.Spec PyProof.Rows PySem.W
section
variable {X:Cx}
noncomputable def uc (K:PySem.W.Frag):R2:=fun x y H Q=>∃l b xs zs,x=.ref l/\y=.ref b/\SqL K H l xs/\SqL K H b zs/\xs.length+zs.length<=sizeLine/\∀p,H p=none->Q (.ref p) (upd H p (.lst (xs++zs)))
theorem ud:OpR X (binaryOp .Add) (uc X.K):=by
 rintro pins s σ H x y v u Q I rx ry ⟨l,b,xs,zs,e1,e2,hR,hB,hz,q⟩
 subst e1;subst e2
 cases rx;cases ry
 obtain ⟨its,r,⟨⟨cls,dd,data,sl⟩,n,e,hc,hd,hs⟩,z⟩:=I.list hR
 obtain ⟨its2,r2,⟨⟨cls2,dd2,data2,sl2⟩,n2,e2,hc2,hd2,hs2⟩,z2⟩:=I.list hB
 have hl:=r.length
 have hl2:=r2.length
 cases (show cls=.type "list" from hc)
 cases (show data=.seq its.toArray n from hs)
 cases (show cls2=.type "list" from hc2)
 cases (show data2=.seq its2.toArray n2 from hs2)
 have sum:its.toArray.size+its2.toArray.size<=sizeLine:=by simp only [List.size_toArray];lia
 refine concat_meets (T:="list") ⟨_,e,rfl⟩ ⟨_,e2,rfl⟩ noFill_list_add seq_list_add F.slot_list_add F.entry_list_add (F.args_list_add_2 _ _) (list_addW l b _ _ n n2 dd dd2 sl sl2 sum) ⟨e,e2,?_⟩
 rw [List.append_toArray]
 exact ⟨.ref _,_,I.lnew (t':=s.toks) (r.append r2) (by rw [List.length_append];lia),rfl,q _ I.fresh⟩
end
end L2
end
section
namespace L2
open PySem PySem.Spec PyProof.Rows
theorem ue {X:Cx} (hu:X.A.units+64 < cLine):IxR X (ua X.K):=by
 intro value slice pins s σ H x y v u Q I rx ry h hs
 have g:=xG hu pins s σ H x y v u Q I rx ry h
 obtain ⟨b,a,ms,es,z,ey,ex,h1,⟨ob,h2⟩,_⟩:=h
 subst ex
 cases rx
 obtain ⟨_,_,_,_,_,o,_,_,z1,z2,_⟩:=fw I h2
 exact tail_any ⟨_,z1,z2.1⟩ slot_dict_getitem.lookup g hs
end L2
namespace VL
open PySem L2
section
variable {K:PySem.W.Frag} {X:Cx} {m:Bool} {o ie:Expr} {to ti:TE} {vo vi:VT} {pos:Pos} {S:List Sl} {Q:VR->List Sl->Prop}
noncomputable def EI (vo vi:VT):VT:=fun S Q=>vo S fun r S1=>vi S1 fun rk S2=>∃kvs ms i,get S2 r=some (dc kvs)/\get S2 rk=some (kT ms)/\dA kvs ms=some (.int i)/\Q (.d (.int i)) S2
theorem BY (hK:X.K=K) (hu:X.A.units+64 < cLine) (ho:VE K X false o to vo) (hi:VE K X false ie ti vi) (hs:cV ie):VE K X m (.Subscript o ie pos) (tOp (ua K) to ti) (EI vo vi):=
 ⟨by subst hK;exact lM (ue hu) ho.pe hi.pe hs,fun H0 Z σ H S Q C k t hc=>by
  refine ho.snd H0 Z σ H S _ _ k t fun x H1 ra S1 k1 st1 r1 t1=>?_
  refine hi.snd H0 Z σ H1 S1 _ _ k1 t1 fun y H2 rb S2 k2 st2 r2 zr1=>?_
  obtain ⟨kvs,ms,i,e1,e2,ei,q⟩:=zr1
  obtain ⟨b,vs,rfl,hq,rr⟩:=Rep.sqT (show Rep K _ _ H2 y (.tup (ms.map D.int)) from r2.get k2 e2)
  cases Reps.toInts rr
  obtain ⟨a,es,rfl,_,_,ha,ek,hk,_,rv⟩:=Rep.dct (show Rep K _ _ H2 x (.dic _ _) from (r1.step st2).get k2 e1)
  rcases fN (k:=ms) ek rv with ⟨z1,z2⟩ | ⟨v,d,z1,z2,r⟩
  ·rw [z2] at ei;cases ei
  ·rw [z2] at ei
   cases ei
   cases r
   exact ⟨b,a,ms,es,.int i,rfl,rfl,SqN.of hq,ha,hk,z1,hc _ H2 (.d (.int i)) S2 k2 (st1.trans st2) (Rep.int i) q⟩⟩
noncomputable def zw (vi:VT) (Q:VR->List Sl->Prop):VR->List Sl->Prop:=fun r S1=>vi S1 fun rk S2=>∃kvs ms i,get S2 r=some (dc kvs)/\get S2 rk=some (kT ms)/\dA kvs ms=some (.int i)/\Q (.d (.int i)) S2
noncomputable def zx (r:VR) (Q:VR->List Sl->Prop):VR->List Sl->Prop:=fun rk S2=>∃kvs ms i,get S2 r=some (dc kvs)/\get S2 rk=some (kT ms)/\dA kvs ms=some (.int i)/\Q (.d (.int i)) S2
theorem EJ (h:vo S (zw vi Q)):EI vo vi S Q:=h
theorem xH (h:vi S (zx r Q)):zw vi Q r S:=h
theorem xJ {r rk:VR} {i:Int} (e1:get S r=some (dc kvs)) (e2:get S rk=some (kT ms)) (e3:dA kvs ms=some (.int i)) (h:Q (.d (.int i)) S):zx r Q rk S:=⟨kvs,ms,i,e1,e2,e3,h⟩
end
end VL
end
section
namespace VL
open PySem L2
section
variable {P:Program} {w:World} {K:PySem.W.Frag} {mg:Str->Option Value} {base:Heap}
noncomputable def dS (n:Nat) (ds:List D):List Sl:=ds.map .fre++List.replicate (n-ds.length) .no
theorem gH {n:Nat} {i:Nat} {s:Sl} (h:(dS n ds)[i]?=some s):s=.no\/∃d,s=.fre d/\ds[i]?=some d:=by
 unfold dS at h
 by_cases hi:i < ds.length
 ·rw [List.getElem?_append_left (by simpa using hi)] at h
  simp [hi] at h
  subst h
  exact .inr ⟨_,rfl,by simp [hi]⟩
 ·rw [List.getElem?_append_right (by simpa using hi)] at h
  exact .inl (List.eq_of_mem_replicate (List.mem_of_getElem? h))
theorem df (n:Nat) (ds:List D):ub (dS n ds):=fun i s h=>by
 rcases gH h with rfl | ⟨d,rfl,_⟩ <;> rfl
end
end VL
end
section
namespace ST
open PySem PySem.SetTable
noncomputable def adv (mask:Nat) (p:Probe):Probe:=
 if p.more > 0 then { p with j:=p.j+1,more:=p.more-1 } else
 { p with j:=(leap mask p.i p.perturb).1,more:=runEnd mask (leap mask p.i p.perturb).1-(leap mask p.i p.perturb).1,i:=(leap mask p.i p.perturb).1,perturb:=(leap mask p.i p.perturb).2 }
noncomputable def at0 (mask i pt:Nat):Probe:={ j:=i,more:=runEnd mask i-i,i,perturb:=pt,dummy:=none }
noncomputable def pth (mask b:Nat):Nat->Probe
 | 0=>at0 mask (b%(mask+1)) b
 | s+1=>adv mask (pth mask b s)
noncomputable def lp (mask b:Nat):Nat->Nat×Nat
 | 0=>(b%(mask+1),b)
 | n+1=>leap mask (lp mask b n).1 (lp mask b n).2
theorem j8 (mask i:Nat):i<=runEnd mask i/\runEnd mask i<=i+9:=by unfold runEnd;split <;> lia
theorem jc {mask i:Nat} (h:i<=mask):runEnd mask i<=mask:=by unfold runEnd;split <;> lia
theorem gI {mask b s i pt:Nat} (h:pth mask b s=at0 mask i pt):∀k,k<=runEnd mask i-i->pth mask b (s+k)={ at0 mask i pt with j:=i+k,more:=runEnd mask i-i-k }
 | 0,_=>h
 | k+1,hk=>by
  have ih:=gI h k (by lia)
  show adv mask (pth mask b (s+k))=_
  rw [ih]
  unfold adv
  rw [if_pos (show runEnd mask i-i-k > 0 by lia)]
  simp only [at0,Probe.mk.injEq]
  exact ⟨by lia,by lia,trivial,trivial,trivial⟩
theorem oY {mask b s i pt:Nat} (h:pth mask b s=at0 mask i pt):pth mask b (s+(runEnd mask i-i)+1)=at0 mask (leap mask i pt).1 (leap mask i pt).2:=by
 have r:=gI h _ (Nat.le_refl _)
 show adv mask (pth mask b (s+(runEnd mask i-i)))=_
 rw [r]
 unfold adv
 rw [if_neg (show ¬ runEnd mask i-i-(runEnd mask i-i) > 0 by lia)]
 rfl
theorem uf (mask b:Nat):∀L,∃s,s<=10*L/\pth mask b s=at0 mask (lp mask b L).1 (lp mask b L).2
 | 0=>⟨0,Nat.le_refl _,rfl⟩
 | L+1=>by
  obtain ⟨s,h1,h2⟩:=uf mask b L
  have:=j8 mask (lp mask b L).1
  exact ⟨_,by lia,oY h2⟩
theorem ug (mask b:Nat):∀L,(lp mask b L).1<=mask
 | 0=>Nat.lt_succ_iff.mp (Nat.mod_lt _ (Nat.succ_pos _))
 | L+1=>Nat.lt_succ_iff.mp (Nat.mod_lt _ (Nat.succ_pos _))
theorem zy (mask b:Nat):∀L,(lp mask b L).2=b / 32 ^ L
 | 0=>by simp [lp]
 | L+1=>by
  show (lp mask b L).2 / 32=_
  rw [zy mask b L,Nat.div_div_eq_div_mul,Nat.pow_succ]
theorem BZ {mask b L:Nat} (hb:b < 2 ^ 64) (hL:13<=L):(lp mask b L).2=0:=by
 rw [zy]
 refine Nat.div_eq_of_lt (Nat.lt_of_lt_of_le hb ?_)
 exact Nat.le_trans (show 2 ^ 64<=32 ^ 13 by decide) (Nat.pow_le_pow_right (by decide) hL)
noncomputable def un:Nat->Nat->Nat
 | 0,x=>x
 | n+1,x=>5*un n x+1
theorem nL (a x:Nat):∀b,un (a+b) x=un b (un a x)
 | 0=>rfl
 | b+1=>by show 5*un (a+b) x+1=5*un b (un a x)+1;rw [nL a x b]
theorem uh:∀k,∃e c,e=2 ^ k*(2*c+1)/\∀x,un (2 ^ k) x=(1+4*e)*x+e
 | 0=>⟨1,0,rfl,fun x=>by show 5*x+1=_;lia⟩
 | k+1=>by
  obtain ⟨e,c,h1,h2⟩:=uh k
  refine ⟨2*e*(1+2*e),c+e*(2*c+1),?_,fun x=>?_⟩
  ·rw [Nat.pow_succ];subst h1;generalize 2 ^ k=m;grind
  ·rw [Nat.pow_succ,show 2 ^ k*2=2 ^ k+2 ^ k by lia,nL,h2,h2]
   grind
theorem cover:∀k x y,y < 2 ^ k->∃n,n < 2 ^ k/\un n x%2 ^ k=y
 | 0,x,y,h=>⟨0,by decide,by simp at h ⊢;lia⟩
 | k+1,x,y,h=>by
  have pk:0 < 2 ^ k:=Nat.pow_pos (by decide)
  rw [Nat.pow_succ] at h ⊢
  obtain ⟨n,hn,e⟩:=cover k x (y%2 ^ k) (Nat.mod_lt _ pk)
  obtain ⟨q,c,h1,h2⟩:=uh k
  generalize hz:un n x%(2 ^ k*2)=z at *
  have zl:z < 2 ^ k*2:=by rw [<- hz];exact Nat.mod_lt _ (by lia)
  have zm:z%2 ^ k=y%2 ^ k:=by
   rw [<- e,<- hz]
   exact Nat.mod_mul_right_mod _ _ _
  by_cases hy:z=y
  ·exact ⟨n,by lia,by lia⟩
  ·refine ⟨n+2 ^ k,by lia,?_⟩
   rw [nL,h2]
   have s1:(1+4*q)*un n x+q=un n x+2 ^ k+(2 ^ k*2)*(c+2*(2*c+1)*un n x):=by
    rw [h1]
    generalize 2 ^ k=m
    generalize un n x=u
    grind
   rw [s1,Nat.add_mul_mod_self_left,Nat.add_mod,hz]
   have w1:2 ^ k%(2 ^ k*2)=2 ^ k:=Nat.mod_eq_of_lt (by lia)
   rw [w1]
   have d1:=Nat.mod_add_div z (2 ^ k)
   have d2:=Nat.mod_add_div y (2 ^ k)
   have c1:z / 2 ^ k < 2:=Nat.div_lt_of_lt_mul zl
   have c2:y / 2 ^ k < 2:=Nat.div_lt_of_lt_mul h
   have two:∀a:Nat,a < 2->a=0\/a=1:=fun a h=>by lia
   have c3:z / 2 ^ k=0\/z / 2 ^ k=1:=two _ c1
   have c4:y / 2 ^ k=0\/y / 2 ^ k=1:=two _ c2
   have ml:z%2 ^ k < 2 ^ k:=Nat.mod_lt _ pk
   rcases c3 with c3 | c3 <;> rcases c4 with c4 | c4 <;> rw [c3] at d1 <;> rw [c4] at d2
   ·exact absurd (by lia) hy
   ·rw [Nat.mod_eq_of_lt (show z+2 ^ k < 2 ^ k*2 by lia)];lia
   ·rw [show z+2 ^ k=z%2 ^ k+2 ^ k*2 by lia,Nat.add_mod_right,Nat.mod_eq_of_lt (show z%2 ^ k < 2 ^ k*2 by lia)];lia
   ·exact absurd (by lia) hy
theorem zz {mask b:Nat} (hb:b < 2 ^ 64):∀n,(lp mask b (13+n)).1=un n (lp mask b 13).1%(mask+1)
 | 0=>(Nat.mod_eq_of_lt (Nat.lt_succ_iff.mpr (ug _ _ _))).symm
 | n+1=>by
  show ((lp mask b (13+n)).1*5+1+(lp mask b (13+n)).2 / 32)%(mask+1)=(5*un n (lp mask b 13).1+1)%(mask+1)
  rw [BZ hb (by lia),zz hb n,Nat.zero_div,Nat.add_zero,Nat.add_mod,Nat.mul_mod,Nat.mod_mod,<- Nat.mul_mod,<- Nat.add_mod,Nat.mul_comm]
theorem ui {mask b k y:Nat} (hk:mask+1=2 ^ k) (hb:b < 2 ^ 64) (hy:y<=mask):∃L,L<=13+mask/\(lp mask b L).1=y:=by
 obtain ⟨n,hn,e⟩:=cover k (lp mask b 13).1 y (by lia)
 exact ⟨13+n,by lia,by rw [zz hb,hk];exact e⟩
theorem xK {mask b k y:Nat} (hk:mask+1=2 ^ k) (hb:b < 2 ^ 64) (hy:y<=mask):∃s,s<=10*(13+mask)/\(pth mask b s).j=y:=by
 obtain ⟨L,hL,e⟩:=ui hk hb hy
 obtain ⟨s,hs,e2⟩:=uf mask b L
 exact ⟨s,by lia,by rw [e2];exact e⟩
theorem oZ (h:Int):bits h < 2 ^ 64:=by
 unfold bits
 have h1:=Int.emod_nonneg h (show (2 ^ 64:Int)≠0 by decide)
 have h2:=Int.emod_lt_of_pos h (show (0:Int) < 2 ^ 64 by decide)
 lia
theorem lg (mask b:Nat):∀s,∃i pt k,i<=mask/\k<=runEnd mask i-i/\pth mask b s={ at0 mask i pt with j:=i+k,more:=runEnd mask i-i-k }
 | 0=>⟨_,b,0,Nat.lt_succ_iff.mp (Nat.mod_lt b (Nat.succ_pos mask)),Nat.zero_le _,rfl⟩
 | s+1=>by
  obtain ⟨i,pt,k,h1,h2,e⟩:=lg mask b s
  show ∃_ _ _,_/\_/\adv mask (pth mask b s)=_
  rw [e]
  by_cases hm:runEnd mask i-i-k > 0
  ·refine ⟨i,pt,k+1,h1,by lia,?_⟩
   unfold adv
   rw [if_pos (show runEnd mask i-i-k > 0 from hm)]
   simp only [at0,Probe.mk.injEq]
   exact ⟨by lia,by lia,trivial,trivial,trivial⟩
  ·refine ⟨(leap mask i pt).1,(leap mask i pt).2,0,Nat.lt_succ_iff.mp (Nat.mod_lt _ (Nat.succ_pos mask)),Nat.zero_le _,?_⟩
   unfold adv
   rw [if_neg (show ¬ runEnd mask i-i-k > 0 from hm)]
   rfl
theorem xM (mask b s:Nat):(pth mask b s).j<=mask:=by
 obtain ⟨i,pt,k,h1,h2,e⟩:=lg mask b s
 rw [e]
 have:=jc h1
 show i+k<=mask
 lia
theorem qy (mask b s:Nat):(pth mask b s).dummy=none:=by
 obtain ⟨i,pt,k,h1,h2,e⟩:=lg mask b s
 rw [e];rfl
theorem jd (xs:Array Nat) (j:Nat) (hr:xs.toList.Pairwise (· < ·)):∀fuel lo hi,hi-lo<=fuel->lo<=hi->hi<=xs.size->(∀i x,i < lo->xs[i]?=some x->x < j)->(∀i x,hi<=i->xs[i]?=some x->j<=x) ->
  below.go xs j fuel lo hi<=xs.size/\(∀i x,i < below.go xs j fuel lo hi->xs[i]?=some x->x < j)/\∀i x,below.go xs j fuel lo hi<=i->xs[i]?=some x->j<=x
 | 0,lo,hi,h1,h2,h3,h4,h5=>by
  have e:lo=hi:=by lia
  unfold below.go
  exact ⟨by lia,h4,by rw [e];exact h5⟩
 | fuel+1,lo,hi,h1,h2,h3,h4,h5=>by
  unfold below.go
  by_cases hl:lo < hi
  ·rw [if_pos hl]
   have hm:(lo+hi) / 2 < xs.size:=by lia
   have eg:xs.getD ((lo+hi) / 2) j=xs[(lo+hi) / 2]:=by simp [Array.getD,hm]
   have up:∀i i' x x',i < i'->xs[i]?=some x->xs[i']?=some x'->x < x':=fun i i' x x' hi' e e'=>by
    rw [List.pairwise_iff_getElem] at hr
    rw [Array.getElem?_eq_some_iff] at e e'
    obtain ⟨a1,a2⟩:=e
    obtain ⟨b1,b2⟩:=e'
    have:=hr i i' (by simpa using a1) (by simpa using b1) hi'
    simp only [Array.getElem_toList] at this
    rw [a2,b2] at this
    exact this
   have em:xs[(lo+hi) / 2]?=some xs[(lo+hi) / 2]:=Array.getElem?_eq_getElem hm
   by_cases hc:xs.getD ((lo+hi) / 2) j < j
   ·rw [if_pos hc]
    rw [eg] at hc
    refine jd xs j hr fuel ((lo+hi) / 2+1) hi (by lia) (by lia) h3 (fun i x hi' e=>?_) h5
    rcases Nat.lt_or_ge i ((lo+hi) / 2) with h | h
    ·have:=up _ _ _ _ h e em;lia
    ·have:i=(lo+hi) / 2:=by lia
     subst this
     rw [em] at e;injection e with e;lia
   ·rw [if_neg hc]
    rw [eg] at hc
    refine jd xs j hr fuel lo ((lo+hi) / 2) (by lia) (by lia) (by lia) h4 (fun i x hi' e=>?_)
    rcases Nat.lt_or_ge ((lo+hi) / 2) i with h | h
    ·have:=up _ _ _ _ h em e;lia
    ·have:i=(lo+hi) / 2:=by lia
     subst this
     rw [em] at e;injection e with e;lia
  ·rw [if_neg hl]
   have el:lo=hi:=by lia
   exact ⟨by lia,h4,by rw [el];exact h5⟩
theorem je {xs:Array Nat} (hr:xs.toList.Pairwise (· < ·)) (j:Nat):below xs j<=xs.size/\(∀i x,i < below xs j->xs[i]?=some x->x < j)/\∀i x,below xs j<=i->xs[i]?=some x->j<=x:=
 jd xs j hr xs.size 0 xs.size (by lia) (Nat.zero_le _) (Nat.le_refl _) (fun i x h=>absurd h (Nat.not_lt_zero _)) (fun i x h e=>by rw [Array.getElem?_eq_none h] at e;cases e)
theorem below_at {xs:Array Nat} (hr:xs.toList.Pairwise (· < ·)) {i j:Nat} (e:xs[i]?=some j):below xs j=i:=by
 obtain ⟨h1,h2,h3⟩:=je hr j
 rcases Nat.lt_trichotomy (below xs j) i with h | h | h
 ·obtain ⟨hi,e'⟩:=Array.getElem?_eq_some_iff.mp e
  have hb:below xs j < xs.size:=by lia
  have:=h3 (below xs j) xs[below xs j] (Nat.le_refl _) (Array.getElem?_eq_getElem hb)
  rw [List.pairwise_iff_getElem] at hr
  have r:=hr (below xs j) i (by simpa using hb) (by simpa using hi) h
  simp only [Array.getElem_toList] at r
  lia
 ·exact h
 ·have:=h2 i j h e;lia
theorem qz {t:SetTable} (hr:t.place.toList.Pairwise (· < ·)) {i j:Nat} (e:t.place[i]?=some j):t.slot j=.live i:=by
 unfold slot
 simp only [below_at hr e,e,beq_self_eq_true,if_true]
theorem nM {t:SetTable} (hd:t.dummies=#[]) (j:Nat):(t.slot j=.empty/\j∉t.place.toList\/∃i,t.slot j=.live i/\t.place[i]?=some j)\/(t.slot j=.empty/\t.place[below t.place j]?≠some j):=by
 unfold slot
 by_cases h:t.place[below t.place j]?=some j
 ·exact .inl (.inr ⟨below t.place j,by simp [h],h⟩)
 ·refine .inr ⟨?_,h⟩
  have hb:(t.place[below t.place j]?==some j)=false:=by simpa using h
  simp only [hb,Bool.false_eq_true,if_false]
  rw [hd]
  rfl
theorem uj {t:SetTable} (hr:t.place.toList.Pairwise (· < ·)) (hd:t.dummies=#[]) (j:Nat):(t.slot j=.empty/\j∉t.place.toList)\/∃i,t.slot j=.live i/\t.place[i]?=some j:=by
 rcases nM hd j with h | ⟨h1,h2⟩
 ·exact h
 ·refine .inl ⟨h1,fun hm=>h2 ?_⟩
  obtain ⟨i,hi,e⟩:=List.mem_iff_getElem.mp hm
  have e2:t.place[i]?=some j:=by
   rw [Array.getElem?_eq_some_iff]
   exact ⟨by simpa using hi,by simpa using e⟩
  rw [below_at hr e2,e2]
theorem dm {α:Type} (xs:Array α) (p:Nat) (x:α):(insertAt xs p x).toList=xs.toList.take p++x::xs.toList.drop p:=by
 unfold insertAt
 simp [Array.toList_extract,List.extract]
 try rw [List.take_of_length_le (by simp)]
theorem gJ {α:Type} [DecidableEq α]:∀{xs g:List α},xs.Nodup->(∀x∈xs,x∈g)->xs.length<=g.length
 | [],_,_,_=>Nat.zero_le _
 | x::r,g,nd,h=>by
  rw [List.nodup_cons] at nd
  have hx:=h x List.mem_cons_self
  have:=gJ (xs:=r) (g:=g.erase x) nd.2 fun y hy=>(List.mem_erase_of_ne (show y≠x from fun e=>nd.1 (by subst e;exact hy))).mpr (h y (List.mem_cons_of_mem _ hy))
  rw [List.length_erase_of_mem hx] at this
  have:0 < g.length:=List.length_pos_of_mem hx
  simp only [List.length_cons];lia
theorem nN {mask:Nat} {g:List Nat} (h:g.length<=mask):∃y,y<=mask/\y∉g:=by
 refine Classical.byContradiction fun hn=>?_
 have:=gJ (xs:=List.range (mask+1)) (g:=g) List.nodup_range fun x hx=>Classical.byContradiction fun hx'=>hn ⟨x,Nat.lt_succ_iff.mp (List.mem_range.mp hx),hx'⟩
 rw [List.length_range] at this
 lia
noncomputable def Rc (mask:Nat) (g:List Nat) (j:Nat) (h:Int):Prop:=∃s,(pth mask (bits h) s).j=j/\∀v,v < s->(pth mask (bits h) v).j∈g
theorem Rc.more {mask:Nat} {g g':List Nat} {j:Nat} {h:Int} (r:Rc mask g j h) (e:∀x∈g,x∈g'):Rc mask g' j h:=let ⟨s,h1,h2⟩:=r;⟨s,h1,fun v hv=>e _ (h2 v hv)⟩
structure Tb (t:SetTable) (hs:List Int):Prop where
 pow:∃k,t.mask+1=2 ^ k
 nd:t.dummies=#[]
 len:t.place.toList.length=hs.length
 ris:t.place.toList.Pairwise (· < ·)
 top:∀j∈t.place.toList,j<=t.mask
 rch:∀q∈t.place.toList.zip hs,Rc t.mask t.place.toList q.1 q.2
theorem Tb.fresh (finger moves:Nat) (led:Bool):Tb (fresh finger moves led) []:=by
 exact { pow:=⟨3,rfl⟩,nd:=rfl,len:=rfl,ris:=List.Pairwise.nil,top:=fun j h=>absurd h List.not_mem_nil,rch:=fun q h=>absurd h List.not_mem_nil }
theorem mx {t:SetTable} {hs:List Int} (T:Tb t hs) {f:Nat->Int} {h:Int}:∀(d s fuel:Nat),(pth t.mask (bits h) (s+d)).j∉t.place.toList->d < fuel ->
    ∃u,s<=u/\u<=s+d/\(∀v,s<=v->v < u->∃i,t.place[i]?=some (pth t.mask (bits h) v).j/\f i≠h) /\
      ((pth t.mask (bits h) u).j∉t.place.toList/\probe.go t f h fuel (pth t.mask (bits h) s)=some (.empty (pth t.mask (bits h) u).j none) \/
       ∃i,t.place[i]?=some (pth t.mask (bits h) u).j/\f i=h/\u < s+d/\probe.go t f h fuel (pth t.mask (bits h) s)=some (.candidate (pth t.mask (bits h) u).j i (pth t.mask (bits h) (u+1))))
  | d,s,0,_,hf=>absurd hf (Nat.not_lt_zero _)
  | d,s,fuel+1,he,hf=>by
    have go1:probe.go t f h (fuel+1) (pth t.mask (bits h) s)=match t.slot (pth t.mask (bits h) s).j with
      | .empty=>some (.empty (pth t.mask (bits h) s).j (pth t.mask (bits h) s).dummy)
      | .dummy=>probe.go t f h fuel (t.advance { pth t.mask (bits h) s with dummy:=some (pth t.mask (bits h) s).j })
      | .live i=>if f i==h then some (.candidate (pth t.mask (bits h) s).j i (t.advance (pth t.mask (bits h) s))) else probe.go t f h fuel (t.advance (pth t.mask (bits h) s)):=rfl
    rcases uj T.ris T.nd (pth t.mask (bits h) s).j with ⟨h1,h2⟩ | ⟨i,h1,h2⟩
    · refine ⟨s,Nat.le_refl _,by lia,fun v a b=>absurd a (by lia),.inl ⟨h2,?_⟩⟩
      rw [go1,h1,qy]
    · have hd:d≠0:=fun z=>by
        subst z
        refine he ?_
        rw [Nat.add_zero]
        obtain ⟨hi,e⟩:=Array.getElem?_eq_some_iff.mp h2
        exact List.mem_iff_getElem.mpr ⟨i,by simpa using hi,by simpa using e⟩
      by_cases hh:f i=h
      · refine ⟨s,Nat.le_refl _,by lia,fun v a b=>absurd a (by lia),.inr ⟨i,h2,hh,by lia,?_⟩⟩
        rw [go1,h1]
        simp only [hh,beq_self_eq_true,if_true]
        rfl
      · obtain ⟨u,u1,u2,u3,u4⟩:=mx T (f:=f) (d-1) (s+1) fuel (by rw [show s+1+(d-1)=s+d by lia];exact he) (by lia)
        have g2:probe.go t f h (fuel+1) (pth t.mask (bits h) s)=probe.go t f h fuel (pth t.mask (bits h) (s+1)):=by
          rw [go1,h1]
          have hb:(f i==h)=false:=by simpa using hh
          simp only [hb,Bool.false_eq_true,if_false]
          rfl
        refine ⟨u,by lia,by lia,fun v a b=>?_,?_⟩
        · rcases Nat.eq_or_lt_of_le a with e | e
          · subst e;exact ⟨i,h2,hh⟩
          · exact u3 v e b
        · rw [g2]
          rcases u4 with u4 | ⟨i',a1,a2,a3,a4⟩
          · exact .inl u4
          · exact .inr ⟨i',a1,a2,by lia,a4⟩
end ST
end
section
namespace ST
open PySem PySem.SetTable
theorem has_none (j:Nat):has #[] j=false:=rfl
theorem B0 {t:SetTable} (hd:t.dummies=#[]) (y:Nat):t.put y=({ t with place:=insertAt t.place (below t.place y) y },below t.place y):=by
 unfold put
 rw [hd,has_none]
 simp only [Bool.false_eq_true,if_false]
 try rw [<- hd]
theorem o3 {α β:Type}:∀(p:Nat) (xs:List α) (ys:List β) (a:α) (b:β),xs.length=ys.length->(xs.take p++a::xs.drop p).zip (ys.take p++b::ys.drop p)=(xs.zip ys).take p++(a,b)::(xs.zip ys).drop p
 | 0,xs,ys,a,b,_=>rfl
 | p+1,[],[],a,b,_=>rfl
 | p+1,x::xs,y::ys,a,b,h=>by
  simp only [List.take_succ_cons,List.drop_succ_cons,List.cons_append,List.zip_cons_cons]
  rw [o3 p xs ys a b (by simpa using h)]
 | p+1,[],y::ys,a,b,h=>by simp at h
 | p+1,x::xs,[],a,b,h=>by simp at h
theorem xN {l:List Nat} {y p:Nat} (hr:l.Pairwise (· < ·)) (h1:∀i x,i < p->l[i]?=some x->x < y) (h2:∀i x,p<=i->l[i]?=some x->y < x):(l.take p++y::l.drop p).Pairwise (· < ·):=by
 have lo:∀a∈l.take p,a < y:=fun a ha=>by
  obtain ⟨i,hi,e⟩:=List.mem_iff_getElem.mp ha
  rw [List.getElem_take] at e
  have hi':i < p/\i < l.length:=by rw [List.length_take] at hi;lia
  exact h1 i a hi'.1 (List.getElem?_eq_some_iff.mpr ⟨hi'.2,e⟩)
 have up:∀a∈l.drop p,y < a:=fun a ha=>by
  obtain ⟨i,hi,e⟩:=List.mem_iff_getElem.mp ha
  rw [List.getElem_drop] at e
  have hi':p+i < l.length:=by rw [List.length_drop] at hi;lia
  exact h2 (p+i) a (by lia) (List.getElem?_eq_some_iff.mpr ⟨hi',e⟩)
 rw [List.pairwise_append,List.pairwise_cons]
 have sp:(l.take p++l.drop p).Pairwise (· < ·):=by rw [List.take_append_drop];exact hr
 rw [List.pairwise_append] at sp
 refine ⟨sp.1,⟨up,sp.2.1⟩,fun a ha b hb=>?_⟩
 rcases List.mem_cons.mp hb with rfl | hb
 ·exact lo a ha
 ·exact sp.2.2 a ha b hb
theorem fS {α:Type} {l:List α} {p:Nat} {a b:α}:a∈l.take p++b::l.drop p↔a=b\/a∈l:=by
 conv=>rhs;rw [<- List.take_append_drop p l]
 simp only [List.mem_append,List.mem_cons]
 constructor
 ·rintro (h | h | h)
  ·exact .inr (.inl h)
  ·exact .inl h
  ·exact .inr (.inr h)
 ·rintro (h | h | h)
  ·exact .inr (.inl h)
  ·exact .inl h
  ·exact .inr (.inr h)
theorem iu {α:Type} {l:List α} {p:Nat} {b:α}:(l.take p++b::l.drop p).length=l.length+1:=by
 conv=>rhs;rw [<- List.take_append_drop p l]
 simp only [List.length_append,List.length_cons];lia
theorem Tb.put {t:SetTable} {hs:List Int} (T:Tb t hs) {h:Int} {u:Nat} (hn:(pth t.mask (bits h) u).j∉t.place.toList) (hv:∀v,v < u->(pth t.mask (bits h) v).j∈t.place.toList) :
  Tb { t with place:=insertAt t.place (below t.place (pth t.mask (bits h) u).j) (pth t.mask (bits h) u).j } (hs.take (below t.place (pth t.mask (bits h) u).j)++h::hs.drop (below t.place (pth t.mask (bits h) u).j)):=by
 generalize hy:(pth t.mask (bits h) u).j=y at *
 obtain ⟨b1,b2,b3⟩:=je T.ris y
 generalize below t.place y=p at *
 have e:(insertAt t.place p y).toList=t.place.toList.take p++y::t.place.toList.drop p:=dm _ _ _
 refine ⟨T.pow,T.nd,?_,?_,fun j hj=>?_,fun q hq=>?_⟩
 ·show (insertAt t.place p y).toList.length=_
  rw [e,iu,iu,T.len]
 ·show (insertAt t.place p y).toList.Pairwise _
  rw [e]
  refine xN T.ris (fun i x hi ex=>b2 i x hi (by simpa using ex)) (fun i x hi ex=>?_)
  have:=b3 i x hi (by simpa using ex)
  rcases Nat.eq_or_lt_of_le this with e2 | e2
  ·subst e2;exact absurd (List.mem_of_getElem? ex) hn
  ·exact e2
 ·have hj:j∈(insertAt t.place p y).toList:=hj
  rw [e,fS] at hj
  rcases hj with rfl | hj
  ·show j<=t.mask
   rw [<- hy];exact xM _ _ _
  ·exact T.top j hj
 ·have hq:q∈(insertAt t.place p y).toList.zip (hs.take p++h::hs.drop p):=hq
  show Rc t.mask (insertAt t.place p y).toList q.1 q.2
  rw [e] at hq ⊢
  rw [o3 _ _ _ _ _ T.len,fS] at hq
  rcases hq with rfl | hq
  ·exact ⟨u,hy,fun v hv'=>fS.mpr (.inr (hv v hv'))⟩
  ·exact (T.rch q hq).more fun x hx=>fS.mpr (.inr hx)
structure Ow (mask:Nat) (hs:List Int) (ow:Array (Option Nat)):Prop where
 size:ow.size=mask+1
 ex:∀i:Nat,i < hs.length->∃j:Nat,ow[j]?=some (some i)
 un:∀(j j' i:Nat),ow[j]?=some (some i)->ow[j']?=some (some i)->j=j'
 at_:∀(j i:Nat),ow[j]?=some (some i)->∃h,hs[i]?=some h/\∃s,(pth mask (bits h) s).j=j/\∀v,v < s->∃i',ow[(pth mask (bits h) v).j]?=some (some i')
theorem xO {mask:Nat}:Ow mask [] (Array.replicate (mask+1) none):=by
 have no:∀(j i:Nat),¬ (Array.replicate (mask+1) (Option.none (α:=Nat)))[j]?=some (some i):=fun j i e=>by
  rw [Array.getElem?_replicate] at e
  split at e <;> simp at e
 exact ⟨by simp,fun i hi=>absurd hi (Nat.not_lt_zero _),fun j j' i e=>absurd e (no j i),fun j i e=>absurd e (no j i)⟩
theorem xP {mask:Nat} {hs:List Int} {ow:Array (Option Nat)} (O:Ow mask hs ow) (hl:hs.length<=mask):∃y,y<=mask/\ow[y]?=some none:=by
 refine Classical.byContradiction fun hn=>?_
 have all:∀j,j < mask+1->∃i,ow[j]?=some (some i):=fun j hj=>by
  have hj':j < ow.size:=by rw [O.size];exact hj
  have e:ow[j]?=some ow[j]:=Array.getElem?_eq_getElem hj'
  cases hc:ow[j] with
  | none=>exact absurd ⟨j,by lia,by rw [e,hc]⟩ hn
  | some i=>exact ⟨i,by rw [e,hc]⟩
 let g:Nat->Nat:=fun j=>match ow[j]? with | some (some i)=>i | _=>0
 have gi:∀j,j < mask+1->ow[j]?=some (some (g j)):=fun j hj=>by
  obtain ⟨i,e⟩:=all j hj
  show ow[j]?=some (some (match ow[j]? with | some (some i)=>i | _=>0))
  rw [e]
 have nd:((List.range (mask+1)).map g).Nodup:=by
  rw [List.Nodup,List.pairwise_map]
  refine List.Pairwise.imp_of_mem (R:=(· < ·)) (fun {a b} ha hb hab e=>?_) List.pairwise_lt_range
  have:=O.un a b (g a) (gi a (List.mem_range.mp ha)) (by rw [e];exact gi b (List.mem_range.mp hb))
  lia
 have:=gJ (g:=List.range hs.length) nd fun x hx=>by
  obtain ⟨j,hj,rfl⟩:=List.mem_map.mp hx
  obtain ⟨h,e,_⟩:=O.at_ j _ (gi j (List.mem_range.mp hj))
  exact List.mem_range.mpr (List.getElem?_eq_some_iff.mp e).1
 rw [List.length_map,List.length_range,List.length_range] at this
 lia
theorem o4 {mask b:Nat} {ow:Array (Option Nat)} (hsz:ow.size=mask+1):∀(d L fuel s:Nat),ow[(lp mask b (L+d)).1]?=some none->d < fuel->pth mask b s=at0 mask (lp mask b L).1 (lp mask b L).2->(∀v,v < s->∃i',ow[(pth mask b v).j]?=some (some i')) ->
  ∃u,layClean.free mask ow fuel (lp mask b L).1 (lp mask b L).2=some (pth mask b u).j/\ow[(pth mask b u).j]?=some none/\∀v,v < u->∃i',ow[(pth mask b v).j]?=some (some i')
 | d,L,0,s,_,hf,_,_=>absurd hf (Nat.not_lt_zero _)
 | d,L,fuel+1,s,he,hf,hp,hv=>by
  have top:=ug mask b L
  have rt:=jc top
  have rl:=j8 mask (lp mask b L).1
  have step:=gI hp
  have stepj:∀k,k<=runEnd mask (lp mask b L).1-(lp mask b L).1->(pth mask b (s+k)).j=(lp mask b L).1+k:=fun k hk=>by rw [step k hk]
  unfold layClean.free
  cases hfd:(List.range (runEnd mask (lp mask b L).1+1-(lp mask b L).1)).find? fun k=>(ow.getD ((lp mask b L).1+k) (some 0)).isNone with
  | some k=>
   obtain ⟨a1,a2⟩:=List.find?_eq_some_iff_append.mp hfd
   obtain ⟨as,bs,e,a3⟩:=a2
   have hk:k < runEnd mask (lp mask b L).1+1-(lp mask b L).1:=List.mem_range.mp (by rw [e];simp)
   have hk':(lp mask b L).1+k < ow.size:=by lia
   have eg:ow.getD ((lp mask b L).1+k) (some 0)=ow[(lp mask b L).1+k]:=by simp [Array.getD,hk']
   refine ⟨s+k,by rw [stepj k (by lia)],?_,fun v hv'=>?_⟩
   ·rw [stepj k (by lia),Array.getElem?_eq_getElem hk']
    rw [eg] at a1
    cases hc:ow[(lp mask b L).1+k] with
    | none=>rfl
    | some z=>rw [hc] at a1;cases a1
   ·rcases Nat.lt_or_ge v s with h | h
    ·exact hv v h
    ·have hm:v-s∈as:=by
      have r1:v-s∈List.range (runEnd mask (lp mask b L).1+1-(lp mask b L).1):=List.mem_range.mpr (by lia)
      have pw:=List.pairwise_lt_range (n:=runEnd mask (lp mask b L).1+1-(lp mask b L).1)
      rw [e] at r1 pw
      rcases List.mem_append.mp r1 with h1 | h1
      ·exact h1
      ·rw [List.pairwise_append,List.pairwise_cons] at pw
       rcases List.mem_cons.mp h1 with h2 | h2
       ·lia
       ·have:=pw.2.1.1 _ h2;lia
     have nn:=a3 _ hm
     have hk2:(lp mask b L).1+(v-s) < ow.size:=by lia
     have eg2:ow.getD ((lp mask b L).1+(v-s)) (some 0)=ow[(lp mask b L).1+(v-s)]:=by simp [Array.getD,hk2]
     rw [eg2] at nn
     have ej:=stepj (v-s) (by lia)
     rw [show s+(v-s)=v by lia] at ej
     rw [ej,Array.getElem?_eq_getElem hk2]
     cases hc:ow[(lp mask b L).1+(v-s)] with
     | none=>rw [hc] at nn;simp at nn
     | some z=>exact ⟨z,rfl⟩
  | none=>
   rw [List.find?_eq_none] at hfd
   have full:∀k,k<=runEnd mask (lp mask b L).1-(lp mask b L).1->∃i',ow[(lp mask b L).1+k]?=some (some i'):=fun k hk=>by
    have nn:=hfd k (List.mem_range.mpr (by lia))
    have hk2:(lp mask b L).1+k < ow.size:=by lia
    have eg2:ow.getD ((lp mask b L).1+k) (some 0)=ow[(lp mask b L).1+k]:=by simp [Array.getD,hk2]
    rw [eg2] at nn
    rw [Array.getElem?_eq_getElem hk2]
    cases hc:ow[(lp mask b L).1+k] with
    | none=>rw [hc] at nn;simp at nn
    | some z=>exact ⟨z,rfl⟩
   have hd:d≠0:=fun z=>by
    subst z
    obtain ⟨i',e⟩:=full 0 (Nat.zero_le _)
    rw [Nat.add_zero] at he e
    rw [he] at e;cases e
   obtain ⟨u,u1,u2,u3⟩:=o4 hsz (d-1) (L+1) fuel (s+(runEnd mask (lp mask b L).1-(lp mask b L).1)+1) (by rw [show L+1+(d-1)=L+d by lia];exact he) (by lia) (oY hp) (fun v hv'=>by
    rcases Nat.lt_or_ge v s with h | h
    ·exact hv v h
    ·have ej:=stepj (v-s) (by lia)
     rw [show s+(v-s)=v by lia] at ej
     rw [ej]
     exact full _ (by lia))
   exact ⟨u,u1,u2,u3⟩
theorem Ow.lay {mask k:Nat} (hk:mask+1=2 ^ k) {hs:List Int} {ow:Array (Option Nat)} (O:Ow mask hs ow) (hl:hs.length < mask) (h:Int) :
  ∃j,layClean.free mask ow (turns mask) (bits h%(mask+1)) (bits h)=some j/\Ow mask (hs++[h]) (ow.setIfInBounds j (some hs.length)):=by
 obtain ⟨y,y1,y2⟩:=xP O (by lia)
 obtain ⟨L,L1,L2⟩:=ui (b:=bits h) hk (oZ h) y1
 obtain ⟨u,u1,u2,u3⟩:=o4 (b:=bits h) O.size L 0 (turns mask) 0 (by rw [Nat.zero_add,L2];exact y2) (by unfold turns;lia) rfl (fun v hv=>absurd hv (Nat.not_lt_zero _))
 refine ⟨_,u1,?_⟩
 generalize hj:(pth mask (bits h) u).j=j at *
 have jl:j < ow.size:=(Array.getElem?_eq_some_iff.mp u2).1
 have old:∀a i,ow[a]?=some (some i)->(ow.setIfInBounds j (some hs.length))[a]?=some (some i):=fun a i e=>by
  rw [Array.getElem?_setIfInBounds]
  by_cases ea:j=a
  ·subst ea;rw [u2] at e;cases e
  ·rw [if_neg ea];exact e
 have new:(ow.setIfInBounds j (some hs.length))[j]?=some (some hs.length):=by
  rw [Array.getElem?_setIfInBounds,if_pos rfl,if_pos jl]
 have inv:∀a i,(ow.setIfInBounds j (some hs.length))[a]?=some (some i)->(a=j/\i=hs.length)\/ow[a]?=some (some i):=fun a i e=>by
  rw [Array.getElem?_setIfInBounds] at e
  by_cases ea:j=a
  ·rw [if_pos ea,if_pos jl] at e
   injection e with e;injection e with e
   exact .inl ⟨ea.symm,e.symm⟩
  ·rw [if_neg ea] at e;exact .inr e
 have lt:∀a i,ow[a]?=some (some i)->i < hs.length:=fun a i e=>by
  obtain ⟨g,e2,_⟩:=O.at_ a i e
  exact (List.getElem?_eq_some_iff.mp e2).1
 refine ⟨by simp [O.size],fun i hi=>?_,fun a a' i e e'=>?_,fun a i e=>?_⟩
 ·rw [List.length_append,List.length_singleton] at hi
  rcases Nat.lt_or_ge i hs.length with h1 | h1
  ·obtain ⟨a,ea⟩:=O.ex i h1
   exact ⟨a,old a i ea⟩
  ·have:i=hs.length:=by lia
   subst this
   exact ⟨j,new⟩
 ·rcases inv a i e with ⟨r1,r2⟩ | r
  ·rcases inv a' i e' with ⟨q1,q2⟩ | q
   ·rw [r1,q1]
   ·have:=lt _ _ q;lia
  ·rcases inv a' i e' with ⟨q1,q2⟩ | q
   ·have:=lt _ _ r;lia
   ·exact O.un a a' i r q
 ·rcases inv a i e with ⟨r1,r2⟩ | r
  ·subst r1;subst r2
   refine ⟨h,by simp,u,hj,fun v hv=>?_⟩
   obtain ⟨i',e'⟩:=u3 v hv
   exact ⟨i',old _ _ e'⟩
  ·obtain ⟨g,e2,s,s1,s2⟩:=O.at_ a i r
   refine ⟨g,by rw [List.getElem?_append_left (lt _ _ r)];exact e2,s,s1,fun v hv=>?_⟩
   obtain ⟨i',e'⟩:=s2 v hv
   exact ⟨i',old _ _ e'⟩
noncomputable def B1 (mask:Nat) (acc:Option (Array (Option Nat)×Nat)) (h:Int):Option (Array (Option Nat)×Nat):=do
 let (owner,k) <- acc
 let j <- layClean.free mask owner (turns mask) (bits h%(mask+1)) (bits h)
 pure (owner.setIfInBounds j (some k),k+1)
theorem my {mask k:Nat} (hk:mask+1=2 ^ k):∀(gs hs:List Int) (ow:Array (Option Nat)),Ow mask hs ow->hs.length+gs.length<=mask->∃ow',gs.foldl (B1 mask) (some (ow,hs.length))=some (ow',(hs++gs).length)/\Ow mask (hs++gs) ow'
 | [],hs,ow,O,_=>⟨ow,by simp,by simpa using O⟩
 | h::gs,hs,ow,O,hl=>by
  rw [List.length_cons] at hl
  obtain ⟨j,e1,O1⟩:=O.lay hk (by lia) h
  obtain ⟨ow',e2,O2⟩:=my hk gs (hs++[h]) _ O1 (by rw [List.length_append,List.length_singleton];lia)
  refine ⟨ow',?_,by simpa using O2⟩
  rw [List.foldl_cons,show B1 mask (some (ow,hs.length)) h=some (ow.setIfInBounds j (some hs.length),hs.length+1) by
   show (layClean.free mask ow (turns mask) (bits h%(mask+1)) (bits h)).bind _=_
   rw [e1];rfl]
  rw [List.length_append,List.length_singleton] at e2
  rw [e2]
  simp
theorem mz {mask k:Nat} (hk:mask+1=2 ^ k) (hs:Array Int) (hl:hs.size<=mask):∃ow,layClean mask hs=some ow/\Ow mask hs.toList ow:=by
 obtain ⟨ow,e,O⟩:=my hk hs.toList [] _ xO (by simpa using hl)
 refine ⟨ow,?_,by simpa using O⟩
 show (hs.foldl (B1 mask) (some (Array.replicate (mask+1) none,0))).map (·.1)=_
 rw [<- Array.foldl_toList,show (some (Array.replicate (mask+1) (Option.none (α:=Nat)),0))=some (Array.replicate (mask+1) none,([]:List Int).length) from rfl,e]
 rfl
theorem xQ {mask k:Nat} (hk:mask+1=2 ^ k) (finger moves:Nat) (led plain:Bool) (hs:Array Int) (hl:hs.size<=mask) :
  ∃t ord,laid mask finger moves led plain hs=some (t,ord)/\t.mask=mask/\t.led=led/\t.plain=plain/\t.moves=moves/\ord.toList.Perm (List.range hs.size)/\Tb t (ord.toList.map fun i=>hs.getD i 0):=by
 obtain ⟨ow,e,O⟩:=mz hk hs hl
 let live:=(List.range (mask+1)).filterMap fun j=>(ow.getD j none).map (j,·)
 have mem:∀j i,(j,i)∈live↔ow[j]?=some (some i):=fun j i=>by
  show (j,i)∈List.filterMap _ _↔_
  rw [List.mem_filterMap]
  constructor
  ·rintro ⟨a,ha,hm⟩
   cases hc:ow.getD a none with
   | none=>rw [hc] at hm;cases hm
   | some z=>
    rw [hc] at hm
    simp only [Option.map_some,Option.some.injEq,Prod.mk.injEq] at hm
    obtain ⟨rfl,rfl⟩:=hm
    have ha':a < ow.size:=by rw [O.size];exact List.mem_range.mp ha
    rw [Array.getElem?_eq_getElem ha']
    rw [show ow.getD a none=ow[a] by simp [Array.getD,ha']] at hc
    rw [hc]
  ·intro h
   obtain ⟨hj,hv⟩:=Array.getElem?_eq_some_iff.mp h
   refine ⟨j,List.mem_range.mpr (by rw [<- O.size];exact hj),?_⟩
   rw [show ow.getD j none=ow[j] by simp [Array.getD,hj],hv]
   rfl
 have pw:live.Pairwise (fun a b=>a.1 < b.1):=by
  show List.Pairwise _ (List.filterMap _ _)
  rw [List.pairwise_filterMap]
  refine List.pairwise_lt_range.imp fun {a b} hab x hx y hy=>?_
  cases h1:ow.getD a none with
  | none=>rw [h1] at hx;cases hx
  | some z=>
   cases h2:ow.getD b none with
   | none=>rw [h2] at hy;cases hy
   | some z'=>
    rw [h1] at hx;rw [h2] at hy
    simp only [Option.map_some,Option.some.injEq] at hx hy
    rw [<- hx,<- hy];exact hab
 have pl:(live.map (·.1)).toArray.toList=live.map (·.1):=by simp
 have ol:(live.map (·.2)).toArray.toList=live.map (·.2):=by simp
 refine ⟨{ mask,place:=(live.map (·.1)).toArray,dummies:=#[],finger,led,moves,plain },(live.map (·.2)).toArray,?_,rfl,rfl,rfl,rfl,?_,⟨⟨k,hk⟩,rfl,?_,?_,fun j hj=>?_,fun q hq=>?_⟩⟩
 ·show (layClean mask hs).bind _=_
  rw [e];rfl
 ·rw [ol]
  refine (List.perm_ext_iff_of_nodup ?_ List.nodup_range).mpr fun i=>?_
  ·rw [List.Nodup,List.pairwise_map]
   refine List.Pairwise.imp_of_mem (fun {a b} ha hb hab e=>?_) pw
   have:=O.un a.1 b.1 a.2 ((mem _ _).mp ha) (by rw [e];exact (mem _ _).mp hb)
   lia
  ·rw [List.mem_map,List.mem_range]
   constructor
   ·rintro ⟨⟨j,i'⟩,hm,rfl⟩
    obtain ⟨g,e2,_⟩:=O.at_ j i' ((mem _ _).mp hm)
    have:=(List.getElem?_eq_some_iff.mp e2).1
    simpa using this
   ·intro hi
    obtain ⟨j,ej⟩:=O.ex i (by simpa using hi)
    exact ⟨(j,i),(mem _ _).mpr ej,rfl⟩
 ·show (live.map (·.1)).toArray.toList.length=((live.map (·.2)).toArray.toList.map _).length
  rw [pl,ol];simp
 ·show (live.map (·.1)).toArray.toList.Pairwise _
  rw [pl,List.pairwise_map];exact pw
 ·have hj:j∈(live.map (·.1)).toArray.toList:=hj
  rw [pl] at hj
  obtain ⟨⟨j',i⟩,hm,rfl⟩:=List.mem_map.mp hj
  have:=(Array.getElem?_eq_some_iff.mp ((mem _ _).mp hm)).1
  rw [O.size] at this
  show j'<=mask
  lia
 ·have hq:q∈(live.map (·.1)).toArray.toList.zip ((live.map (·.2)).toArray.toList.map fun i=>hs.getD i 0):=hq
  show Rc mask (live.map (·.1)).toArray.toList q.1 q.2
  rw [pl,ol,List.map_map,List.zip_map',List.mem_map] at hq
  rw [pl]
  obtain ⟨⟨j,i⟩,hm,rfl⟩:=hq
  obtain ⟨g,e2,s,s1,s2⟩:=O.at_ j i ((mem _ _).mp hm)
  have eg:hs.getD i 0=g:=by
   obtain ⟨hi,ei⟩:=List.getElem?_eq_some_iff.mp e2
   have hi':i < hs.size:=by simpa using hi
   simp only [Array.getD,hi',dif_pos]
   simpa using ei
  show Rc mask _ j (hs.getD i 0)
  rw [eg]
  refine ⟨s,s1,fun v hv=>?_⟩
  obtain ⟨i',e'⟩:=s2 v hv
  exact List.mem_map.mpr ⟨(_,i'),(mem _ _).mpr e',rfl⟩
end ST
end
section
namespace ST
open PySem PySem.Spec PySem.SetTable
structure j9 {prog:Program} {w:World} {K:Type} [DecidableEq K] (knd:HeapKind prog w K):Prop where
 own:∀{A:Around} {E:Value->Shared->Prop} {s:Shared} {k:K} {a:Addr} {Q:Bool->Shared->Prop},knd.is s.heap k a->Q false s->wpAny (model prog w) A (ofAClassStatement 8 (.ref a)) Q E s
 byv:∀{A:Around} {E:Value->Shared->Prop} {s:Shared} {k:K} {a:Addr} {Q:Bool->Shared->Prop},knd.is s.heap k a->Q true s->wpAny (model prog w) A (hashByValue 8 (.ref a)) Q E s
 keep:∀{h h':Heap} {k:K} {a:Addr},knd.is h k a->(∀b o items n,h.get? b=some o->o.data=.seq items n->h'.get? b=some o)->knd.is h' k a
section
variable {prog:Program} {w:World} {K:Type} [DecidableEq K] {knd:HeapKind prog w K} {A:Around} {E:Value->Shared->Prop} {s:Shared}
theorem uk (S:j9 knd) {k:K} {b:Addr} (hk:knd.is s.heap k b) {Q:Bool->Shared->Prop} (q:Q false s):∀(ys:List Value),(∀y∈ys,∃k' a',y=.ref a'/\knd.is s.heap k' a')->wpAny (model prog w) A (searchCouldBeSeen (.ref b) ys) Q E s:=by
 intro ys hy
 unfold searchCouldBeSeen
 refine wpAny_bind ?_
 refine wpAny_forIn_list _ (fun rest r s'=>r.1=none/\s'=s/\∀y∈rest,∃k' a',y=.ref a'/\knd.is s.heap k' a') _ ?_ ?_ _ _ ⟨rfl,rfl,hy⟩
 ·rintro y rest r s' ⟨hr,rfl,hall⟩
  obtain ⟨k',a',rfl,hk'⟩:=hall y List.mem_cons_self
  have nx:∀y∈rest,∃k' a',y=.ref a'/\knd.is s'.heap k' a':=fun u hu=>hall u (List.mem_cons_of_mem _ hu)
  dsimp only
  split
  ·exact wpAny_pure ⟨rfl,rfl,nx⟩
  ·refine wpAny_bind (knd.quiet hk ?_)
   simp only [Bool.not_true,Bool.false_eq_true,if_false]
   refine wpAny_bind (knd.quiet hk' ?_)
   simp only [Bool.not_true,Bool.false_eq_true,if_false]
   refine wpAny_bind (S.own hk ?_)
   simp only [Bool.false_eq_true,if_false]
   refine wpAny_bind (S.own hk' ?_)
   simp only [Bool.false_eq_true,if_false]
   exact wpAny_pure ⟨rfl,rfl,nx⟩
 ·rintro ⟨r1,r2⟩ s' ⟨hr,rfl,_⟩
  simp only at hr
  subst hr
  exact wpAny_pure q
noncomputable def mB (knd:HeapKind prog w K) (x:K×Addr):Int×Value:=(knd.hash x.1,.ref x.2)
structure SetIs (knd:HeapKind prog w K) (led:Bool) (h:Heap) (a:Addr) (o:Obj) (es:Array (Int×Value)) (ep:Nat) (t:SetTable) (xs:List (K×Addr)):Prop where
 ob:h.get? a=some o
 ex:o.ExactSet
 da:o.data=.set es ep t
 el:es.toList=xs.map (mB knd)
 tb:Tb t (es.toList.map (·.1))
 few:es.size*5 < t.mask*3
 big:t.mask+1<=8*(es.size+1)
 pl:t.plain=true
 ld:t.led=led
 is:∀x∈xs,knd.is h x.1 x.2
 nd:(xs.map (·.1)).Nodup
structure SetW (led:Bool) (h:Heap) (a:Addr) (o:Obj) (es:Array (Int×Value)) (ep:Nat) (t:SetTable):Prop where
 ob:h.get? a=some o
 ex:o.ExactSet
 da:o.data=.set es ep t
 tb:Tb t (es.toList.map (·.1))
 few:es.size*5 < t.mask*3
 pl:t.plain=true
 ld:t.led=led
variable {led:Bool} {h:Heap} {a:Addr} {o:Obj} {es:Array (Int×Value)} {ep:Nat} {t:SetTable} {xs:List (K×Addr)}
theorem SetIs.tab (S:SetIs knd led h a o es ep t xs):SetW led h a o es ep t:=⟨S.ob,S.ex,S.da,S.tb,S.few,S.pl,S.ld⟩
theorem SetW.psize (S:SetW led h a o es ep t):t.place.size=es.size:=by
 have:=S.tb.len
 rw [List.length_map] at this
 simpa using this
theorem SetW.fits (S:SetW led h a o es ep t):t.fits es.size=true:=by
 have h1:=S.psize
 have h2:=S.few
 unfold SetTable.fits SetTable.fill
 rw [S.tb.nd]
 simp only [Bool.and_eq_true,beq_iff_eq,decide_eq_true_eq,Array.size_empty]
 lia
theorem SetIs.size (S:SetIs knd led h a o es ep t xs):es.size=xs.length:=by
 rw [<- Array.length_toList,S.el,List.length_map]
theorem SetIs.psize (S:SetIs knd led h a o es ep t xs):t.place.size=es.size:=S.tab.psize
theorem SetIs.fits (S:SetIs knd led h a o es ep t xs):t.fits es.size=true:=S.tab.fits
theorem SetIs.odd (S:SetIs knd led h a o es ep t xs):t.gaveWay=false:=by
 obtain ⟨k,hk⟩:=S.tb.pow
 have h2:=S.few
 unfold SetTable.gaveWay
 cases k with
 | zero=>simp at hk;lia
 | succ k=>rw [Nat.pow_succ] at hk;simp only [beq_eq_false_iff_ne,ne_eq];lia
theorem SetIs.get (S:SetIs knd led h a o es ep t xs) {i j:Nat} (e:t.place[i]?=some j):∃x,xs[i]?=some x/\es[i]?=some (mB knd x):=by
 obtain ⟨hi,_⟩:=Array.getElem?_eq_some_iff.mp e
 rw [S.psize,S.size] at hi
 refine ⟨xs[i],List.getElem?_eq_getElem hi,?_⟩
 rw [<- Array.getElem?_toList,S.el,List.getElem?_map,List.getElem?_eq_getElem hi]
 rfl
theorem um {pl:Array Nat} {i j:Nat} (e:pl[i]?=some j):j∈pl.toList:=by
 rw [<- Array.getElem?_toList] at e
 exact List.mem_of_getElem? e
theorem B2 {pl:Array Nat} (hr:pl.toList.Pairwise (· < ·)) {i i' j:Nat} (e:pl[i]?=some j) (e':pl[i']?=some j):i=i':=by
 rw [<- below_at hr e,<- below_at hr e']
theorem SetIs.absent (S:SetIs knd led h a o es ep t xs) {k:K} {u:Nat} (hu:(pth t.mask (bits (knd.hash k)) u).j∉t.place.toList) (hv:∀v,v < u->∃(i:Nat) (x:K×Addr),t.place[i]?=some (pth t.mask (bits (knd.hash k)) v).j/\xs[i]?=some x/\x.1≠k):k∉xs.map (·.1):=by
 intro hm
 obtain ⟨x,hx,rfl⟩:=List.mem_map.mp hm
 obtain ⟨i,hi,e⟩:=List.mem_iff_getElem.mp hx
 have hx?:xs[i]?=some x:=List.getElem?_eq_some_iff.mpr ⟨hi,e⟩
 have hp:i < t.place.size:=by rw [S.psize,S.size];exact hi
 have pz:t.place[i]?=some t.place[i]:=Array.getElem?_eq_getElem hp
 have zq:(t.place[i],knd.hash x.1)∈t.place.toList.zip (es.toList.map (·.1)):=by
  refine List.mem_iff_getElem?.mpr ⟨i,?_⟩
  rw [List.getElem?_zip_eq_some]
  refine ⟨by rw [Array.getElem?_toList];exact pz,?_⟩
  rw [S.el,List.map_map,List.getElem?_map,hx?]
  rfl
 obtain ⟨r,r1,r2⟩:=S.tb.rch _ zq
 simp only at r1 r2
 rcases Nat.lt_trichotomy r u with h1 | h1 | h1
 ·obtain ⟨i',x',e1,e2,e3⟩:=hv r h1
  rw [r1] at e1
  have:=B2 S.tb.ris e1 pz
  subst this
  rw [hx?] at e2
  injection e2 with e2
  exact e3 (by rw [e2])
 ·subst h1;rw [r1] at hu;exact hu (um pz)
 ·exact hu (r2 u h1)
end
end ST
end
section
namespace ST
open PySem PySem.Spec PySem.SetTable
section
variable {prog:Program} {w:World} {K:Type} [DecidableEq K] {knd:HeapKind prog w K} {A:Around} {E:Value->Shared->Prop} {s:Shared} {led:Bool} {h:Heap} {a:Addr} {o:Obj} {es:Array (Int×Value)} {ep:Nat} {t:SetTable} {xs:List (K×Addr)}
theorem uo {t:SetTable} {hs:List Int} (T:Tb t hs) (f:Nat->Int) (h:Int) {d s:Nat} (he:(pth t.mask (bits h) (s+d)).j∉t.place.toList) (hf:d < 10*turns t.mask) :
    ∃u,s<=u/\u<=s+d/\(∀v,s<=v->v < u->∃i,t.place[i]?=some (pth t.mask (bits h) v).j/\f i≠h) /\
      ((pth t.mask (bits h) u).j∉t.place.toList/\t.probe f h (pth t.mask (bits h) s)=some (.empty (pth t.mask (bits h) u).j none) \/
       ∃i,t.place[i]?=some (pth t.mask (bits h) u).j/\f i=h/\u < s+d/\t.probe f h (pth t.mask (bits h) s)=some (.candidate (pth t.mask (bits h) u).j i (pth t.mask (bits h) (u+1)))):=
  mx T d s (10*turns t.mask) he hf
theorem gY (SK:j9 knd) (S:SetIs knd led s.heap a o es ep t xs) {k:K} {b:Addr} (hr:knd.room A) (hk:knd.is s.heap k b) {Q:SetFound->Shared->Prop}
  (q1:∀u,(pth t.mask (bits (knd.hash k)) u).j∉t.place.toList->(∀v,v < u->(pth t.mask (bits (knd.hash k)) v).j∈t.place.toList)->k∉xs.map (·.1)->Q (.free (pth t.mask (bits (knd.hash k)) u).j false) s)
  (q2:k∈xs.map (·.1)->Q (.there none) s) :
  ∀(d s0 fuel:Nat) (st:Option Probe),st.getD (t.probeStart (knd.hash k))=pth t.mask (bits (knd.hash k)) s0->(pth t.mask (bits (knd.hash k)) (s0+d)).j∉t.place.toList->d < 10*turns t.mask->d < fuel ->
   (∀v,v < s0->∃(i:Nat) (x:K×Addr),t.place[i]?=some (pth t.mask (bits (knd.hash k)) v).j/\xs[i]?=some x/\x.1≠k) ->
   wpAny (model prog w) A (setSearchFrom a (.ref b) (knd.hash k) true fuel st) Q E s
 | d,s0,0,st,_,_,_,hf,_=>absurd hf (Nat.not_lt_zero _)
 | d,s0,fuel+1,st,hst,he,h10,hf,hv=>by
  unfold setSearchFrom
  refine wpAny_bind (wpAny_setState_of S.ob S.da S.fits ?_)
  dsimp only
  rw [S.odd]
  simp only [Bool.false_eq_true,if_false]
  have fneq:∀i,(fun (i:Nat)=>(es[i]?.map (·.1)).getD 0) i=(es[i]?.map (·.1)).getD 0:=fun i=>rfl
  obtain ⟨u,u1,u2,u3,u4⟩:=uo S.tb (fun (i:Nat)=>(es[i]?.map (·.1)).getD 0) (knd.hash k) he h10
  rw [hst]
  have seen:∀v,v < u->∃(i:Nat) (x:K×Addr),t.place[i]?=some (pth t.mask (bits (knd.hash k)) v).j/\xs[i]?=some x/\x.1≠k:=fun v hvu=>by
   rcases Nat.lt_or_ge v s0 with h | h
   ·exact hv v h
   ·obtain ⟨i,e1,e2⟩:=u3 v h hvu
    obtain ⟨x,x1,x2⟩:=S.get e1
    refine ⟨i,x,e1,x1,fun z=>e2 ?_⟩
    show (es[i]?.map (·.1)).getD 0=_
    rw [x2,<- z]
    rfl
  rcases u4 with ⟨n1,n2⟩ | ⟨i,c1,c2,c3,c4⟩
  ·erw [n2]
   dsimp only
   refine wpAny_pure ?_
   exact q1 u n1 (fun v hvu=>let ⟨i,x,e1,_⟩:=seen v hvu;um e1) (S.absent n1 seen)
  ·erw [c4]
   dsimp only
   obtain ⟨x,x1,x2⟩:=S.get c1
   have xi:=S.is x (List.mem_of_getElem? x1)
   have c2:(es[i]?.map (·.1)).getD 0=knd.hash k:=c2
   have slt:t.slot (pth t.mask (bits (knd.hash k)) u).j=.live i:=qz S.tb.ris c1
   have sm:t.sameMemory t.moves t.mask=some true:=by unfold SetTable.sameMemory;simp
   have next:x.1≠k->wpAny (model prog w) A (setSearchFrom a (.ref b) (knd.hash k) true fuel (some (pth t.mask (bits (knd.hash k)) (u+1)))) Q E s:=fun hx=>by
    refine gY SK S hr hk q1 q2 (s0+d-(u+1)) (u+1) fuel _ rfl ?_ (by lia) (by lia) (fun v hvu=>?_)
    ·rw [show u+1+(s0+d-(u+1))=s0+d by lia];exact he
    ·rcases Nat.lt_or_ge v u with h | h
     ·exact seen v h
     ·have:v=u:=by lia
      subst this
      exact ⟨i,x,c1,x1,hx⟩
   rw [x2]
   dsimp only [mB]
   split
   ·refine wpAny_bind (uk SK hk ?_ _ fun y hy=>?_)
    ·simp only [Bool.false_eq_true,if_false]
     refine wpAny_bind (wpAny_holding (knd.eqBool hr xi hk ?_))
     refine wpAny_bind (wpAny_setState_of S.ob S.da S.fits ?_)
     by_cases hx:x.1=k
     ·rw [decide_eq_true hx]
      simp only [Bool.and_self,if_true]
      exact wpAny_pure (q2 (hx▸List.mem_map.mpr ⟨x,List.mem_of_getElem? x1,rfl⟩))
     ·rw [decide_eq_false hx]
      simp only [Bool.and_false,Bool.false_eq_true,if_false]
      rw [sm]
      dsimp only
      rw [if_pos rfl,slt]
      dsimp only
      rw [x2]
      dsimp only [mB]
      refine wpAny_bind (wpAny_isSame_ref_self ?_)
      refine wpAny_bind (wpAny_pure ?_)
      simp only [if_true]
      exact next hx
    ·obtain ⟨e,he',rfl⟩:=List.mem_map.mp hy
     have he2:e∈es.toList:=by
      have:e∈Array.filter (fun x=>x.fst==knd.hash k) es:=by simpa using he'
      exact (Array.mem_filter.mp this).1.val
     rw [S.el] at he2
     obtain ⟨z,hz,rfl⟩:=List.mem_map.mp he2
     exact ⟨z.1,z.2,rfl,S.is z hz⟩
   ·refine wpAny_bind (wpAny_holding (knd.eqBool hr xi hk ?_))
    refine wpAny_bind (wpAny_setState_of S.ob S.da S.fits ?_)
    by_cases hx:x.1=k
    ·rw [decide_eq_true hx]
     simp only [Bool.and_self,if_true]
     exact wpAny_pure (q2 (hx▸List.mem_map.mpr ⟨x,List.mem_of_getElem? x1,rfl⟩))
    ·rw [decide_eq_false hx]
     simp only [Bool.and_false,Bool.false_eq_true,if_false]
     rw [sm]
     dsimp only
     rw [if_pos rfl,slt]
     dsimp only
     rw [x2]
     dsimp only [mB]
     refine wpAny_bind (wpAny_isSame_ref_self ?_)
     refine wpAny_bind (wpAny_pure ?_)
     simp only [if_true]
     exact next hx
end
end ST
end
section
namespace ST
open PySem PySem.Spec PySem.SetTable
theorem mD (n:Nat):∀(fuel size:Nat),(∃k,size=2 ^ k)->n < size*2 ^ fuel->(∃k,sizeAbove.go n fuel size=2 ^ k)/\n < sizeAbove.go n fuel size/\(sizeAbove.go n fuel size=size\/sizeAbove.go n fuel size<=2*n)
 | 0,size,hk,h=>by
  unfold sizeAbove.go
  exact ⟨hk,by simpa using h,.inl rfl⟩
 | fuel+1,size,hk,h=>by
  unfold sizeAbove.go
  by_cases hs:size<=n
  ·rw [if_pos hs]
   obtain ⟨k,hk⟩:=hk
   obtain ⟨a1,a2,a3⟩:=mD n fuel (size*2) ⟨k+1,by rw [hk,Nat.pow_succ]⟩ (by rw [Nat.pow_succ] at h;rw [Nat.mul_assoc,Nat.mul_comm 2];exact h)
   exact ⟨a1,a2,.inr (by lia)⟩
  ·rw [if_neg hs]
   exact ⟨hk,by lia,.inl rfl⟩
theorem nO {n:Nat} (h:n < 2 ^ 60):(∃k,sizeAbove n=2 ^ k)/\n < sizeAbove n/\(sizeAbove n=8\/sizeAbove n<=2*n):=
 mD n 64 8 ⟨3,rfl⟩ (Nat.lt_of_lt_of_le h (by decide))
section
variable {prog:Program} {w:World} {K:Type} [DecidableEq K] {knd:HeapKind prog w K} {A:Around} {E:Value->Shared->Prop} {s:Shared} {led:Bool} {h:Heap} {a:Addr} {o:Obj} {es:Array (Int×Value)} {ep:Nat} {t:SetTable} {xs:List (K×Addr)}
theorem stored {h:Heap} {a:Addr} {o:Obj} {es es':Array (Int×Value)} {ep:Nat} {t t':SetTable} (ho:h.get? a=some o) (hd:o.data=.set es ep t):(h.update a (Obj.putSet es' t')).get? a=some { o with data:=.set es' (ep+1) t' }:=by
 have:=Heap.get?_update_self (Obj.putSet es' t') ho (by rw [putSet_of es' t' hd];rfl)
 rw [putSet_of es' t' hd] at this;exact this
theorem zA (SK:j9 knd) {h:Heap} {a:Addr} {o:Obj} {es:Array (Int×Value)} {ep:Nat} {t:SetTable} (f:Obj->Obj) (ho:h.get? a=some o) (hd:o.data=.set es ep t) {k:K} {b:Addr} (hk:knd.is h k b):knd.is (h.update a f) k b:=
 SK.keep hk fun c oc items n hc hs=>by
  have:c≠a:=fun e=>by subst e;rw [ho] at hc;injection hc with hc;rw [<- hc,hd] at hs;cases hs
  exact (Heap.get?_update_other _ _ this.symm).trans hc
theorem dq {α:Type} (xs:List α):∀(l:List Nat),(∀i∈l,i < xs.length)->∀{β:Type} (f:α->β),((l.filterMap (xs[·]?)).map f)=l.filterMap ((xs.map f)[·]?)
 | [],_,_,f=>rfl
 | i::l,h,β,f=>by
  have hi:=h i List.mem_cons_self
  rw [List.filterMap_cons,List.filterMap_cons]
  rw [List.getElem?_eq_getElem hi,List.getElem?_map,List.getElem?_eq_getElem hi]
  simp only [Option.map_some,List.map_cons]
  rw [dq xs l (fun i hi=>h i (List.mem_cons_of_mem _ hi)) f]
theorem o6 {α:Type} (xs:List α):∀(l:List Nat),(∀i∈l,i < xs.length)->(l.filterMap (xs[·]?)).length=l.length
 | [],_=>rfl
 | i::l,h=>by
  have hi:=h i List.mem_cons_self
  rw [List.filterMap_cons,List.getElem?_eq_getElem hi]
  simp only [List.length_cons]
  rw [o6 xs l fun i hi=>h i (List.mem_cons_of_mem _ hi)]
theorem mE (hs:List Int):∀(l:List Nat),(∀i∈l,i < hs.length)->l.filterMap (hs[·]?)=l.map fun i=>hs.toArray.getD i 0
 | [],_=>rfl
 | i::l,h=>by
  have hi:=h i List.mem_cons_self
  rw [List.filterMap_cons,List.getElem?_eq_getElem hi,List.map_cons,mE hs l fun i hi=>h i (List.mem_cons_of_mem _ hi)]
  simp [Array.getD,hi]
theorem B3 {α:Type} (xs:List α):(List.range xs.length).filterMap (xs[·]?)=xs:=by
 refine List.ext_getElem? fun i=>?_
 rw [show (List.range xs.length).filterMap (xs[·]?)=xs from ?_]
 induction xs with
 | nil=>rfl
 | cons x xs ih=>
  rw [List.length_cons,List.range_succ_eq_map,List.filterMap_cons]
  simp only [List.getElem?_cons_zero,List.filterMap_map]
  congr 1
theorem uq {α:Type} {xs:List α} {l:List Nat} (h:l.Perm (List.range xs.length)):(l.filterMap (xs[·]?)).Perm xs:=by
 have:=h.filterMap (xs[·]?)
 rwa [B3] at this
theorem EK (SK:j9 knd) (ho:s.heap.get? a=some o) (hex:o.ExactSet) (hd:o.data=.set es ep t) (el:es.toList=xs.map (mB knd)) (tb:Tb t (es.toList.map (·.1))) (lt:es.size<=t.mask) (hp:t.plain=true) (hled:t.led=led) (his:∀x∈xs,knd.is s.heap x.1 x.2) (hnd:(xs.map (·.1)).Nodup)
  (h0:0 < es.size) (h1:es.size<=1001) {Q:Unit->Shared->Prop} (q:∀h' o' es' ep' t' xs',Heap.SameBut a s.heap h'->SetIs knd led h' a o' es' ep' t' xs'->xs'.Perm xs->Q () { s with heap:=h' }):wpAny (model prog w) A (setRelay a (grown es.size)) Q E s:=by
 have sz:es.size=xs.length:=by rw [<- Array.length_toList,el,List.length_map]
 have psz:t.place.size=es.size:=by
  have:=tb.len
  rw [List.length_map] at this
  simpa using this
 have fits:t.fits es.size=true:=by
  unfold SetTable.fits SetTable.fill
  rw [tb.nd]
  simp only [Bool.and_eq_true,beq_iff_eq,decide_eq_true_eq,Array.size_empty]
  lia
 have gr:grown es.size=es.size*4:=by unfold grown;rw [if_neg (by lia)]
 obtain ⟨⟨k,a1⟩,a2,a3⟩:=nO (n:=grown es.size) (Nat.lt_of_le_of_lt (show grown es.size<=4004 by lia) (by decide))
 have hk:sizeAbove (grown es.size)-1+1=2 ^ k:=by lia
 unfold setRelay
 refine wpAny_bind (wpAny_setState_of ho hd fits ?_)
 dsimp only
 rw [if_neg (by rw [sizeLine_eq];lia)]
 have hsz:(es.map (·.1)).size=es.size:=by simp
 obtain ⟨t',ord,e1,e2,e3,e4,e5,e6,e7⟩:=xQ hk t.finger (t.movedTo (sizeAbove (grown es.size)-1)) t.led t.plain (es.map (·.1)) (by rw [hsz];lia)
 rw [hsz] at e6
 have mem:∀i∈ord.toList,i < es.size:=fun i hi=>List.mem_range.mp (e6.mem_iff.mp hi)
 have eo:(ord.filterMap (es[·]?)).toList=ord.toList.filterMap (es.toList[·]?):=by
  rw [Array.toList_filterMap]
  congr 1
  funext i
  simp
 have elx:(ord.filterMap (es[·]?)).toList=(ord.toList.filterMap (xs[·]?)).map (mB knd):=by
  rw [eo,el,dq xs _ fun i hi=>by rw [<- sz];exact mem i hi]
 have esz:(ord.filterMap (es[·]?)).size=es.size:=by
  rw [<- Array.length_toList,eo,o6 _ _ fun i hi=>by simpa using mem i hi,e6.length_eq,List.length_range]
 have er:t.relaid (es.map (·.1)) (grown es.size)=some (t',ord):=e1
 have hh:(ord.filterMap (es[·]?)).toList.map (·.1)=ord.toList.map fun i=>(es.map (·.1)).getD i 0:=by
  rw [eo,dq es.toList _ fun i hi=>by simpa using mem i hi]
  rw [mE _ _ fun i hi=>by simpa using mem i hi]
  congr 1
  funext i
  congr 1
  apply Array.ext'
  simp
 have pm:(ord.toList.filterMap (xs[·]?)).Perm xs:=uq (by rw [<- sz];exact e6)
 have st:=stored (es':=ord.filterMap (es[·]?)) (t':=t') ho hd
 have fin:wpAny (model prog w) A (storeSet a (ord.filterMap (es[·]?)) t') Q E s:=by
  refine wpAny_storeSet_of ho hd ?_ (by rw [esz,sizeLine_eq];lia)
  refine q _ _ _ _ _ _ (Heap.SameBut.update _ _ _) ⟨st,hex,rfl,elx,by rw [hh];exact e7,by rw [esz,e2];lia,by rw [esz,e2];lia,by rw [e4];exact hp,by rw [e3];exact hled,fun x hx=>zA SK _ ho hd (his x (pm.mem_iff.mp hx)),?_⟩ pm
  exact (pm.map _).nodup_iff.mpr hnd
 rw [er]
 refine wpAny_bind ?_
 have hne:((ord.filterMap (es[·]?)).size != es.size)=false:=by rw [esz];exact bne_self_eq_false _
 show wpAny (model prog w) A (if ((ord.filterMap (es[·]?)).size != es.size)=true then (do unsupported "internal:set-table-lost-an-element";pure (ord.filterMap (es[·]?),t')) else pure (ord.filterMap (es[·]?),t')) _ E s
 rw [hne,if_neg Bool.false_ne_true]
 exact wpAny_pure fin
end
end ST
end
section
namespace ST
open PySem PySem.Spec PySem.SetTable
section
variable {prog:Program} {w:World} {K:Type} [DecidableEq K] {knd:HeapKind prog w K} {A:Around} {E:Value->Shared->Prop} {s:Shared} {led:Bool} {h:Heap} {a:Addr} {o:Obj} {es:Array (Int×Value)} {ep:Nat} {t:SetTable} {xs:List (K×Addr)}
noncomputable def eQ (xs:List (K×Addr)) (k:K) (b:Addr):List (K×Addr):=if k∈xs.map (·.1) then xs else xs++[(k,b)]
theorem nP (SK:j9 knd) (S:SetIs knd led s.heap a o es ep t xs) {k:K} {b:Addr} (hr:knd.room A) (hk:knd.is s.heap k b) (hl:xs.length<=1000) {Q:Bool->Shared->Prop}
  (q:∀r h' o' es' ep' t' xs',Heap.SameBut a s.heap h'->SetIs knd led h' a o' es' ep' t' xs'->xs'.Perm (eQ xs k b)->Q r { s with heap:=h' }):wpAny (model prog w) A (setAddHashed a (.ref b) (knd.hash k)) Q E s:=by
 have sz:=S.size
 have big:=S.big
 unfold setAddHashed setAddHashedIn
 refine wpAny_holding (wpAny_bind (wpAny_setState_of S.ob S.da S.fits ?_))
 dsimp only
 rw [show byScan (.ref b) es=false from rfl,if_neg Bool.false_ne_true]
 unfold setSearch
 obtain ⟨kk,hkk⟩:=S.tb.pow
 have few:=S.few
 obtain ⟨y,y1,y2⟩:=nN (mask:=t.mask) (g:=t.place.toList) (by have:=S.psize;simp;lia)
 obtain ⟨d,d1,d2⟩:=xK (b:=bits (knd.hash k)) hkk (oZ _) y1
 refine wpAny_bind (gY SK S hr hk (fun u u1 u2 u3=>?_) (fun hm=>?_) d 0 100000 none rfl (by rw [Nat.zero_add,d2];exact y2) (by unfold turns;lia) (by lia) (fun v hv=>absurd hv (Nat.not_lt_zero _)))
 ·dsimp only
  refine wpAny_bind (wpAny_setState_of S.ob S.da S.fits ?_)
  dsimp only
  rw [B0 S.tb.nd]
  dsimp only
  have T1:=S.tb.put (h:=knd.hash k) u1 u2
  generalize hp:below t.place (pth t.mask (bits (knd.hash k)) u).j=p at *
  rw [if_pos S.pl]
  refine wpAny_bind (SK.byv hk ?_)
  simp only [if_true]
  have e1:(insertAt es p (knd.hash k,Value.ref b)).toList=es.toList.take p++(knd.hash k,.ref b)::es.toList.drop p:=dm _ _ _
  have sz1:(insertAt es p (knd.hash k,Value.ref b)).size=es.size+1:=by rw [<- Array.length_toList,e1,iu];simp
  have el1:(insertAt es p (knd.hash k,Value.ref b)).toList=(xs.take p++(k,b)::xs.drop p).map (mB knd):=by
   rw [e1,S.el,List.map_append,List.map_cons,List.map_take,List.map_drop];rfl
  have hs1:(insertAt es p (knd.hash k,Value.ref b)).toList.map (·.1)=(es.toList.map (·.1)).take p++knd.hash k::(es.toList.map (·.1)).drop p:=by
   rw [e1,List.map_append,List.map_cons,List.map_take,List.map_drop]
  have pm1:(xs.take p++(k,b)::xs.drop p).Perm (eQ xs k b):=by
   unfold eQ
   rw [if_neg u3]
   have h1:(xs.take p++(k,b)::xs.drop p).Perm ((k,b)::(xs.take p++xs.drop p)):=List.perm_middle
   rw [List.take_append_drop] at h1
   exact h1.trans (List.perm_append_singleton (k,b) xs).symm
  have nd1:((xs.take p++(k,b)::xs.drop p).map (·.1)).Nodup:=by
   refine (pm1.map _).nodup_iff.mpr ?_
   unfold eQ
   rw [if_neg u3,List.map_append,List.nodup_append]
   exact ⟨S.nd,by simp,fun x hx z hz e=>u3 (by simp at hz;rw [<- hz,<- e];exact hx)⟩
  have is1:∀x∈xs.take p++(k,b)::xs.drop p,knd.is s.heap x.1 x.2:=fun x hx=>by
   rcases fS.mp hx with rfl | hx
   ·exact hk
   ·exact S.is x hx
  refine wpAny_bind (wpAny_storeSet_of S.ob S.da ?_ (by rw [sz1,sizeLine_eq];lia))
  have st:=stored (es':=insertAt es p (knd.hash k,Value.ref b)) (t':={ t with place:=insertAt t.place p (pth t.mask (bits (knd.hash k)) u).j }) S.ob S.da
  have ps1:(insertAt t.place p (pth t.mask (bits (knd.hash k)) u).j).size=es.size+1:=by
   rw [<- Array.length_toList,dm,iu];have:=S.psize;simp;lia
  have is2:∀x∈xs.take p++(k,b)::xs.drop p,knd.is (s.heap.update a (Obj.putSet (insertAt es p (knd.hash k,Value.ref b)) { t with place:=insertAt t.place p (pth t.mask (bits (knd.hash k)) u).j })) x.1 x.2:=fun x hx=>zA SK _ S.ob S.da (is1 x hx)
  simp only [Bool.not_false,Bool.true_and]
  by_cases hf:({ t with place:=insertAt t.place p (pth t.mask (bits (knd.hash k)) u).j }:SetTable).tooFull=true
  ·rw [if_pos hf]
   refine wpAny_bind ?_
   rw [<- sz1]
   refine EK (s:={ s with heap:=s.heap.update a (Obj.putSet (insertAt es p (knd.hash k,Value.ref b)) { t with place:=insertAt t.place p (pth t.mask (bits (knd.hash k)) u).j }) }) SK st S.ex rfl el1 (by rw [hs1];exact T1) (by rw [sz1];show es.size+1<=t.mask;lia) S.pl S.ld is2 nd1 (by rw [sz1];lia) (by rw [sz1];lia) fun h' o' es' ep' t' xs' sb S' pm'=>?_
   exact wpAny_pure (q true h' o' es' ep' t' xs' ((Heap.SameBut.update _ _ _).trans sb) S' (pm'.trans pm1))
  ·rw [if_neg hf]
   refine wpAny_pure (q true _ _ _ _ _ _ (Heap.SameBut.update _ _ _) ⟨st,S.ex,rfl,el1,by rw [hs1];exact T1,?_,?_,S.pl,S.ld,is2,nd1⟩ pm1)
   ·unfold SetTable.tooFull SetTable.fill at hf
    simp only [decide_eq_true_eq,ps1,S.tb.nd,Array.size_empty] at hf
    rw [sz1]
    show (es.size+1)*5 < t.mask*3
    lia
   ·rw [sz1]
    show t.mask+1<=_
    lia
 ·dsimp only
  refine wpAny_pure ?_
  have:=q false s.heap o es ep t xs (Heap.SameBut.refl _ _) S (by unfold eQ;rw [if_pos hm])
  exact this
end
end ST
end
section
namespace ST
open PySem PySem.Spec PySem.SetTable PyProof.Rows
section
variable {prog:Program} {w:World}
theorem xR (n:Nat) {A:Around} {E:Value->Shared->Prop} {s:Shared} {i:Int} {tk:Tok} {Q:Bool->Shared->Prop} (q:Q false s):wpAny (model prog w) A (ofAClassStatement n (.int i tk)) Q E s:=by
 cases n <;> exact wpAny_pure q
theorem xS (n:Nat) {A:Around} {E:Value->Shared->Prop} {s:Shared} {i:Int} {tk:Tok} {Q:Bool->Shared->Prop} (q:Q true s):wpAny (model prog w) A (hashByValue n (.int i tk)) Q E s:=by
 cases n <;> exact wpAny_pure q
theorem items_int:∀{ks:List Int} {vs:List Value},ItemsAre (intKind prog w) ks vs->∀v∈vs,∃i tk,v=.int i tk
 | _,_,.nil,v,h=>absurd h List.not_mem_nil
 | _,_,.cons (k:=k) (v:=u) h1 hr,v,h=>by
  rcases List.mem_cons.mp h with rfl | h
  ·have:Value.isInt k v=true:=h1
   obtain ⟨t,e⟩:=Value.isInt_shape this
   exact ⟨k,t,e⟩
  ·exact items_int hr v h
end
end ST
end
section
namespace ST
open PySem PySem.Spec PySem.SetTable PyProof.Rows L2
noncomputable def kd (w:World):Bool:=!(w.params.followText "set-order")
section
variable {prog:Program} {w:World} {A:Around} {E:Value->Shared->Prop} {s:Shared}
noncomputable def o7 (led:Bool):Obj:={ cls:=.type "set",dict:=none,data:=.set #[] 0 (.fresh 0 0 led) }
end
end ST
end
section
namespace L2
open PySem PySem.Spec PyProof.Rows
theorem Inv.turnedL {X:Cx} {s:Shared} {h':Heap} {t':Nat} {fp:List Addr} (I:Inv X pins σ H s) (k:∀b o,b∉fp->s.heap.get? b=some o->h'.get? b=some o) (hf:∀b∈fp,g9 X pins H b) :
  Inv X pins σ H { s with heap:=h',toks:=t' }:=by
 have ne:∀b u,H b=some u->b∉fp:=fun b u q z=>by rw [(hf b z).1] at q;cases q
 refine I.step (g':=s.gens) (d':=s.drawn) (ch:=fp) (fun b hb=>?_) (fun b o _ _ hc q _=>k b o hc q) (fun b o _ _ hc q _=>⟨o.slots,k b o hc q⟩) (fun _ _ _ _ n=>n)
  (fun b o hc q=>⟨o,k b o hc q⟩) (fun _ _ q=>q) (fun _ _ _ q=>q) (fun b ps q=>⟨#[],by rw [q];simp⟩) (fun m hm=>?_) (fun b u q=>?_) I.bare
 ·obtain ⟨e0,e1,_,e3,e4,e5⟩:=hf b hb
  exact ⟨e3,e1,e4,e5⟩
 ·obtain ⟨o,es,ep,ho,r⟩:=hm
  exact ⟨o,es,ep,k _ o (fun z=>(hf _ z).2.1 rfl) ho,r⟩
 ·refine (I.hok b u q).stay (fun c v hc z=>k c v ?_ z) (fun _ z=>z) fun _ _ z=>z
  rcases hc with y | y
  ·rw [y];exact ne b u q
  ·exact ne c _ y
noncomputable def Itz (K:PySem.W.Frag) (l1 l2:Addr):It:=
 ⟨fun i H=>∃xs ys x y,SqL K H l1 xs/\SqL K H l2 ys/\xs[i]?=some x/\ys[i]?=some y,fun i H x H'=>∃p,H p=none/\x=.ref p/\∀xs ys,SqL K H l1 xs->SqL K H l2 ys->∃y z,xs[i]?=some y/\ys[i]?=some z/\H'=upd H p (.tup [y,z]),
  fun i H=>∃xs ys,SqL K H l1 xs/\SqL K H l2 ys/\(xs.length<=i\/ys.length<=i)⟩
theorem ur {P:Program} {w:World} {elts:List Expr} {x1} {tp:Pos} (z TI TO i1 i2 l1 l2:Addr) (D:ZipApart z TI TO i1 i2 l1 l2) :
  Turn P w K (.Tuple elts x1 tp) (Itz K l1 l2) [z,TI,TO,i1,i2] z (fun i h=>IsZip h z TI TO .none/\IsPair h TI (.ref i1) (.ref i2)/\(∃a b,IsPair h TO a b)/\h.IsListIter i1 l1 i/\h.IsListIter i2 l2 i) where
 mem:=by simp
 obj:=fun i h zq b hb=>by
  obtain ⟨hz,hTI,⟨a,c,hTO⟩,⟨o1,q1,c1,d1⟩,⟨o2,q2,c2,d2⟩⟩:=zq
  simp only [List.mem_cons,List.not_mem_nil,or_false] at hb
  rcases hb with rfl | rfl | rfl | rfl | rfl
  ·exact ⟨_,hz,fun v e=>by
    have e':Data.fields _=Data.cell v:=e
    cases e'⟩
  ·exact ⟨_,hTI,fun v e=>by
    have e':Data.seq _ _=Data.cell v:=e
    cases e'⟩
  ·exact ⟨_,hTO,fun v e=>by
    have e':Data.seq _ _=Data.cell v:=e
    cases e'⟩
  ·exact ⟨o1,q1,fun v e=>by rw [d1] at e;cases e⟩
  ·exact ⟨o2,q2,fun v e=>by rw [d2] at e;cases e⟩
 keep:=fun i h h' zq k=>by
  obtain ⟨hz,hTI,⟨a,c,hTO⟩,s1,s2⟩:=zq
  exact ⟨k z (by simp) _ hz,k TI (by simp) _ hTI,⟨a,c,k TO (by simp) _ hTO⟩,s1.at fun o q=>k i1 (by simp) o q,s2.at fun o q=>k i2 (by simp) o q⟩
 item:=by
  intro X hP hw hK hc i pins s σ H E I hf zq hg
  subst hP hw hK
  obtain ⟨hz,hTI,⟨a,c,hTO⟩,s1,s2⟩:=zq
  obtain ⟨xs,ys,x,y,hq1,hq2,hx,hy⟩:=hg
  obtain ⟨its1,rv1,p1,hz1⟩:=I.list hq1
  obtain ⟨its2,rv2,p2,hz2⟩:=I.list hq2
  obtain ⟨u1,hu1,ru1⟩:=rv1.get hx
  obtain ⟨u2,hu2,ru2⟩:=rv2.get hy
  refine wpAny_pyNext_zip_item D hz hTI hTO s1 s2 p1.isList p2.isList (x:=u1) (y:=u2) (by simpa using hu1) (by simpa using hu2) fun h' a1 a2 a3 a4 a5 a6 a7=>⟨_,rfl,wpAny_letOwnedTupleGo_zip (s:={ s with heap:=h' }) a1 fun h2 b1 b2=>?_⟩
  have kb:∀b o,b≠z->h'.get? b=some o->h2.get? b=some o:=fun b o hb q=>(b2.2 b hb).trans q
  have I2:Inv X pins σ H { s with heap:=h2,toks:=s.toks }:=I.turnedL (fp:=[z,TI,TO,i1,i2]) (fun b o nb q=>by
   simp only [List.mem_cons,List.not_mem_nil,or_false,not_or] at nb
   exact kb b o nb.1 (a7 b o nb.1 nb.2.2.1 nb.2.2.2.1 nb.2.2.2.2 q)) hf
  have np:H s.heap.objs.size=none:=I.hok.fresh (Nat.le_refl _)
  obtain ⟨_,f1,_,f3,f4,f5⟩:=I.fpOk (H':=H) (b:=s.heap.objs.size) (Nat.le_refl _) np
  have nn:∀{b o},s.heap.get? b=some o->s.heap.objs.size≠b:=fun q=>Nat.ne_of_gt (Heap.lt_size q)
  have hTI':IsPair h2 TI (.ref i1) (.ref i2):=kb _ _ D.TIz (a7 _ _ D.TIz D.TITO D.TIi1 D.TIi2 hTI)
  refine ⟨.ref s.heap.objs.size,upd H s.heap.objs.size (.tup [x,y]),I2.track np I.sz f1 f4 f5 ⟨by rw [sizeLine_eq];exact Nat.le_of_ble_eq_true rfl,[u1,u2],.cons ru1 (.cons ru2 .nil),⟨_,kb _ _ (nn hz) a5,rfl,_,rfl⟩⟩,rfl,
   ⟨_,np,rfl,fun zs ws h1 h2=>⟨x,y,by rw [I.list_inj h1 hq1];exact hx,by rw [I.list_inj h2 hq2];exact hy,rfl⟩⟩,
   ⟨b1,hTI',⟨_,_,kb _ _ D.TOz a2⟩,a3.at fun o q=>kb i1 o D.i1z q,a4.at fun o q=>kb i2 o D.i2z q⟩,fun b hb=>?_⟩
  have hbn:=(hf b hb).1
  obtain ⟨ob,hob⟩:∃o,s.heap.get? b=some o:=by
   obtain ⟨o1,q1,_⟩:=id s1
   obtain ⟨o2,q2,_⟩:=id s2
   simp only [List.mem_cons,List.not_mem_nil,or_false] at hb
   rcases hb with rfl | rfl | rfl | rfl | rfl
   ·exact ⟨_,hz⟩
   ·exact ⟨_,hTI⟩
   ·exact ⟨_,hTO⟩
   ·exact ⟨_,q1⟩
   ·exact ⟨_,q2⟩
  rw [aL (Ne.symm (nn hob))]
  exact hbn
 done:=by
  intro X hP hw hK hc i pins s σ H E I hf zq hg
  subst hP hw hK
  obtain ⟨hz,hTI,⟨a,c,hTO⟩,s1,s2⟩:=zq
  obtain ⟨xs,ys,hq1,hq2,hx⟩:=hg
  obtain ⟨its1,rv1,p1,hz1⟩:=I.list hq1
  obtain ⟨its2,rv2,p2,hz2⟩:=I.list hq2
  have e1:=rv1.length
  have e2:=rv2.length
  refine wpAny_pyNext_zip_end (I.ok.hd hc) D hz hTI hTO s1 s2 p1.isList p2.isList ?_ fun h' hk=>⟨rfl,I.turnedL (t':=s.toks) (fp:=[z,TI,TO,i1,i2]) (fun b o nb q=>by
   simp only [List.mem_cons,List.not_mem_nil,or_false,not_or] at nb
   exact hk b o nb.1 nb.2.2.1 nb.2.2.2.1 nb.2.2.2.2 q) hf⟩
  rcases hx with hx | hx
  ·exact .inl (Array.getElem?_eq_none (by simp;lia))
  ·exact .inr (Array.getElem?_eq_none (by simp;lia))
 self:=fun _ _ _ _ _ zq h=>wpAny_pyIter_zip zq.1 h
section
variable {X:Cx}
noncomputable def EL (K:PySem.W.Frag) (ta:TA):TI:=fun σ H R=>ta σ H fun vs H1=>∃l1 l2,vs=[.ref l1,.ref l2]/\(∃xs,SqL K H1 l1 xs)/\(∃xs,SqL K H1 l2 xs)/\R (Itz K l1 l2) H1
theorem B4 {a b:Expr} {ta:TA} {p pos tp:Pos} {elts:List Expr} {x1} (hg:Gl X "zip") (hm:X.mg "zip"=none) (ha:PA X [a,b] ta) (hs:starEach [a,b] X.env=(false,eval a X.env)::starEach [b] X.env:=by rfl) (hpl:(backTo pos (starEach [b] X.env)).any (·.1)=false:=by rfl):PI X (.Tuple elts x1 tp) (.Call (.Name "zip" p) [a,b] [] pos) (EL X.K ta):=by
 intro pins s σ H R I h
 refine Call_ (gj I hg hm boot_zip (PyProof.Rows.callWith_type1 (thn (ha pos pins s σ H _ I h) fun us s1 zr1=>?_) hs hpl))
 obtain ⟨vs,H1,I1,r1,q1⟩:=zr1
 obtain ⟨l1,l2,e,⟨xs,hq1⟩,⟨ys,hq2⟩,q⟩:=q1
 subst e
 obtain ⟨u1,u2,rfl,ru1,ru2⟩:=vals2 r1
 cases ru1;cases ru2
 obtain ⟨its1,rv1,pl1,hz1⟩:=I1.list hq1
 obtain ⟨its2,rv2,pl2,hz2⟩:=I1.list hq2
 refine call_zip_2 pl1.isList pl2.isList fun h' g1 g2 g3 g4 g5 g6 g7=>?_
 have I2:Inv X pins σ H1 { s1 with heap:=h' }:=I1.kept (t':=s1.toks) g7
 have lt1:l1 < s1.heap.objs.size:=by obtain ⟨o,e,_⟩:=pl1.isList;exact Heap.lt_size e
 have lt2:l2 < s1.heap.objs.size:=by obtain ⟨o,e,_⟩:=pl2.isList;exact Heap.lt_size e
 have ap:ZipApart (s1.heap.objs.size+4) (s1.heap.objs.size+2) (s1.heap.objs.size+3) s1.heap.objs.size (s1.heap.objs.size+1) l1 l2:=by
  constructor <;> (intro e;have e:(_:Nat)=_:=e;lia)
 refine wpAny_pyIter_zip (s:={ s1 with heap:=h' }) g1 ⟨s1.heap.objs.size+4,[s1.heap.objs.size+4,s1.heap.objs.size+2,s1.heap.objs.size+3,s1.heap.objs.size,s1.heap.objs.size+1],_,Itz X.K l1 l2,H1,rfl,I2,ur _ _ _ _ _ l1 l2 ap,⟨g1,g2,⟨_,_,g3⟩,g4,g5⟩,fun b hb=>?_,q⟩
 have hb':s1.heap.objs.size<=b:=by
  simp only [List.mem_cons,List.not_mem_nil,or_false] at hb
  rcases hb with rfl | rfl | rfl | rfl | rfl
  all_goals first | exact Nat.le_add_right _ _ | exact Nat.le_refl _
 exact I1.fpOk hb' (I1.hok.fresh hb')
end
end L2
namespace VL
open PySem L2
section
variable {K:PySem.W.Frag} {X:Cx} {a b:Expr} {tr:TA} {vr:VTA} {S:List Sl} {QN:List D->List Sl->Prop} {p pos tp:Pos}
noncomputable def zpD (ds es:List D):List D:=(ds.zip es).map fun x=>.tup [x.1,x.2]
theorem xT (ds es:List D):(zpD ds es).length=min ds.length es.length:=by simp [zpD]
theorem B5 {ds es:List D} {i:Nat} {d e:D} (h:ds[i]?=some d) (h':es[i]?=some e):(zpD ds es)[i]?=some (.tup [d,e]):=by
 unfold zpD
 rw [List.getElem?_map,(List.getElem?_zip_eq_some (z:=(d,e))).mpr ⟨h,h'⟩]
 rfl
noncomputable def EM (vr:VTA):VTN:=fun S Q=>vr S fun rs S1=>∃ds es,rs=[.d (.lst ds),.d (.lst es)]/\Q (zpD ds es) S1
theorem B6 {elts:List Expr} {x1} (hK:X.K=K) (hg:Gl X "zip") (hm:X.mg "zip"=none) (ha:VA K X false [a,b] tr vr) (hs:starEach [a,b] X.env=(false,eval a X.env)::starEach [b] X.env:=by rfl) (hpl:(backTo pos (starEach [b] X.env)).any (·.1)=false:=by rfl) :
  VI K X (.Tuple elts x1 tp) (.Call (.Name "zip" p) [a,b] [] pos) (EL K tr) (EM vr):=⟨by subst hK;exact B4 hg hm ha.pe hs hpl,fun H0 Z σ H S Q C k t hc=>
 ha.snd H0 Z σ H S _ _ k t fun vs H1 rs S1 k1 st1 rrs zq1=>by
  obtain ⟨ds,es,e,q⟩:=zq1
  subst e
  cases rrs with
  | @cons v1 _ _ _ rv1 rr=>
  obtain ⟨v2,rfl,rv2⟩:=rr.one
  have rv1:Rep K _ _ H1 v1 (.lst ds):=rv1
  have rv2:Rep K _ _ H1 v2 (.lst es):=rv2
  obtain ⟨l1,xs,rfl,hq1,_⟩:=rv1.sqL
  obtain ⟨l2,ys,rfl,hq2,_⟩:=rv2.sqL
  refine ⟨l1,l2,rfl,⟨xs,hq1⟩,⟨ys,hq2⟩,hc _ (zpD ds es) H1 S1 k1 st1 (fun σ2 S2 H2 nm st2 i=>?_) q⟩
  obtain ⟨_,xs',e,hx2,r1⟩:=(rv1.stp st2).sqL
  cases e
  obtain ⟨_,ys',e,hy2,r2⟩:=(rv2.stp st2).sqL
  cases e
  rw [xT]
  refine ⟨fun hi=>?_,fun x H3 hy hi=>?_,fun hi=>⟨xs',ys',hx2,hy2,by rw [r1.length,r2.length];lia⟩⟩
  ·obtain ⟨x,h1,_⟩:=r1.getD (List.getElem?_eq_getElem (show i < ds.length by lia))
   obtain ⟨y,h2,_⟩:=r2.getD (List.getElem?_eq_getElem (show i < es.length by lia))
   exact ⟨xs',ys',x,y,hx2,hy2,h1,h2⟩
  ·obtain ⟨p,hp,rfl,hy⟩:=hy
   obtain ⟨y,z,h2,h3,rfl⟩:=hy xs' ys' hx2 hy2
   obtain ⟨d,h4,h5⟩:=r1.get h2
   obtain ⟨d',h6,h7⟩:=r2.get h3
   have g:=aY (o:=.tup [y,z]) hp
   exact ⟨g,_,B5 h4 h6,.tup (nm p hp) (.inl aK) (.cons (h5.mono (fun b n z=>⟨n,g b z⟩) fun _ _=>trivial) (.cons (h7.mono (fun b n z=>⟨n,g b z⟩) fun _ _=>trivial) .nil))⟩⟩
@[irreducible] noncomputable def xU (QN:List D->List Sl->Prop):List VR->List Sl->Prop:=fun rs S1=>∃ds es,rs=[.d (.lst ds),.d (.lst es)]/\QN (zpD ds es) S1
theorem EN (h:vr S (xU QN)):EM vr S QN:=by unfold xU at h;exact h
theorem B7 {ds es:List D} (h:QN (zpD ds es) S):xU QN [.d (.lst ds),.d (.lst es)] S:=by unfold xU;exact ⟨ds,es,rfl,h⟩
end
end VL
end
section
namespace KT
open PySem PySem.Spec L2 SeqAt PySem.W
section
variable {prog:Program} {w:World}
noncomputable abbrev inn (prog:Program) (w:World):HeapKind prog w (List Int):=tupleKind (intKind prog w)
noncomputable def Inn (prog:Program) (w:World) (h:Heap) (ks:List Int) (v:Value):Prop:=∃b,v=.ref b/\(inn prog w).is h ks b
noncomputable def jf (prog:Program) (w:World) (h:Heap) (kss:List (List Int)) (a:Addr):Prop:=∃items,h.IsTuple a items/\Paired (Inn prog w h) kss items.toList
theorem Paired.uniq {α β:Type} {F:α->β->Prop} (hF:∀a a' b,F a b->F a' b->a=a'):∀{x y:List α} {v:List β},Paired F x v->Paired F y v->x=y
 | _,_,_,.nil,.nil=>rfl
 | _,_,_,.cons a t,.cons b u=>by rw [hF _ _ _ a b,Paired.uniq hF t u]
theorem Paired.sizes {α β:Type} {F:α->β->Prop}:∀{x:List α} {v:List β},Paired F x v->x.length=v.length
 | _,_,.nil=>rfl
 | _,_,.cons _ t=>by rw [List.length_cons,List.length_cons,Paired.sizes t]
theorem Paired.nth {α β:Type} {F:α->β->Prop}:∀{x:List α} {v:List β},Paired F x v->∀(j:Nat) (b:β),v[j]?=some b->∃a,x[j]?=some a/\F a b
 | _,_,.nil,j,b,h=>by simp at h
 | _,_,.cons (a:=a) r t,0,b,h=>⟨_,rfl,by cases h;exact r⟩
 | _,_,.cons r t,j+1,b,h=>Paired.nth t j b h
theorem jf.one {h:Heap} {a:Addr} {x y:List (List Int)} (hx:jf prog w h x a) (hy:jf prog w h y a):x=y:=by
 obtain ⟨i1,⟨o1,g1,_,n1,d1⟩,p1⟩:=hx
 obtain ⟨i2,⟨o2,g2,_,n2,d2⟩,p2⟩:=hy
 rw [g1] at g2
 cases g2
 rw [d1] at d2
 cases d2
 refine Paired.uniq (fun k k' v z z'=>?_) p1 p2
 obtain ⟨b,rfl,q⟩:=z
 obtain ⟨b',e,q'⟩:=z'
 cases e
 exact (inn prog w).inj q q'
theorem jf.stays {h h':Heap} {a d:Addr} {x:List (List Int)} {o:Obj} {es:Array DictEntry} {ep:Nat} (hx:jf prog w h x a) (ho:h.get? d=some o) (hd:o.data=.dict es ep) (hs:Heap.SameBut d h h'):jf prog w h' x a:=by
 obtain ⟨its,⟨oa,ga,ca,n,da⟩,p⟩:=hx
 have hne:a≠d:=fun z=>by
  subst z
  rw [ga] at ho
  cases ho
  rw [da] at hd
  cases hd
 exact ⟨its,⟨oa,(hs.2 a hne).trans ga,ca,n,da⟩,Paired.mapP p fun k v z=>let ⟨b,e,q⟩:=z;⟨b,e,(inn prog w).keeps q ho hd hs⟩⟩
noncomputable def uu (prog:Program) (w:World) (kss:List (List Int)):Int:=reduceHash (Builtin.Tuple.tupleHashOf (kss.map (inn prog w).hash))
noncomputable def cost (kss:List (List Int)):Nat:=(kss.map fun ks=>ks.length+1).sum
theorem xV {A:Around} {E:Value->Shared->Prop} (hu:A.units < cLine):∀(kss:List (List Int)) (vs:List Value) (b:Array Int) (s:Shared) (Q:Array Int->Shared->Prop),Paired (Inn prog w s.heap) kss vs ->
  (∀b',b'.toList=b.toList++kss.map (inn prog w).hash->Q b' { s with toks:=s.toks+cost kss })->wpAny (model prog w) A (forIn vs b fun x r=>do let h <- pyHash x;pure PUnit.unit;pure (ForInStep.yield (r.push h))) Q E s:=by
 intro kss
 induction kss with
 | nil=>
  intro vs b s Q p q
  cases p
  exact wpAny_pure (q b (by simp))
 | cons ks kss ih=>
  intro vs b s Q p q
  cases p with
  | cons r t=>
   obtain ⟨a,rfl,hk⟩:=r
   rw [List.forIn_cons]
   refine wpAny_bind (wpAny_bind ((inn prog w).pyHash hu hk (wpAny_bind (wpAny_pure (wpAny_pure ?_)))))
   refine ih _ _ { s with toks:=s.toks+(ks.length+1) } Q t fun b' e=>?_
   have:=q b' (by rw [e];simp)
   simpa [cost,Nat.add_assoc] using this
theorem xW {A:Around} {E:Value->Shared->Prop} {s:Shared} {kss:List (List Int)} {a:Addr} {Q:Int->Shared->Prop} (hu:A.units+1 < cLine) (hx:jf prog w s.heap kss a) (h:Q (uu prog w kss) { s with toks:=s.toks+(cost kss+1) }) :
  wpAny (model prog w) A (pyHash (.ref a)) Q E s:=by
 obtain ⟨its,⟨o,g,c,n,d⟩,p⟩:=hx
 refine pyHash_slot (T:="tuple") ⟨o,g,c⟩ F.slot_tuple_hash F.entry_tuple_hash (F.args_tuple_hash_1 _) (beq_builtin_none _) (.inr (by lia)) ?_
 show wpAny _ _ (Builtin.Tuple.tupleItemsOf (.ref a) >>= _) _ _ s
 refine wpAny_bind (wpAny_tupleItemsOf g d ?_)
 refine wpAny_bind ?_
 rw [<- Array.forIn_toList]
 refine xV (by simpa using hu) kss its.toList #[] s _ p fun b' e=>?_
 show wpAny _ _ (retInt (Builtin.Tuple.tupleHashOf b'.toList)) _ _ _
 rw [e]
 exact wpAny_bind (wpAny_mkInt (wpAny_pure ⟨_,_,rfl,by simpa [uu,Nat.add_assoc] using h⟩))
theorem qA {prog':Program} {w':World} {ks:List Int} {vs:List Value} (h:ItemsAre (intKind prog w) ks vs):ItemsAre (intKind prog' w') ks vs:=by
 induction h with
 | nil=>exact .nil
 | cons q _ ih=>exact .cons q ih
theorem o8 {prog':Program} {w':World} {h:Heap} {ks:List Int} {b:Addr} (q:(inn prog w).is h ks b):(inn prog' w').is h ks b:=
 let ⟨o,its,n,g,c,d,i⟩:=q;⟨o,its,n,g,c,d,qA i⟩
theorem xX {A:Around} {E:Value->Shared->Prop} {s:Shared} {x y:List (List Int)} {a b:Addr} {Q:Bool->Shared->Prop} (hu:A.units+1 < cLine) (hx:jf prog w s.heap x a) (hy:jf prog w s.heap y b) (h:Q (decide (x=y)) s) :
  wpAny (model prog w) A (eqBool (.ref a) (.ref b)) Q E s:=by
 by_cases hab:a=b
 ·subst hab
  rw [decide_eq_true (hx.one hy)] at h
  exact EqAt.same _ prog w E Q h
 ·obtain ⟨i1,p1,q1⟩:=hx
  obtain ⟨i2,p2,q2⟩:=hy
  have s1:x.length=i1.size:=(Paired.sizes q1).trans Array.length_toList
  have s2:y.length=i2.size:=(Paired.sizes q2).trans Array.length_toList
  have z:=RcAt.tuples (A:=A) (s:=s) (e:=fun j=>decide (x[j]?=y[j]?)) p1 p2 (by lia) fun j h1 h2 prog' w' E' Q' hq=>by
   obtain ⟨k1,e1,b1,v1,r1⟩:=Paired.nth q1 j i1[j] (by rw [Array.getElem?_toList];exact Array.getElem?_eq_getElem h1)
   obtain ⟨k2,e2,b2,v2,r2⟩:=Paired.nth q2 j i2[j] (by rw [Array.getElem?_toList];exact Array.getElem?_eq_getElem h2)
   rw [v1,v2]
   refine (inn prog' w').eqBool (A:=A.in1) (show A.in1.units < cLine by simpa using hu) (o8 r1) (o8 r2) ?_
   have:decide (x[j]?=y[j]?)=decide (k1=k2):=by rw [e1,e2];exact decide_eq_decide.mpr (by simp)
   rw [<- this]
   exact hq
  refine EqAt.of_refs hab z prog w E Q ?_
  have e:((List.range (min i1.size i2.size)).all (fun j=>decide (x[j]?=y[j]?))&&i1.size==i2.size)=decide (x=y):=by
   rw [Bool.eq_iff_iff,Bool.and_eq_true,List.all_eq_true,decide_eq_true_eq,beq_iff_eq]
   constructor
   ·rintro ⟨f,g⟩
    refine List.ext_getElem? fun j=>?_
    by_cases hj:j < x.length
    ·exact of_decide_eq_true (f j (List.mem_range.mpr (by lia)))
    ·rw [List.getElem?_eq_none (by lia),List.getElem?_eq_none (by lia)]
   ·rintro rfl
    exact ⟨fun j _=>decide_eq_true rfl,by lia⟩
  rw [e]
  exact h
theorem uv {A:Around} {E:Value->Shared->Prop} {s:Shared} {its:Array Value} {a:Addr} {Q:Bool->Shared->Prop} (n:Nat) (ht:s.heap.IsTuple a its) (hq:∀v∈its.toList,∀Q':Bool->Shared->Prop,Q' true s->wpAny (model prog w) A (eqIsQuiet n v) Q' E s) (h:Q true s) :
  wpAny (model prog w) A (eqIsQuiet (n+1) (.ref a)) Q E s:=by
 obtain ⟨o,g,c,m,d⟩:=ht
 have ty:Shared.TypeIs s (.ref a) "tuple":=⟨o,g,c⟩
 unfold eqIsQuiet
 refine wpAny_bind (wpAny_specialOf ty F.slot_tuple_eq.lookup ?_)
 show wpAny _ _ (isInstance (.ref a) (.type "tuple") >>= _) _ _ s
 refine wpAny_bind (wpAny_isInstance ty isSubtype_tuple_tuple ?_)
 simp only [Bool.not_true,Bool.false_eq_true,if_false]
 refine wpAny_bind (wpAny_seqItems g d (wpAny_bind ?_))
 show wpAny _ _ (forIn its _ _) _ _ s
 rw [<- Array.forIn_toList]
 generalize its.toList=l at hq
 induction l with
 | nil=>exact wpAny_pure (wpAny_pure h)
 | cons v l ih=>
  rw [List.forIn_cons]
  refine wpAny_bind (wpAny_bind (hq v List.mem_cons_self _ ?_))
  simp only [Bool.not_true,Bool.false_eq_true,if_false]
  exact wpAny_pure (ih fun u hu=>hq u (List.mem_cons_of_mem _ hu))
theorem B8 {A:Around} {E:Value->Shared->Prop} {s:Shared} {ks:List Int} {a:Addr} {Q:Bool->Shared->Prop} (n:Nat) (hk:(inn prog w).is s.heap ks a) (h:Q true s):wpAny (model prog w) A (eqIsQuiet (n+1) (.ref a)) Q E s:=by
 obtain ⟨o,its,m,g,c,d,i⟩:=hk
 refine uv n ⟨o,g,c,m,d⟩ (fun v hv Q' q=>?_) h
 rw [eqIsQuiet_byValue n (i.byValue v hv)]
 exact wpAny_pure q
theorem B9 {A:Around} {E:Value->Shared->Prop} {s:Shared} {x:List (List Int)} {a:Addr} {Q:Bool->Shared->Prop} (hx:jf prog w s.heap x a) (h:Q true s):wpAny (model prog w) A (eqIsQuiet 8 (.ref a)) Q E s:=by
 obtain ⟨its,p,q⟩:=hx
 refine uv 7 p (fun v hv Q' q'=>?_) h
 obtain ⟨j,hj⟩:=List.getElem?_of_mem hv
 obtain ⟨k,_,b,rfl,r⟩:=Paired.nth q j v hj
 exact B8 6 r q'
noncomputable def tt (prog:Program) (w:World):HeapKind prog w (List (List Int)) where
 is:=jf prog w
 hash:=uu prog w
 draws:=fun kss=>cost kss+1
 room:=fun A=>A.units+1 < cLine
 inj:=fun hx hy=>hx.one hy
 keeps:=fun x ho hd hs=>x.stays ho hd hs
 pyHash:=fun hu hk h=>xW hu hk h
 eqBool:=fun hu hx hy h=>xX hu hx hy h
 quiet:=fun hk h=>B9 hk h
end
end KT
end
section
namespace L2
open PySem PySem.Spec PyProof.Rows KT
noncomputable abbrev T2:=List (List Int)
noncomputable def t2H (k:T2):Int:=reduceHash (Builtin.Tuple.tupleHashOf (k.map tH))
section
variable {X:Cx} {pins:List (Addr×Obj)} {σ:St} {H:Hp} {s:Shared}
noncomputable def uw (K:PySem.W.Frag) (H:Hp) (b:Addr) (k:T2):Prop:=∃bs:List Addr,SqT K H b (bs.map V.ref)/\Paired (fun ms c=>SqT K H c (ms.map V.int)) k bs
theorem ke (I:Inv X pins σ H s):∀{k:T2} {bs:List Addr} {us:List Value},Paired (fun ms c=>SqT X.K H c (ms.map V.int)) k bs->Vals (bs.map V.ref) us->Paired (Inn X.prog X.w s.heap) k us
 | _,_,_,.nil,r=>by rw [List.map_nil] at r;cases r;exact .nil
 | _,_,_,.cons h t,r=>by
  rw [List.map_cons] at r
  cases r with
  | cons h1 t1=>cases h1;exact .cons ⟨_,rfl,Bq I h⟩ (ke I t t1)
theorem o9 {b:Addr} {k:T2} (I:Inv X pins σ H s) (h:uw X.K H b k):(tt X.prog X.w).is s.heap k b:=by
 obtain ⟨bs,hb,hp⟩:=h
 obtain ⟨its,r,ht,_⟩:=I.tuple hb
 exact ⟨its.toArray,ht,by simpa using ke I hp r⟩
theorem xY {A:Around} (hu:A.units+64 < cLine):(tt X.prog X.w).room A.in1:=by
 show A.in1.units+1 < cLine
 simp;lia
end
end L2
namespace VL
open PySem L2 KT
noncomputable def kT2 (k:T2):D:=.tup (k.map kT)
section
variable {K:PySem.W.Frag} {N:AP} {F:FP} {H:Hp}
theorem kf:∀{k:T2} {vs:List L2.V},Reps K N F H vs (k.map kT)->∃bs:List Addr,vs=bs.map L2.V.ref/\Paired (fun ms c=>SqT K H c (ms.map L2.V.int)) k bs
 | [],_,.nil=>⟨[],rfl,.nil⟩
 | ms::k,_,.cons h t=>by
  obtain ⟨a,vs,rfl,hq,rr⟩:=Rep.sqT (show Rep K N F H _ (.tup (ms.map D.int)) from h)
  cases Reps.toInts rr
  obtain ⟨bs,rfl,p⟩:=kf t
  exact ⟨a::bs,rfl,.cons hq p⟩
theorem Rep.key2 {v:L2.V} {k:T2} (h:Rep K N F H v (kT2 k)):∃b,v=.ref b/\uw K H b k:=by
 obtain ⟨a,vs,rfl,hq,rr⟩:=Rep.sqT (show Rep K N F H v (.tup (k.map kT)) from h)
 obtain ⟨bs,rfl,p⟩:=kf rr
 exact ⟨a,rfl,bs,hq,p⟩
end
end VL
end
section
namespace ST
open PySem PySem.Spec PySem.SetTable PyProof.Rows KT
section
variable {prog:Program} {w:World}
theorem Ca (n:Nat) {A:Around} {E:Value->Shared->Prop} {s:Shared} {k:List Int} {a:Addr} {Q:Bool->Shared->Prop} (hk:(inn prog w).is s.heap k a) (q:Q false s):wpAny (model prog w) A (ofAClassStatement (n+1) (.ref a)) Q E s:=by
 have hT:=IsTupleKey.typeIs (s:=s) hk
 obtain ⟨o,items,m,ho,hc,hd,hi⟩:=hk
 unfold ofAClassStatement
 refine wpAny_bind (wpAny_typeOf hT ?_)
 dsimp only
 rw [if_pos (show (("tuple":String)=="tuple")=true from rfl)]
 refine wpAny_bind (wpAny_pure ?_)
 simp only [Bool.not_true,Bool.false_eq_true,if_false]
 refine wpAny_bind (wpAny_seqItems ho hd (wpAny_bind ?_))
 rw [<- Array.forIn_toList]
 refine wpAny_forIn_list _ (fun rest r t=>r.1=none/\t=s/\∀v∈rest,∃i tk,v=Value.int i tk) _ (fun v rest r t z=>?_) (fun r t z=>?_) _ _ ⟨rfl,rfl,items_int hi⟩
 ·obtain ⟨hr,rfl,hall⟩:=z
  obtain ⟨i,tk,rfl⟩:=hall v List.mem_cons_self
  refine wpAny_bind (xR _ ?_)
  simp only [Bool.false_eq_true,if_false]
  exact wpAny_pure ⟨rfl,rfl,fun u hu=>hall u (List.mem_cons_of_mem _ hu)⟩
 ·obtain ⟨r1,r2⟩:=r
  obtain ⟨hr,rfl,_⟩:=z
  simp only at hr
  subst hr
  exact wpAny_pure q
theorem Cb (n:Nat) {A:Around} {E:Value->Shared->Prop} {s:Shared} {k:List Int} {a:Addr} {Q:Bool->Shared->Prop} (hk:(inn prog w).is s.heap k a) (q:Q true s):wpAny (model prog w) A (hashByValue (n+1) (.ref a)) Q E s:=by
 have hT:=IsTupleKey.typeIs (s:=s) hk
 obtain ⟨o,items,m,ho,hc,hd,hi⟩:=hk
 unfold hashByValue
 refine wpAny_bind (wpAny_specialOf hT F.slot_tuple_hash.lookup ?_)
 show wpAny _ _ (seqItems? (.ref a) >>= _) _ _ _
 refine wpAny_bind (wpAny_seqItems ho hd ?_)
 simp only [Option.getD_some]
 refine wpAny_bind ?_
 rw [<- Array.forIn_toList]
 refine wpAny_forIn_list _ (fun rest r t=>r.1=none/\t=s/\∀v∈rest,∃i tk,v=Value.int i tk) _ (fun v rest r t z=>?_) (fun r t z=>?_) _ _ ⟨rfl,rfl,items_int hi⟩
 ·obtain ⟨hr,rfl,hall⟩:=z
  obtain ⟨i,tk,rfl⟩:=hall v List.mem_cons_self
  refine wpAny_bind (xS _ ?_)
  simp only [Bool.not_true,Bool.false_eq_true,if_false]
  exact wpAny_pure ⟨rfl,rfl,fun u hu=>hall u (List.mem_cons_of_mem _ hu)⟩
 ·obtain ⟨r1,r2⟩:=r
  obtain ⟨hr,rfl,_⟩:=z
  simp only at hr
  subst hr
  exact wpAny_pure q
theorem lh {h:Heap}:∀{kss:List (List Int)} {vs:List Value},Paired (Inn prog w h) kss vs->∀v∈vs,∃k b,v=.ref b/\(inn prog w).is h k b
 | _,_,.nil,v,h=>absurd h List.not_mem_nil
 | _,_,.cons r t,v,h=>by
  rcases List.mem_cons.mp h with rfl | h
  ·obtain ⟨b,e,q⟩:=r;exact ⟨_,b,e,q⟩
  ·exact lh t v h
theorem FV:j9 (tt prog w) where
 own:=fun {A E s k a Q} hk q=>by
  obtain ⟨items,⟨o,ho,hc,n,hd⟩,hi⟩:=hk
  unfold ofAClassStatement
  refine wpAny_bind (wpAny_typeOf (T:="tuple") ⟨o,ho,hc⟩ ?_)
  dsimp only
  rw [if_pos (show (("tuple":String)=="tuple")=true from rfl)]
  refine wpAny_bind (wpAny_pure ?_)
  simp only [Bool.not_true,Bool.false_eq_true,if_false]
  refine wpAny_bind (wpAny_seqItems ho hd (wpAny_bind ?_))
  rw [<- Array.forIn_toList]
  refine wpAny_forIn_list _ (fun rest r t=>r.1=none/\t=s/\∀v∈rest,∃k b,v=.ref b/\(inn prog w).is s.heap k b) _ (fun v rest r t z=>?_) (fun r t z=>?_) _ _ ⟨rfl,rfl,lh hi⟩
  ·obtain ⟨hr,rfl,hall⟩:=z
   obtain ⟨k,b,rfl,hb⟩:=hall v List.mem_cons_self
   refine wpAny_bind (Ca _ hb ?_)
   simp only [Bool.false_eq_true,if_false]
   exact wpAny_pure ⟨rfl,rfl,fun u hu=>hall u (List.mem_cons_of_mem _ hu)⟩
  ·obtain ⟨r1,r2⟩:=r
   obtain ⟨hr,rfl,_⟩:=z
   simp only at hr
   subst hr
   exact wpAny_pure q
 byv:=fun {A E s k a Q} hk q=>by
  obtain ⟨items,⟨o,ho,hc,n,hd⟩,hi⟩:=hk
  unfold hashByValue
  refine wpAny_bind (wpAny_specialOf (T:="tuple") ⟨o,ho,hc⟩ F.slot_tuple_hash.lookup ?_)
  show wpAny _ _ (seqItems? (.ref a) >>= _) _ _ _
  refine wpAny_bind (wpAny_seqItems ho hd ?_)
  simp only [Option.getD_some]
  refine wpAny_bind ?_
  rw [<- Array.forIn_toList]
  refine wpAny_forIn_list _ (fun rest r t=>r.1=none/\t=s/\∀v∈rest,∃k b,v=.ref b/\(inn prog w).is s.heap k b) _ (fun v rest r t z=>?_) (fun r t z=>?_) _ _ ⟨rfl,rfl,lh hi⟩
  ·obtain ⟨hr,rfl,hall⟩:=z
   obtain ⟨k,b,rfl,hb⟩:=hall v List.mem_cons_self
   refine wpAny_bind (Cb _ hb ?_)
   simp only [Bool.not_true,Bool.false_eq_true,if_false]
   exact wpAny_pure ⟨rfl,rfl,fun u hu=>hall u (List.mem_cons_of_mem _ hu)⟩
  ·obtain ⟨r1,r2⟩:=r
   obtain ⟨hr,rfl,_⟩:=z
   simp only at hr
   subst hr
   exact wpAny_pure q
 keep:=fun {h h' k a} hk f=>by
  obtain ⟨items,⟨o,ho,hc,n,hd⟩,hi⟩:=hk
  refine ⟨items,⟨o,f a o items n ho hd,hc,n,hd⟩,L2.Paired.mapP hi fun k v z=>?_⟩
  obtain ⟨b,e,o2,it2,n2,g1,g2,g3,g4⟩:=z
  exact ⟨b,e,o2,it2,n2,f b o2 it2 n2 g1 g3,g2,g3,g4⟩
end
end ST
end
section
namespace L2
open PySem PySem.Spec PyProof.Rows PySem.W ST KT
noncomputable def EO (x:T2×Addr):Int×Value:=(t2H x.1,.ref x.2)
noncomputable def SeP2 (w:World) (a:Addr) (xs:List (T2×Addr)) (h:Heap):Prop:=∃o es ep t,SetW (kd w) h a o es ep t/\t.mask+1<=8*(es.size+1)/\es.toList=xs.map EO/\(xs.map (·.1)).Nodup/\xs.length<=1000
noncomputable def ux (w:World) (a:Addr) (xs:List (T2×Addr)):HO:=.ext (SeP2 w a xs)
theorem SeP2.ok {P:Program} {w w':World} {h:Heap} {a:Addr} {xs:List (T2×Addr)} (d:SeP2 w' a xs h):bF P w H h a (ux w' a xs):=
 ⟨d,let ⟨o,_,_,_,S,_⟩:=d;⟨o,S.ob⟩,fun h1 h2 zt1 k=>by obtain ⟨o,es,ep,t,S,r⟩:=zt1;exact ⟨o,es,ep,t,⟨k o S.ob,S.ex,S.da,S.tb,S.few,S.pl,S.ld⟩,r⟩⟩
theorem SeP2.at {w:World} {a:Addr} {xs:List (T2×Addr)} {h h':Heap} (d:SeP2 w a xs h) (e:h'.get? a=h.get? a):SeP2 w a xs h':=by
 obtain ⟨o,es,ep,t,S,r⟩:=d
 exact ⟨o,es,ep,t,⟨e.trans S.ob,S.ex,S.da,S.tb,S.few,S.pl,S.ld⟩,r⟩
theorem SeP2.nocell {w:World} {D:Addr} {xs:List (T2×Addr)} {h:Heap} {o:Obj} (d:SeP2 w D xs h) (e:h.get? D=some o):∀v,o.data≠.cell v:=fun v z=>by
 obtain ⟨o',es,ep,t,S,_⟩:=d
 rw [S.ob] at e;cases e
 rw [S.da] at z;cases z
theorem uy {w:World} {a:Addr} {h:Heap} (e:h.get? a=some (o7 (kd w))):SeP2 w a [] h:=
 ⟨_,#[],0,_,⟨e,⟨rfl,rfl,rfl⟩,rfl,Tb.fresh _ _ _,show 0*5 < 7*3 by decide,rfl,rfl⟩,show 7+1<=8*(0+1) by decide,rfl,List.nodup_nil,Nat.zero_le _⟩
noncomputable def nQ (K:PySem.W.Frag) (H:Hp) (xs:List (T2×Addr)):Prop:=∀x∈xs,uw K H x.2 x.1
section
variable {X:Cx}
theorem Cd {s:Shared} {a:Addr} {xs:List (T2×Addr)} (I:Inv X pins σ H s) (d:SeP2 X.w a xs s.heap) (k:nQ X.K H xs):∃o es ep t,SetIs (tt X.prog X.w) (kd X.w) s.heap a o es ep t xs:=by
 obtain ⟨o,es,ep,t,S,b,e,nd,_⟩:=d
 exact ⟨o,es,ep,t,S.ob,S.ex,S.da,e,S.tb,S.few,b,S.pl,S.ld,fun x hx=>o9 I (k x hx),nd⟩
theorem uz {prog:Program} {w:World} {A:Around} {E:Value->Shared->Prop} {s:Shared} {a b:Addr} {k:T2} {led:Bool} {o:Obj} {es:Array (Int×Value)} {ep:Nat} {t:SetTable} {xs:List (T2×Addr)} {Q:Value->Shared->Prop} (S:SetIs (tt prog w) led s.heap a o es ep t xs) (hr:(tt prog w).room A.in1) (hk:(tt prog w).is s.heap k b) (hl:xs.length<=1000)
  (q:∀h' o' es' ep' t' xs',Heap.SameBut a s.heap h'->SetIs (tt prog w) led h' a o' es' ep' t' xs'->xs'.Perm (eQ xs k b)->Q .none { s with heap:=h',toks:=s.toks+(tt prog w).draws k }):wpAny (model prog w) A (call (.builtin "set.add") [.ref a,.ref b]) Q E s:=by
 have ty:s.TypeIs (.ref a) "set":=⟨_,S.ob,S.ex.1⟩
 refine wpAny_call_entry F.slot_set_add ty F.entry_set_add ?_ (F.args_set_add_2 _ _)
 show wpAny _ A.in1 (setAdd a (.ref b) >>= fun _=>ret Value.none) _ _ s
 refine wpAny_bind (wpAny_holding (wpAny_bind ((tt prog w).pyHash hr hk ?_)))
 have S':SetIs (tt prog w) led ({ s with toks:=s.toks+(tt prog w).draws k }:Shared).heap a o es ep t xs:=S
 exact nP FV S' hr hk hl fun r h' o' es' ep' t' xs' sb S2 p=>wpAny_pure ⟨_,rfl,q h' o' es' ep' t' xs' sb S2 p⟩
theorem xZ {prog:Program} {w:World} {A:Around} {E:Value->Shared->Prop} {s:Shared} {Q:Value->Shared->Prop} (h:Q (.ref s.heap.objs.size) { s with heap:=s.heap.push (o7 (kd w)) }):wpAny (model prog w) A (newSet (.type "set")) Q E s:=by
 unfold newSet
 refine wpAny_bind (wpAny_bind (wpAny_askSetting (wpAny_pure ?_)))
 simp only [newObj]
 exact wpAny_bind (wpAny_alloc (wpAny_pure h))
noncomputable def uA (K:PySem.W.Frag) (w:World) (wi:TI) (n:Nat) (ix:List Nat) (g:TG) (tc:TT) (te:TE):TE:=fun σ H Q=>wi σ H fun J H1=>∃W:Nat->Nat->List (T2×Addr)->Hp->Prop,(∃m,W 0 m [] H1)/\∀i m es H2,W i m es H2 ->
 (J.stop i H2/\∀D,H2 D=none->Q (.ref D) (upd H2 D (ux w D es))) \/
 (J.go i H2/\es.length < 1000/\∃Nx:List (T2×Addr)->Hp->Prop,(∀es' H',Nx es' H'->∃m',m' < m/\W (i+1) m' es' H') /\
  ∀x H3,J.yld i H2 x H3->g x (capt n ix σ) H3 fun σ2 H4=>tc σ2 H4 fun b H5=>if b=true then te σ2 H5 fun y H6=>∃b k,y=.ref b/\uw K H6 b k/\nQ K H6 es/\∀xs',xs'.Perm (eQ es k b)->Nx xs' H6 else Nx es H5)
theorem li (ex target iter:Expr) (ifs:List Expr) (scope:Scope) (pos:Pos) (it acc:Value) (env:Env) :
  compTurn (.SetComp ex [⟨target,iter,ifs,0⟩] scope pos) 0 it acc env=(do
   standAt iter.pos
   match <- pyNext it with
   | none=>pure (.done .next)
   | some v=>
    letOwnedTupleGo target it v
    assign target env v
    let mut ok:=true
    for c in ifs do
     if ok then ok <- isTrue c env (eval c env)
    if ok then
     (do let v <- eval ex env;standAt ex.pos;let _ <- call (.builtin "set.add") [acc,v])
    again (.compLoop (.SetComp ex [⟨target,iter,ifs,0⟩] scope pos) 0 it acc env)):=by rfl
theorem jC {prog:Program} {w:World} {A:Around} {R:Result->Shared->Prop} {s:Shared} {ex target iter ifs rest scope pos it acc env}
  (h0:codeAny (model prog w) A (.compLoop (.SetComp ex (⟨target,iter,ifs,0⟩::rest) scope pos) 0 it acc env) R s)
  (h:wpAny (model prog w) A (pyIter it) (fun it' s'=>codeAny (model prog w) A (.compLoop (.SetComp ex (⟨target,iter,ifs,0⟩::rest) scope pos) 0 it' acc env) R s')
   (notedBy (model prog w) A env fun x s'=>R (.error x) s') s) :
  codeAny (model prog w) A (.compStart (.SetComp ex (⟨target,iter,ifs,0⟩::rest) scope pos) 0 it acc env) R s:=by
 refine codeAny_of_tree ?_
 show wpAny _ A ((compStart (.SetComp ex (⟨target,iter,ifs,0⟩::rest) scope pos) 0 it acc env).onRaise (fun x=>do noteFrame x env;standAt theWindowsPlace)) _ _ s
 refine wpAny_notedAt ?_
 unfold compStart
 show wpAny _ A (ask >>= _) _ _ s
 refine wpAny_bind (wpAny_askSetting (wpAny_ite ?_))
 split
 ·first
   | exact wpAny_bind (wpAny_pure (wpAny_pure ⟨rfl,h0⟩))
   | exact wpAny_pure ⟨rfl,h0⟩
 ·refine wpAny_bind (wpAny_rule ?_)
  show wpAny _ _ (standAt iter.pos >>= _) _ _ s
  exact wpAny_bind (wpAny_standAt (wpAny_bind (wpAny_mono h (fun it' s' z=>wpAny_pure ⟨rfl,z⟩) fun _ _ x=>x)))
theorem uB {ex target iter:Expr} {ifs:List Expr} {scope:Scope} {pos:Pos} {tg cs:List Str} {wi:TI} {g:TG} {tc:TT} {te:TE} (hu:X.A.units+64 < cLine) (S:bq X scope tg cs ix) (hcalm:X.calm=true) (kg:cH tg.length ix g)
    (hi:PI X target iter wi) (hg:∀C fp s H,PG (au X scope (tg++cs) C fp s H) target g) (hc:∀C fp s H,PTs (au X scope (tg++cs) C fp s H) ifs tc) (hk:∀C fp s H,PE (au X scope (tg++cs) C fp s H) ex te)
    (hs:∀x,foldedSetIterable iter X.env x=pure x:=by intro _;rfl):PE X (.SetComp ex [⟨target,iter,ifs,0⟩] scope pos) (uA X.K X.w wi tg.length ix g tc te):=by
  intro pins s σ H Q I h
  rw [arm_eval_SetComp]
  refine wpAny_comprehension_free (use:=none) (cl:=b0 X.env scope.names []) rfl hs (eW fun n hn=>I.ok.has n (S.out n hn)) S.kind S.names ?_
  refine wpAny_mono (hi pins s σ H _ I h) (fun v s1 h1=>wpAny_mono h1 (fun itv s2 h2=>?_) fun _ _ e=>e) fun _ _ e=>e
  obtain ⟨it,fp,tn,J,H2,rfl,I2,T,st2,f2,W,⟨m0,w0⟩,turn⟩:=h2
  refine xZ (wpAny_newFunctionEnv S.nocell (by intro y hy;simp at hy) (fun h1 hns1 hsb1=>?_) S.kind)
  dsimp only at hns1 hsb1 ⊢
  generalize hP:s2.heap.push (o7 (kd X.w))=P2 at hns1 hsb1 ⊢
  have hCs:P2.objs.size=s2.heap.objs.size+1:=by rw [<- hP,Heap.size_push]
  have hDC:s2.heap.objs.size≠P2.objs.size:=by rw [hCs];exact Nat.ne_of_lt (Nat.lt_succ_self _)
  have hCle:s2.heap.objs.size<=P2.objs.size:=by rw [hCs];exact Nat.le_succ _
  generalize hCg:P2.objs.size=C at *
  have old:∀b o,s2.heap.get? b=some o->h1.get? b=some o:=fun b o e=>hsb1.extBut b o (Nat.ne_of_lt (Nat.lt_of_lt_of_le (Heap.lt_size e) hCle)) (Heap.get?_push_of_some _ (hP▸Heap.get?_push_of_some _ e))
  generalize hDg:s2.heap.objs.size=D at *
  have hD0:h1.get? D=some (o7 (kd X.w)):=hsb1.extBut _ _ hDC (Heap.get?_push_of_some _ (hP▸hDg▸Heap.get?_push_size _ rfl))
  have nC:H2 C=none:=I2.hok.fresh (by rw [hDg];exact hCle)
  have nD:H2 D=none:=I2.hok.fresh (by rw [hDg];exact Nat.le_refl _)
  have fo:∀b∈fp,∃o,s2.heap.get? b=some o:=fun b hb=>let ⟨o,e,_⟩:=T.obj _ _ st2 b hb;⟨o,e⟩
  have Dfp:D∉fp:=fun z=>by
    obtain ⟨o,e⟩:=fo D z
    have:=Heap.lt_size e
    rw [hDg] at this
    exact absurd this (Nat.lt_irrefl _)
  have Dfs:D∉frs X.stack:=fun z=>by
    rcases List.mem_cons.mp (I2.stkSub D z) with e | e
    · have:=I2.lt
      rw [<- e,hDg] at this
      exact absurd this (Nat.lt_irrefl _)
    · exact I2.nofs (by rw [hDg];exact Nat.le_refl _) e
  have DcY:∀x c,(b0 X.env scope.names []).lookup x=some c->c≠D:=fun x c e=>by
    rcases dY (PySem.mem_of_lookup e) with h | h
    · cases h
    · exact (I2.fpOk (H':=H2) (b:=D) (by rw [hDg];exact Nat.le_refl _) nD).2.2.2.2.1 x c h
  -- the block's context
  have Yok:∀s4:Shared,s4={ s2 with heap:=h1,toks:=s2.toks+([]:List (Str×Value)).length }->Inv (au X scope (tg++cs) C fp s2 H2) [] (capt tg.length ix σ) H2 s4:=by
    rintro s4 rfl
    exact iN S I2 f2 fo (by rw [hDg];exact hCle) old (by simpa using hns1) rfl I2.bare nC
  -- the loop
  have loop:∀s4:Shared,s4={ s2 with heap:=h1,toks:=s2.toks+([]:List (Str×Value)).length } ->
      codeAny (model X.prog X.w) X.A (.compLoop (.SetComp ex [⟨target,iter,ifs,0⟩] scope pos) 0 (.ref it) (.ref D) (compEnvC scope (b0 X.env scope.names []) C X.env)) (compPost (model X.prog X.w) X.A X.xe none (EP X pins σ Q) (.ref D) C) s4:=by
    intro s4 e4
    refine codeAny_loop rfl (fun n s'=>∃i es o H',Inv (au X scope (tg++cs) C fp s2 H2) [] (capt tg.length ix σ) H' s'/\tn i s'.heap/\(∀b∈fp,H' b=none)/\H' D=none/\s'.heap.get? D=some o/\SeP2 X.w D es s'.heap/\W i n es H')
      ?_ m0 ⟨0,[],_,H2,Yok s4 e4,?_,fun b hb=>(f2 b hb).1,nD,by rw [e4];exact hD0,uy (by rw [e4];exact hD0),w0⟩
    · rintro n s5 ⟨i,es,o,H5,I5,st5,fr5,d5,o5,v5,w5⟩
      show wpAny _ X.A ((compTurn (.SetComp ex [⟨target,iter,ifs,0⟩] scope pos) 0 (.ref it) (.ref D) (compEnvC scope (b0 X.env scope.names []) C X.env)).onRaise (fun x=>do noteFrame x (compEnvC scope (b0 X.env scope.names []) C X.env);theTreesLotGoes x)) _ _ s5
      refine wpAny_noted ?_
      rw [li]
      have pin0:Inv (au X scope (tg++cs) C fp s2 H2) [(D,o)] (capt tg.length ix σ) H5 s5:=I5.pins_of fun p hp=>by
        have e:p=(D,o):=by simpa using hp
        subst e
        exact ⟨o5,d5,hDC,Dfs,v5.nocell o5⟩
      have fpY:∀{H':Hp},(∀b∈fp,H' b=none)->∀b∈fp,g9 (au X scope (tg++cs) C fp s2 H2) [(D,o)] H' b:=fun hn b hb=>
        ⟨hn b hb,(I5.ok.exf b hb).1,fun z=>I5.ok.exfs b hb z,.inl hb,(I5.ok.exf b hb).2,fun p hp z=>by
          have hp:p∈([]:List (Addr×Obj))++[(D,o)]:=hp
          have e:p=(D,o):=by simpa using hp
          subst e
          have z:D=b:=z
          exact Dfp (z▸hb)⟩
      refine wpAny_bind (wpAny_standAt (wpAny_bind ?_))
      rcases turn i n es H5 w5 with ⟨stop,qn⟩ | ⟨go,hz,Nx,hN,step⟩
      · refine thn (T.done (au X scope (tg++cs) C fp s2 H2) rfl rfl rfl hcalm i _ s5 _ H5 _ pin0 (fpY fr5) st5 stop) fun r s6 zr1=>?_
        obtain ⟨hr,I6⟩:=zr1
        subst hr
        refine wpAny_pure ?_
        obtain ⟨mC,hnsC,_⟩:=id I6.loc
        refine ⟨mC,hnsC,fun h' sb=>?_⟩
        have IX:Inv X pins σ H5 s6:=I2.call' (ch:=fp) I6.os I6.base I6.hok I6.bare fun b hb=>let ⟨_,a1,_,a3,a4,a5⟩:=f2 b hb;⟨a3,a1,a4,a5⟩
        obtain ⟨_,c1,_,c3,c4,c5⟩:=I2.fpOk (H':=H5) (b:=C) (by rw [hDg];exact hCle) I6.free
        have IX2:Inv X pins σ H5 { s6 with heap:=h' }:=IX.turned (t':=s6.toks) (fun b o hb e=>(sb.2 b hb).trans e) I6.free c1 c3 c4 c5
        obtain ⟨_,b1,_,b3,b4,b5⟩:=I2.fpOk (H':=H5) (b:=D) (by rw [hDg];exact Nat.le_refl _) d5
        have gD:h'.get? D=some o:=(sb.2 D hDC).trans (I6.pin (D,o) (List.mem_append_right _ List.mem_cons_self)).1
        exact ⟨.ref D,upd H5 D (ux X.w D es),IX2.track d5 (by rw [<- hDg];exact I2.sz) b1 b4 b5 ((v5.at (gD.trans o5.symm)).ok),rfl,qn D d5⟩
      · refine thn (T.item (au X scope (tg++cs) C fp s2 H2) rfl rfl rfl hcalm i _ s5 _ H5 _ pin0 (fpY fr5) st5 go) fun r s6 zr1=>?_
        obtain ⟨u,hr,h6⟩:=zr1
        subst hr
        refine wpAny_bind (thn h6 fun _ s7 zr1=>?_)
        obtain ⟨x,H7,I7,r7,y7,st7,fr7⟩:=zr1
        have I7':=I7.pinned (fpY fr7) (T.obj _ _ st7)
        -- the next turn
        have again:∀{σ2:St} {H8:Hp} {s8:Shared} {es':List (T2×Addr)} {o':Obj},Inv (au X scope (tg++cs) C fp s2 H2) [] σ2 H8 s8->(σ2.length=(capt tg.length ix σ).length/\∀(i:Nat) (v:V),(capt tg.length ix σ)[i]?=some (some v)->σ2[i]?=some (some v)) ->
            (∀b∈fp,∀o,s7.heap.get? b=some o->s8.heap.get? b=some o)->(∀b∈fp,H8 b=none)->H8 D=none->s8.heap.get? D=some o'->SeP2 X.w D es' s8.heap->Nx es' H8 ->
            ∃m,m < n/\∃i es o H',Inv (au X scope (tg++cs) C fp s2 H2) [] (capt tg.length ix σ) H' s8/\tn i s8.heap/\(∀b∈fp,H' b=none)/\H' D=none/\s8.heap.get? D=some o/\SeP2 X.w D es s8.heap/\W i m es H':=by
          intro σ2 H8 s8 es' o' I8 kp fk fn dn dg vv nx
          obtain ⟨m',hm,w8⟩:=hN es' H8 nx
          exact ⟨m',hm,i+1,es',o',H8,I8.weak kp.1.symm kp.2,T.keep _ _ _ st7 fk,fn,dn,dg,vv,w8⟩
        refine wpAny_bind (wpAny_mono (hg C fp s2 H2 _ s7 _ H7 x u _ I7' r7 (kg x σ H7 _ (step x H7 y7))) (fun _ s8 zr1=>?_) fun _ _ z=>z.elim)
        obtain ⟨σ8,H8,I8,kp8,q8⟩:=zr1
        refine wpAny_bind (wpAny_mono (hc C fp s2 H2 _ s8 σ8 H8 _ I8 q8) (fun ok s9 zr1=>?_) fun _ _ z=>z.elim)
        obtain ⟨H9,I9,q9⟩:=zr1
        have pinsOf:∀{σ':St} {H':Hp} {s':Shared},Inv (au X scope (tg++cs) C fp s2 H2) ([(D,o)]++eV fp s7.heap) σ' H' s' ->
            (∀b∈fp,∀o,s7.heap.get? b=some o->s'.heap.get? b=some o)/\(∀b∈fp,H' b=none)/\H' D=none/\s'.heap.get? D=some o:=by
          intro σ' H' s' I'
          refine ⟨fun b hb o e=>(I'.pin (b,o) (List.mem_append_right _ (List.mem_append_right _ (bL hb e)))).1,fun b hb=>?_,(I'.pin (D,o) (List.mem_append_right _ (List.mem_append_left _ List.mem_cons_self))).2.1,(I'.pin (D,o) (List.mem_append_right _ (List.mem_append_left _ List.mem_cons_self))).1⟩
          obtain ⟨o,e,d⟩:=T.obj _ _ st7 b hb
          exact (I'.pin (b,o) (List.mem_append_right _ (List.mem_append_right _ (bL hb e)))).2.1
        cases ok with
        | false=>
          obtain ⟨p1,p2,p3,p4⟩:=pinsOf I9
          exact wpAny_pure ⟨rfl,again (I9.pins_of fun p hp=>nomatch hp) kp8 p1 p2 p3 p4 (v5.at (p4.trans o5.symm)) q9⟩
        | true=>
          have q9:te σ8 H9 fun y H6=>∃b k,y=.ref b/\uw X.K H6 b k/\nQ X.K H6 es/\∀xs',xs'.Perm (eQ es k b)->Nx xs' H6:=q9
          refine wpAny_bind (wpAny_bind (wpAny_mono (hk C fp s2 H2 _ s9 σ8 H9 _ I9 q9) (fun kv s10 zr1=>?_) fun _ _ z=>z.elim))
          obtain ⟨y,H10,I10,ry,b,ms,ey,sq,ka,nx⟩:=zr1
          subst ey
          cases ry
          obtain ⟨p1,p2,p3,p4⟩:=pinsOf I10
          have P10:SeP2 X.w D es s10.heap:=v5.at (p4.trans o5.symm)
          obtain ⟨so,ses,sep,st,SS⟩:=Cd (X:=au X scope (tg++cs) C fp s2 H2) I10 P10 ka
          refine wpAny_bind (wpAny_standAt (wpAny_bind (uz SS (xY hu) (o9 (X:=au X scope (tg++cs) C fp s2 H2) I10 sq) (by lia) fun h' o' es' ep' t' xs' hs' S' pm=>?_)))
          have I12:Inv (au X scope (tg++cs) C fp s2 H2) [] σ8 H10 s10:=I10.pins_of fun p hp=>nomatch hp
          have I13:Inv (au X scope (tg++cs) C fp s2 H2) [] σ8 H10 { s10 with heap:=h',toks:=s10.toks+(tt X.prog X.w).draws ms }:=
            I12.turned (fun b o hb e=>(hs'.2 b hb).trans e) p3 hDC (.inr (by show s2.heap.objs.size<=D;rw [hDg];exact Nat.le_refl _)) DcY (fun p hp=>nomatch hp)
          have zl:xs'.length<=1000:=by
            have e1:=pm.length_eq
            have e2:(eQ es ms b).length<=es.length+1:=by unfold eQ;split <;> simp
            lia
          refine wpAny_pure (wpAny_pure ⟨rfl,again I13 kp8 (fun b hb o e=>(hs'.2 b (fun z:b=D=>Dfp (z▸hb))).trans (p1 b hb o e)) p2 p3 S'.ob ⟨o',es',ep',t',S'.tab,S'.big,S'.el,S'.nd,zl⟩ (nx xs' pm)⟩)
    · rw [e4];exact T.keep _ _ _ st2 fun b _ o e=>old b o e
  exact jC (loop _ rfl) (T.self _ 0 _ _ _ (T.keep _ _ _ st2 fun b _ o e=>old b o e) (loop _ rfl))
end
end L2
end
section
namespace L2
open PySem PySem.Spec PyProof.Rows PySem.W ST KT
noncomputable def uC (X:Cx):List V->Hp->VK->Prop:=fun xs H Q=>∃a zs,xs=[.ref a]/\H a=some (ux X.w a zs)/\Q (.int zs.length) H
theorem nR {X:Cx}:cI X (.builtin "len") (uC X):=by
 rintro pins s σ H xs us Q I r ⟨a,zs,e,ha,q⟩
 subst e
 obtain ⟨u,rfl,rx⟩:=vals1 r
 cases rx
 obtain ⟨o,es,ep,t,S,_,e1,e2,e3⟩:=(show bF X.prog X.w H s.heap a (.ext (SeP2 X.w a zs)) from I.hok a _ ha).1
 have sz:es.size=zs.length:=by rw [<- Array.length_toList,e1,List.length_map]
 rw [<- sz] at q
 refine call_len_set S.ob S.ex S.da S.fits (by lia) ⟨.int es.size,H,I.tok _,⟨_,rfl⟩,q⟩
end L2
namespace VL
open PySem L2 KT ST
noncomputable def nS (cs:List T2) (k:T2):List T2:=if k∈cs then cs else cs++[k]
theorem qB {es xs':List (T2×Addr)} {cs:List T2} {k:T2} {b:Addr} (pe:(es.map (·.1)).Perm cs) (pm:xs'.Perm (eQ es k b)):(xs'.map (·.1)).Perm (nS cs k):=by
 refine (pm.map _).trans ?_
 unfold eQ nS
 by_cases h:k∈es.map (·.1)
 ·rw [if_pos h,if_pos (pe.mem_iff.mp h)];exact pe
 ·rw [if_neg h,if_neg (fun z=>h (pe.mem_iff.mpr z)),List.map_append]
  exact pe.append (List.Perm.refl _)
theorem uD {es xs':List (T2×Addr)} {k:T2} {b:Addr} (pm:xs'.Perm (eQ es k b)) {x:T2×Addr} (h:x∈xs'):x∈es\/x=(k,b):=by
 have h:=pm.mem_iff.mp h
 unfold eQ at h
 split at h
 ·exact .inl h
 ·rcases List.mem_append.mp h with h | h
  ·exact .inl h
  ·exact .inr (List.mem_singleton.mp h)
theorem uE {es xs':List (T2×Addr)} {k:T2} {b:Addr} (pm:xs'.Perm (eQ es k b)):xs'.length<=es.length+1:=by
 rw [pm.length_eq]
 unfold eQ
 split <;> simp
section
variable {K:PySem.W.Frag} {X:Cx} {m:Bool} {ex iter:Expr} {pos pos0 p1:Pos}
noncomputable def uF (vi:VTN) (n:Nat) (ix:List Nat) (vg:VG) (vt:VTT) (ve:VT):VT:=fun S Q=>vi S fun ds S1=>ds.length<=1000/\∃Iv:Nat->List T2->List Sl->Prop,Iv 0 [] S1 /\
 (∀i d cs S2,ds[i]?=some d->Iv i cs S2->vg d (bA n ix S2) fun S3=>vt S3 fun b S4=>if b=true then ve S4 fun r S5=>∃k,r=.d (kT2 k)/\Iv (i+1) (nS cs k) (backS n ix S2 S5) else Iv (i+1) cs (backS n ix S2 S4)) /\
 ∀cs S2,Iv ds.length cs S2->Q (.d (.int cs.length)) S2
theorem uG {ifs:List Expr} {scope:Scope} {tg cs:List Str} {target:Expr} {wi:TI} {vi:VTN} {g:TG} {vg:VG} {tc:TT} {vt:VTT} {te:TE} {ve:VT} (hK:X.K=K) (hu:X.A.units+64 < cLine) (hg1:Gl X "len") (hm1:X.mg "len"=none) (Sc:bq X scope tg cs ix) (hcalm:X.calm=true) (kg:cH tg.length ix g) (hnd:ix.Nodup)
    (hi:VI K X target iter wi vi) (hg:∀C fp s H,VGe K (au X scope (tg++cs) C fp s H) target g vg) (hc:∀C fp s H,VTs K (au X scope (tg++cs) C fp s H) ifs tc vt) (hk:∀C fp s H,VE K (au X scope (tg++cs) C fp s H) false ex te ve)
    (hs:∀x,foldedSetIterable iter X.env x=pure x:=by intro _;rfl):VE K X m (.Call (.Name "len" p1) [.SetComp ex [⟨target,iter,ifs,0⟩] scope pos] [] pos0) (tCB (uC X) (iH (uA K X.w wi tg.length ix g tc te) pZ)) (uF vi tg.length ix vg vt ve):=by
  have sg:SndG K g vg:=(hg 0 [] X.s₀ (fun _=>none)).snd
  have sc:SndT K tc vt:=(hc 0 [] X.s₀ (fun _=>none)).snd
  have se:SndE K false te ve:=(hk 0 [] X.s₀ (fun _=>none)).snd
  refine ⟨by subst hK;exact iK nR hg1 hm1 bH (cU (uB hu Sc hcalm kg hi.pi (fun C fp s H=>(hg C fp s H).pg) (fun C fp s H=>(hc C fp s H).pe) (fun C fp s H=>(hk C fp s H).pe) hs) iI),fun H0 Z σ H S Q C k t hq=>?_⟩
  refine hi.snd H0 Z σ H S _ _ k t fun J ds H1 S1 k1 st1 gd zr1=>?_
  obtain ⟨hl,Iv,i0,hs,hd⟩:=zr1
  refine ⟨fun i m es H=>m=ds.length-i/\i<=ds.length/\es.length<=i/\∃S2 cs,OK K H0 Z σ H S2/\Step Z σ S1 H1 σ S2 H/\(∀x∈es,Rep K (NM Z σ S2) AnyF H (.ref x.2) (kT2 x.1))/\(es.map (·.1)).Perm cs/\Iv i cs S2,
    ⟨ds.length,by simp,Nat.zero_le _,Nat.le_refl _,S1,[],k1,.refl,fun x hx=>absurd hx List.not_mem_nil,.refl _,i0⟩,?_⟩
  rintro i m es H2 ⟨rfl,hi,hy,S2,cs,k2,st2,ca,pe,p⟩
  obtain ⟨g1,g2,g3⟩:=gd σ S2 H2 (fun _=>k2.nm) st2.1 i
  by_cases hlt:i < ds.length
  · refine .inr ⟨g1 hlt,by lia,fun es' H'=>es'.length<=i+1/\∃S' cs',OK K H0 Z σ H' S'/\Step Z σ S1 H1 σ S' H'/\(∀x∈es',Rep K (NM Z σ S') AnyF H' (.ref x.2) (kT2 x.1))/\(es'.map (·.1)).Perm cs'/\Iv (i+1) cs' S',
      fun es' H' zt1=>by obtain ⟨p1,p2⟩:=zt1;exact ⟨ds.length-(i+1),by lia,rfl,hlt,p1,p2⟩,fun x H3 y=>?_⟩
    obtain ⟨hgr,d,hd',rd⟩:=g2 x H3 y hlt
    replace k2:=k2.grow hgr
    replace st2:=st2.trans (.grow hgr)
    replace ca:∀x∈es,Rep K (NM Z σ S2) AnyF H3 (.ref x.2) (kT2 x.1):=fun x hx=>(ca x hx).mono (fun a n e=>⟨n,hgr a e⟩) fun _ x=>x
    have kc:=k2.capt (n:=tg.length) hnd
    have rd':Rep K (NM (Zin Z ix σ S2) (L2.capt tg.length ix σ) (bA tg.length ix S2)) AnyF H3 x d:=rd.mono (fun a n _=>⟨fun z=>n (iW.mp z),rfl⟩) fun _ x=>x
    have h1:=sg H0 _ _ H3 _ x d _ (fun σ4 H4=>∃S4,OK K H0 (Zin Z ix σ S2) σ4 H4 S4/\Step (Zin Z ix σ S2) (L2.capt tg.length ix σ) (bA tg.length ix S2) H3 σ4 S4 H4/\vt S4 fun b S5=>if b=true then ve S5 fun r S6=>∃k,r=.d (kT2 k)/\Iv (i+1) (nS cs k) (backS tg.length ix S2 S6) else Iv (i+1) cs (backS tg.length ix S2 S5)) kc rd' (hs i d cs S2 hd' p) (fun σ4 H4 S4 k4 st4 q4=>⟨S4,k4,st4,q4⟩)
    have h2:=kg x σ H3 _ h1
    refine (hg 0 [] X.s₀ (fun _=>none)).mono _ _ _ _ _ ?_ h2
    rintro σ4 H4 ⟨⟨hl4,hσ4⟩,S4,k4,st4,q4⟩
    refine sc H0 _ σ4 H4 S4 _ _ k4 q4 fun bb H5 S5 k5 st5 q5=>?_
    cases bb with
    | false=>
      rw [if_neg Bool.false_ne_true] at q5 ⊢
      obtain ⟨kb,sb,nb⟩:=k2.back k5 (st4.trans st5) hσ4
      exact ⟨by lia,_,cs,kb,st2.trans sb,fun x hx=>(ca x hx).step sb,pe,q5⟩
    | true=>
      rw [if_pos rfl] at q5 ⊢
      refine se H0 _ σ4 H5 S5 _ _ k5 q5 fun yy H6 ry S6 k6 st6 rry zr1=>?_
      obtain ⟨kk,er,q6⟩:=zr1
      subst er
      have rb:Rep K (NM (Zin Z ix σ S2) σ4 S6) (FM H0 false) H6 yy (kT2 kk):=rry
      obtain ⟨b,rfl,hq2⟩:=Rep.key2 rb
      obtain ⟨kb,sb,nb⟩:=k2.back k6 ((st4.trans st5).trans st6) hσ4
      have ca':∀x∈es,Rep K (NM Z σ (backS tg.length ix S2 S6)) AnyF H6 (.ref x.2) (kT2 x.1):=fun x hx=>(ca x hx).step sb
      have rb':Rep K (NM Z σ (backS tg.length ix S2 S6)) AnyF H6 (.ref b) (kT2 kk):=Rep.mono (fun a n _=>⟨nb a n,rfl⟩) (fun _ _=>trivial) rb
      refine ⟨b,kk,rfl,hq2,fun x hx=>?_,fun xs' pm=>⟨?_,_,nS cs kk,kb,st2.trans sb,fun x hx=>?_,qB pe pm,q6⟩⟩
      · obtain ⟨c,e,q⟩:=Rep.key2 (ca' x hx)
        cases e
        exact q
      · have:=uE pm
        lia
      · rcases uD pm hx with hx | rfl
        · exact ca' x hx
        · exact rb'
  · have e:i=ds.length:=by lia
    refine .inl ⟨g3 e,fun l hp=>?_⟩
    have ge:=aY (o:=ux X.w l es) hp
    have el:es.length=cs.length:=by rw [<- pe.length_eq,List.length_map]
    refine ⟨l,es,rfl,aK,hq _ _ (.d (.int es.length)) S2 (k2.grow ge) ((st1.trans st2).trans (.grow ge)) (Rep.int _) ?_⟩
    rw [el]
    exact hd cs S2 (by rw [<- e];exact p)
variable {S:List Sl} {Q:VR->List Sl->Prop} {vi:VTN} {vg:VG} {vt:VTT} {ve:VT} {n:Nat} {ix:List Nat}
noncomputable def Ce (n:Nat) (ix:List Nat) (vg:VG) (vt:VTT) (ve:VT) (Q:VR->List Sl->Prop):List D->List Sl->Prop:=fun ds S1=>ds.length<=1000/\∃Iv:Nat->List T2->List Sl->Prop,Iv 0 [] S1 /\
 (∀i d cs S2,ds[i]?=some d->Iv i cs S2->vg d (bA n ix S2) fun S3=>vt S3 fun b S4=>if b=true then ve S4 fun r S5=>∃k,r=.d (kT2 k)/\Iv (i+1) (nS cs k) (backS n ix S2 S5) else Iv (i+1) cs (backS n ix S2 S4)) /\
 ∀cs S2,Iv ds.length cs S2->Q (.d (.int cs.length)) S2
theorem x4 (h:vi S (Ce n ix vg vt ve Q)):uF vi n ix vg vt ve S Q:=h
end
end VL
end
section
namespace L2
open PySem PySem.Spec PyProof.Rows PySem.W
theorem kh {prog:Program} {w:World} {A:Around} {R:Result->Shared->Prop} {I:Addr} {fp wr:List Addr} {n:Nat} {P:Nat->Value->Prop} {St:Nat->Heap->Prop} (W:Walks prog w A.in1 I fp wr n P St) (tr:Nat->Bool) (J:Heap->Prop)
  (hJ:∀h h',(∀b o,b∉wr->h.get? b=some o->h'.get? b=some o)->J h->J h')
  (htr:∀i v (s:Shared) (Q:Bool->Shared->Prop) (E:Value->Shared->Prop),P i v->J s.heap->(∀tk,Q (tr i) { s with toks:=tk })->wpAny (model prog w) A.in1 (truthy v) Q E s):∀(k i:Nat) (s:Shared),n-i=k->i<=n->St i s.heap->J s.heap ->
  (∀h' tk,(∀b o,b∉wr->s.heap.get? b=some o->h'.get? b=some o)->R (.ok (.ret (.bool (((List.range n).drop i).all tr)))) { s with heap:=h',toks:=tk }) ->
  codeAny (model prog w) A (.builtin "all.loop" ⟨[.ref I],[]⟩) R s
 | 0,i,s,hk,hi,hst,hj,hR=>by
  obtain rfl:i=n:=by lia
  have fin:=hR
  simp only [List.drop_eq_nil_of_le (show (List.range i).length<=i by rw [List.length_range];exact Nat.le_refl _),List.all_nil] at fin
  exact codeAny_builtin F.entry_all_loop (by rw [Around.under_plainId F.plain_all_loop _];exact wpAny_bind (m:=pyNext (.ref I)) (W.done s _ _ hst fun h' tk g=>wpAny_bind (wpAny_rule (wpAny_pure (fin h' tk g)))))
 | k+1,i,s,hk,hi,hst,hj,hR=>by
  have lt:i < n:=by lia
  have fin:=hR
  simp only [show (List.range n).drop i=i::(List.range n).drop (i+1) by rw [List.drop_eq_getElem_cons (by rw [List.length_range];exact lt),List.getElem_range],List.all_cons] at fin
  refine codeAny_builtin F.entry_all_loop ?_;rw [Around.under_plainId F.plain_all_loop _]
  refine wpAny_bind (m:=pyNext (.ref I)) (W.item i s _ _ lt hst fun v h1 t1 hv st1 g1=>wpAny_bind (wpAny_holding (htr i v _ _ _ hv (hJ _ h1 g1 hj) fun t2=>wpAny_bind (wpAny_letGo ?_))))
  cases e:tr i <;> simp only [e,Bool.true_and,Bool.false_and] at fin
  ·exact wpAny_bind (wpAny_rule (wpAny_pure (fin h1 t2 g1)))
  ·exact wpAny_pure ⟨plainId_quiet F.plain_all_loop _,kh W tr J hJ htr k (i+1) _ (by lia) lt st1 (hJ _ h1 g1 hj) fun h2 t3 g2=>fin h2 t3 fun b o nb q=>g2 b o nb (g1 b o nb q)⟩
noncomputable def zB (K:PySem.W.Frag):List V->Hp->VK->Prop:=fun xs H Q=>∃(l:Addr) (ls:List Addr) (vss:List (List V)),xs=[.ref l]/\SqL K H l (ls.map V.ref)/\Paired (fun a vs=>SqL K H a vs) ls vss/\Q (.bl (vss.all fun v=>!v.isEmpty)) H
theorem jg {X:Cx} {s:Shared} (I:Inv X pins σ H s):∀{ls:List Addr} {vss:List (List V)},Paired (fun a vs=>SqL X.K H a vs) ls vss->∀(i:Nat) (a:Addr),ls[i]?=some a->∃(vs:List V) (its:Array Value),vss[i]?=some vs/\s.heap.IsList a its/\its.size=vs.length/\vs.length<=sizeLine
 | _,_,.nil,i,a,h=>by simp at h
 | _,_,.cons h t,0,a,e=>by
  simp at e
  subst e
  obtain ⟨us,rv,pl,hz⟩:=I.list h
  exact ⟨_,us.toArray,rfl,pl.isList,by simp [rv.length],hz⟩
 | _,_,.cons h t,i+1,a,e=>by
  simp only [List.getElem?_cons_succ] at e ⊢
  exact jg I t i a e
theorem uH {X:Cx} (hc:X.calm=true):cI X (.builtin "all") (zB X.K):=by
 rintro pins s σ H xs us Q I r ⟨l,ls,vss,e,hq,hp,q⟩
 subst e
 obtain ⟨u,rfl,rx⟩:=Vals.one r
 cases rx
 obtain ⟨vs,rv,pl,_⟩:=I.list hq
 cases gw rv
 have hlen:ls.length=vss.length:=Paired.length hp
 have hl:=pl.isList
 have hlt:l < s.heap.objs.size:=by obtain ⟨_,e,_⟩:=hl;exact Heap.lt_size e
 refine call_function_tree F.kind_all F.plain_all F.entry_all (F.args_all1 _) ?_
 unfold Builtin.«all»
 refine wpAny_bind (m:=oneArg "all" _) (wpAny_pure ?_)
 refine wpAny_bind (wpAny_pyIter_list hl ?_)
 have W:=Walks.list (prog:=X.prog) (w:=X.w) (A:=X.A.in1) (I.ok.hd hc) s.heap.objs.size l (Nat.ne_of_lt hlt) (ls.map Value.ref).toArray
 refine wpAny_pure ⟨plainId_quiet F.plain_all_loop _,kh W (fun i=>((vss[i]?).map fun v:List V=>!v.isEmpty).getD true) (fun h:Heap=>∀(i:Nat) (a:Addr),ls[i]?=some a->∃(vs:List V) (its:Array Value),vss[i]?=some vs/\h.IsList a its/\its.size=vs.length/\vs.length<=sizeLine) ?_ ?_ (ls.map Value.ref).toArray.size 0 _ rfl (Nat.zero_le _) ⟨⟨_,Heap.get?_push_size _ rfl,rfl,rfl⟩,hl.push _⟩ ?_ fun h' tk hk=>?_⟩
 ·intro h h' hk hJ i a e
  obtain ⟨v,its,e1,⟨o,h1,h2⟩,e3,e4⟩:=hJ i a e
  obtain ⟨_,_,_,⟨o',h1',_⟩,_⟩:=jg I hp i a e
  exact ⟨v,its,e1,⟨o,hk a o (fun z=>by rw [List.mem_singleton.mp z] at h1';exact Nat.lt_irrefl _ (Heap.lt_size h1')) h1,h2⟩,e3,e4⟩
 ·intro i v s' Q' E' hP hj hQ
  rw [List.getElem?_toArray,List.getElem?_map] at hP
  cases ha:ls[i]? with
  | none=>rw [ha] at hP;cases hP
  | some a=>
   rw [ha] at hP
   cases hP
   obtain ⟨vs,its,e1,e2,e3,e4⟩:=hj i a ha
   refine wpAny_truthy_list e2 (by rw [e3];rw [sizeLine_eq] at e4;lia) ?_
   have:=hQ (s'.toks+1+1)
   rw [e1] at this
   have e5:its.isEmpty=vs.isEmpty:=by
    unfold Array.isEmpty
    rw [e3]
    cases vs <;> rfl
   rw [e5]
   exact this
 ·intro i a e
  obtain ⟨vs,its,e1,e2,e3,e4⟩:=jg I hp i a e
  exact ⟨vs,its,e1,e2.push _,e3,e4⟩
 ·have ek:∀b x,s.heap.get? b=some x->h'.get? b=some x:=LSm.kept_iter hk
  have eb:(((List.range (ls.map Value.ref).toArray.size).drop 0).all fun i=>((vss[i]?).map fun v:List V=>!v.isEmpty).getD true)=vss.all fun v=>!v.isEmpty:=by
   rw [List.size_toArray,List.length_map,hlen,List.drop_zero,Bool.eq_iff_iff,List.all_eq_true,List.all_eq_true]
   constructor
   ·intro h v hv
    obtain ⟨i,hi,rfl⟩:=List.getElem_of_mem hv
    have:=h i (List.mem_range.mpr hi)
    rw [List.getElem?_eq_getElem hi] at this
    exact this
   ·intro h i hi
    rw [List.getElem?_eq_getElem (List.mem_range.mp hi)]
    exact h _ (List.getElem_mem _)
  rw [eb]
  exact ⟨.bl _,H,I.kept (t':=tk) ek,rfl,q⟩
end L2
namespace VL
open PySem L2
section
variable {K:PySem.W.Frag} {X:Cx} {m:Bool} {e:Expr} {te:TE} {va:VT} {pos p2:Pos} {vl vh:VO}
theorem mF {N:AP}:∀{vs:List V} {dss:List (List D)},Reps K N F H vs (dss.map D.lst)->∃ls vss,vs=ls.map V.ref/\Paired (fun a vs=>SqL K H a vs) ls vss/\(vss.all fun v=>!v.isEmpty)=dss.all fun d=>!d.isEmpty
 | _,[],.nil=>⟨[],[],rfl,.nil,rfl⟩
 | _,ds::r,.cons h t=>by
  obtain ⟨ls,vss,rfl,h2,h3⟩:=mF t
  obtain ⟨a,vs,rfl,hq,rr⟩:=Rep.sqL h
  refine ⟨a::ls,vs::vss,rfl,.cons hq h2,?_⟩
  rw [List.all_cons,List.all_cons,h3]
  have:=rr.length
  congr 1
  cases vs <;> cases ds <;> first | rfl | simp at this
noncomputable def ER:List D->(D->Prop)->Prop:=fun ds q=>∃dss:List (List D),ds=[.lst (dss.map .lst)]/\q (.bl (dss.all fun d=>!d.isEmpty))
theorem uI:gW K (zB K) ER:=by
 rintro xs H ds q C r ⟨dss,rfl,h⟩ hc
 obtain ⟨v,rfl,rv⟩:=rep1 r
 obtain ⟨a,vs,rfl,hq,rr⟩:=rv.sqL
 obtain ⟨ls,vss,rfl,hp,e⟩:=mF rr
 refine ⟨a,ls,vss,rfl,hq,hp,?_⟩
 rw [e]
 exact hc _ _ h fun _ _=>.bl _
noncomputable def ES (va:VT) (vl vh:VO):VT:=fun S Q=>va S fun r S1=>vl S1 fun lo S2=>vh S2 fun hi S3=>∃ds,get S3 r=some (.lst ds)/\Q (.d (.lst (cutD ds lo hi))) S3
theorem nT {lo hi:Option Expr} {tl th:TO} (hK:X.K=K) (h:VE K X false e te va) (hl:VOe K X lo tl vl) (hh:VOe K X hi th vh):VE K X false (.Subscript e (.Slice lo hi none p2) pos) (tSl (Ar K) te tl th) (ES va vl vh):=
 ⟨by subst hK;exact lK ou h.pe hl.pe hh.pe,fun H0 Z σ H S Q C k t hc=>h.snd H0 Z σ H S _ _ k t fun v H1 r S1 k1 st1 rr t1=>hl.snd H0 Z σ H1 S1 _ _ k1 t1 fun lo H2 S2 k2 st2 t2=>hh.snd H0 Z σ H2 S2 _ _ k2 t2 fun hi H3 S3 k3 st3 zq1=>by
  obtain ⟨ds,e,q⟩:=zq1
  obtain ⟨a,vs,rfl,hq,rs⟩:=((rr.step st2).step st3).elems k3 e
  refine ⟨a,vs,rfl,hq,fun p hp=>?_⟩
  have g:=aY (o:=.lst (mX vs lo hi)) hp
  exact hc (.ref p) _ (.d (.lst (cutD ds lo hi))) S3 (k3.grow g) (((st1.trans st2).trans st3).trans (.grow g)) (show Rep K _ _ _ _ _ from .lst (k3.nm hp) FM.any aK ((mh rs lo hi).mono (fun b n e=>⟨n,g b e⟩) fun _ _=>FM.any)) q⟩
end
end VL
end
section
namespace VL
open PySem L2
section
variable {K:PySem.W.Frag} {N N':AP} {F F':FP} {H:Hp}
mutual
theorem Rep.both (h1:∀a,N a->F (some a)->F' (some a)) (h2:F none->F' none) {v:V} {d:D}:Rep K N F H v d->Rep K N F' H v d
 | .int i=>.int i
 | .bl i=>.bl i
 | .non=>.non
 | .str i=>.str i
 | .ty i=>.ty i
 | .tup n h r=>.tup n h (Reps.both h1 h2 r)
 | .tupK h r=>.tupK h (Reps.both h1 h2 r)
 | .lst n f h r=>.lst n (h1 _ n f) h (Reps.both h1 h2 r)
 | .lstF n f h r=>.lstF n (h2 f) h (Reps.both h1 h2 r)
 | .lstK f h r=>.lstK (h2 f) h (Reps.both h1 h2 r)
 | .dic n f h e rk r=>.dic n (h1 _ n f) h e (Reps.both h1 h2 rk) (Reps.both h1 h2 r)
 | .exc n h e=>.exc n h e
 | .dib n f h e g rk r=>.dib n (h1 _ n f) h e g (Reps.both h1 h2 rk) (Reps.both h1 h2 r)
theorem Reps.both (h1:∀a,N a->F (some a)->F' (some a)) (h2:F none->F' none) {vs:List V} {ds:List D}:Reps K N F H vs ds->Reps K N F' H vs ds
 | .nil=>.nil
 | .cons h t=>.cons (Rep.both h1 h2 h) (Reps.both h1 h2 t)
end
end
noncomputable def spG (K:PySem.W.Frag) (p:List D->(D->Prop)->Prop):Sp:=fun vs H Q _=>∃ds R,∃H0:Hp,(∀a,H a=none->H0 a=none)/\Reps K Any (Fr H0) H vs ds/\p ds R/\∀d v H',R d->(∀a,H a≠none->H' a=H a)->Rep K Any (Fr H0) H' v d->Q v H'
section
variable {P:Program} {w:World} {K:PySem.W.Frag} {mg:Str->Option Value} {base:Heap}
theorem qC {N:List Str} {vs:List L2.V} {H H0:Hp} (hd:∀a,H a=none->H0 a=none) (r:Reps K Any (Fr H0) H vs ds):OK K H0 (fun _=>False) (start N vs) H (dS N.length ds) where
 len:=by simp [L2.start,dS,r.length]
 dom:=hd
 zl:=fun _ z=>z.elim
 nz:=fun i s a h m _=>by rw [df _ _ i s h] at m;cases m
 inj:=fun i j a s t h1 h2 m1=>by rw [df _ _ i s h1] at m1;cases m1
 at_:=fun i o s h1 h2=>by
  rcases gH h2 with rfl | ⟨d,rfl,e⟩
  ·trivial
  ·obtain ⟨v,e1,e2⟩:=r.getD e
   rw [dw e1] at h1
   cases h1
   exact ⟨v,rfl,e2.mono (fun a _ _=>⟨fun z=>(df _ _).mo.mp z,rfl⟩) fun o x=>x⟩
theorem ET {x:Str} {st:Stmt} {N ps:List Str} {k:Nat} (S:Src K mg x st) (sc:aH N ps (aj st))
  (hb:∀(kV doc pm:Value) (an:Option Addr) (cdv ct:Value) (us:List Value),us.length=ps.length->bindArgs (PySem.W.fnOf x x (bZ st) (bt st) (aj st) .none kV doc pm an cdv ct) ⟨us,[]⟩=pure (ps.zip us))
  (len:∀ds R,p ds R->ds.length=ps.length)
  (hbody:∀(f:Addr) (cdv:Value) (A:Around) (outer:List Env) (s:Shared) (H:Hp) (E:XK),bY k (A.deeper (PyProof.Rows.envOfC x (aj st) s.heap.objs.size f cdv)) ->
   ∃ts t,VSs K (iJ CX0 P w K mg base N x (aj st) f cdv A outer s H E).nox (bt st) ts t/\∀ds R,p ds R->t { nx:=fun _=>R .non,rt:=fun d _=>R d } (dS N.length ds)):Has P w K mg base (k+1) x ps (spG K p):=by
 refine S.has sc hb (fun vs H Q E zq1=>by obtain ⟨ds,R,H0,_,r,h,_⟩:=zq1;rw [r.length];exact len ds R h) fun f cdv A outer s H vs Q E hr ⟨ds,R,H0,hd,r,h,fin⟩=>?_
 obtain ⟨ts,t,vs',q⟩:=hbody f cdv A outer s H E hr
 have k0:=qC (N:=N) hd r
 have il:=df N.length ds
 exact ⟨ts,vs'.ps,vs'.snd _ _ _ H _ _ _ k0 (q ds R h) ⟨fun σ' H' S' k' st q=>fin .non .non H' q (il.grow st) .non,fun σ' H' S' k' st q=>q.elim,fun σ' H' S' k' st q=>q.elim,fun v d σ' H' S' k' st rr q=>fin d v H' q (il.grow st) (rr.mono (fun _ _ _=>⟨trivial,rfl⟩) fun _ x=>x)⟩⟩
end
section
variable {K:PySem.W.Frag} {X:Cx} {m:Bool} {e:Expr} {es:List Expr} {tr:TA} {vr:VTA} {x:Str} {p0 pos:Pos} {j k:Nat} {ps:List Str} {S:List Sl} {Q:VR->List Sl->Prop}
noncomputable def EU (p:List D->(D->Prop)->Prop) (vr:VTA):VT:=fun S Q=>vr S fun rs S1=>∃ds,allD rs=some ds/\p ds fun d=>Q (.d d) S1
open Classical in
theorem Cf (E:Has X.prog X.w X.K X.mg X.base k x ps (spG K p)) (hr:bY j X.A) (ha:VA K X true (e::es) tr vr)
  (hk:k<=j:=by decide) (hg:Gl X x:=by rfl) (hdb:(x==("__debug__":Str))=false:=by decide) (he:starEach (e::es) X.env=(false,eval e X.env)::starEach es X.env:=by rfl)
  (hpl:(backTo pos (starEach es X.env)).any (·.1)=false:=by rfl):VE K X m (.Call (.Name x p0) (e::es) [] pos) (gS (spG K p) [] E0 tr) (EU p vr):=⟨jJ E hr ha.pe hk hg hdb he hpl,fun H0 Z σ H S Q C k t hc=>
 ha.snd H0 Z σ H S _ _ k t fun vs H1 rs S1 k1 st1 rrs zq1=>by
  obtain ⟨ds,e,q⟩:=zq1
  have ha:∀a,Fr (fun a=>if H0 a=none/\NM Z σ S1 a then none else some (.lst [])) (some a)↔H0 a=none/\NM Z σ S1 a:=fun a=>by
   constructor
   ·rintro ⟨b,e,f⟩
    cases e
    by_cases h:H0 a=none/\NM Z σ S1 a
    ·exact h
    ·simp only [if_neg h] at f;cases f
   ·intro h
    exact ⟨a,rfl,if_pos h⟩
  have ra:Reps K Any (Fr (fun a=>if H0 a=none/\NM Z σ S1 a then none else some (.lst []))) H1 (vs++[]) ds:=by
   rw [List.append_nil]
   refine ((rrs.allD e).both (F':=Fr (fun a=>if H0 a=none/\NM Z σ S1 a then none else some (.lst []))) (fun a n f=>?_) (fun f=>?_)).mono (fun _ _ _=>⟨trivial,rfl⟩) fun _ x=>x
   ·obtain ⟨b,e,f⟩:=f rfl
    cases e
    exact (ha a).mpr ⟨f,n⟩
   ·obtain ⟨b,e,_⟩:=f rfl
    cases e
  refine ⟨ds,_,_,fun a z=>if_pos ⟨k1.dom a z,k1.nm z⟩,ra,q,fun d v H' q g r=>?_⟩
  refine hc v H' (.d d) S1 (k1.grow g) (st1.trans (.grow g)) (show Rep K _ _ H' v d from ?_) q
  refine (Rep.avoid (N':=NM Z σ S1) (fun a z=>?_) (fun a f=>((ha a).mp f).2) r).mono (fun _ n _=>⟨n,rfl⟩) (fun o f _=>?_)
  ·have e:=k1.mo (Classical.not_not.mp z)
   rw [g a e.ne];exact e
  ·obtain ⟨b,e,_⟩:=id f
   subst e
   exact ⟨b,rfl,((ha b).mp f).1⟩⟩
@[irreducible] noncomputable def x5 (p:List D->(D->Prop)->Prop) (Q:VR->List Sl->Prop):List VR->List Sl->Prop:=fun rs S1=>∃ds,allD rs=some ds/\p ds fun d=>Q (.d d) S1
theorem EW (h:vr S (x5 p Q)):EU p vr S Q:=by unfold x5 at h;exact h
theorem Cg (e:allD rs=some ds) (h:p ds fun d=>Q (.d d) S):x5 p Q rs S:=by unfold x5;exact ⟨ds,e,h⟩
end
end VL
end
section
namespace L2
open PySem PySem.Spec PyProof.Rows PySem.W
section
variable {X:Cx} {a:Expr} {ta:TE} {pos:Pos}
noncomputable def zC (K:PySem.W.Frag) (ta:TE):TE:=fun σ H Q=>ta σ H fun x H1=>∃b vs,x=.ref b/\SqL K H1 b vs/\Q (.bl vs.isEmpty) H1
theorem x6 (ha:PE X a ta):PE X (.UnaryOp .Not a pos) (zC X.K ta):=by
 intro pins s σ H Q I h
 refine UnaryOp_ (thn (ha pins s σ H _ I h) fun v s1 zr1=>?_)
 obtain ⟨x,H1,I1,r1,q1⟩:=zr1
 obtain ⟨b,vs,rfl,hq,q⟩:=q1
 cases r1
 obtain ⟨us,rv,pl,hz⟩:=I1.list hq
 have e1:=rv.length
 refine not_of (wpAny_truthy_list pl.isList (by rw [List.size_toArray];rw [sizeLine_eq] at hz;lia) ⟨.bl vs.isEmpty,H1,I1.tok _,?_,q⟩)
 show Value.bool _=Value.bool _
 congr 1
 rw [Bool.not_not,List.isEmpty_toArray]
 cases vs <;> cases us <;> first | rfl | simp at e1
end
end L2
namespace VL
open PySem L2
section
variable {K:PySem.W.Frag} {X:Cx} {m:Bool} {a:Expr} {ta:TE} {va:VT} {pos:Pos} {S:List Sl} {Q:VR->List Sl->Prop}
noncomputable def zD (va:VT):VT:=fun S Q=>va S fun r S1=>∃ds,get S1 r=some (.lst ds)/\Q (.d (.bl ds.isEmpty)) S1
theorem x8 (hK:X.K=K) (ha:VE K X false a ta va):VE K X m (.UnaryOp .Not a pos) (zC K ta) (zD va):=⟨by subst hK;exact x6 ha.pe,fun H0 Z σ H S Q C k t hc=>ha.snd H0 Z σ H S _ _ k t fun v H1 r S1 k1 st1 rr zq1=>by
 obtain ⟨ds,e,q⟩:=zq1
 obtain ⟨b,vs,rfl,hq,rs⟩:=rr.elems k1 e
 have e1:=rs.length
 have e2:vs.isEmpty=ds.isEmpty:=by cases vs <;> cases ds <;> first | rfl | simp at e1
 exact ⟨b,vs,rfl,hq,hc _ H1 (.d (.bl vs.isEmpty)) S1 k1 st1 (Rep.bl _) (by rw [e2];exact q)⟩⟩
@[irreducible] noncomputable def ph (Q:VR->List Sl->Prop):VR->List Sl->Prop:=fun r S1=>∃ds,get S1 r=some (.lst ds)/\Q (.d (.bl ds.isEmpty)) S1
theorem Ci (h:va S (ph Q)):zD va S Q:=by unfold ph at h;exact h
theorem x9 (e:get S r=some (.lst ds)) (h:Q (.d (.bl ds.isEmpty)) S):ph Q r S:=by unfold ph;exact ⟨ds,e,h⟩
@[irreducible] noncomputable def mG (vh:VO) (r:VR) (lo:Option Int) (Q:VR->List Sl->Prop):Option Int->List Sl->Prop:=fun hi S3=>∃ds,get S3 r=some (.lst ds)/\Q (.d (.lst (cutD ds lo hi))) S3
@[irreducible] noncomputable def mH (vh:VO) (r:VR) (Q:VR->List Sl->Prop):Option Int->List Sl->Prop:=fun lo S2=>vh S2 (mG vh r lo Q)
@[irreducible] noncomputable def yc (vl vh:VO) (Q:VR->List Sl->Prop):VR->List Sl->Prop:=fun r S1=>vl S1 (mH vh r Q)
theorem EX {vl vh:VO} (h:va S (yc vl vh Q)):ES va vl vh S Q:=by unfold yc mH mG at h;exact h
theorem Cj {vl vh:VO} (h:vl S (mH vh r Q)):yc vl vh Q r S:=by unfold yc;exact h
theorem yd {vh:VO} {lo:Option Int} (h:vh S (mG vh r lo Q)):mH vh r Q lo S:=by unfold mH;exact h
theorem ye {vh:VO} {lo hi:Option Int} (e:get S r=some (.lst ds)) (h:Q (.d (.lst (cutD ds lo hi))) S):mG vh r lo Q hi S:=by unfold mG;exact ⟨ds,e,h⟩
end
end VL
end
section
namespace VL
open PySem L2
section
variable {K:PySem.W.Frag} {X:Cx} {stm:Stmt} {ts:TS} {t:VTS}
noncomputable def zE (i:Nat) (t:VTS):VTS:=fun V S=>∃ds,S[i]?=some (.own ds)/\t V (S.set i (.fre (.lst ds)))
theorem iw (i:Nat) (h:VS K X stm ts t):VS K X stm ts (zE i t):=⟨h.ps,fun H0 Z σ H S V E k zq1 l=>by
 obtain ⟨ds,e,t⟩:=zq1
 obtain ⟨k',st⟩:=k.wk (sT e)
 have hi:i < S.length:=(List.getElem?_eq_some_iff.mp e).1
 obtain ⟨o,g1,a,vs,rfl,g2,g3,g4⟩:=k.ownAt e
 have na:NM Z σ (S.set i (.val (.lst ds))) a:=fun z=>by
  rcases z with ⟨j,s,z1,z2,z3⟩ | z
  ·by_cases hj:j=i
   ·subst hj
    rw [List.getElem?_set_self hi] at z1
    cases z1
    cases z2
   ·rw [List.getElem?_set_ne (Ne.symm hj)] at z1
    exact hj (k.inj j i a s _ z1 e z2 rfl z3 g1)
  ·exact k.nz i _ a e rfl g1 z
 have hσ:σ.set i (some (L2.V.ref a))=σ:=List.ext_getElem? fun n=>by
  rw [List.getElem?_set]
  split
  ·rename_i q
   subst q
   rw [g1,if_pos (List.getElem?_eq_some_iff.mp g1).1]
  ·rfl
 obtain ⟨k2,st2⟩:=k'.setFre (i:=i) (v:=.ref a) (d:=.lst ds) (by rw [List.length_set];exact hi) (.lst na ⟨a,rfl,g3⟩ g2 (g4.step st))
 rw [hσ,List.set_set] at k2 st2
 exact h.snd H0 Z σ H _ V E k2 t (l.step (st.trans st2))⟩
theorem Ck {i:Nat} {V:bh} (e:S[i]?=some (.own ds)) (h:t V (S.set i (.fre (.lst ds)))):zE i t V S:=⟨ds,e,h⟩
end
section
variable {K:PySem.W.Frag} {X:Cx} {e tg:Expr} {te:TE} {va:VT} {pos:Pos} {i j:Nat}
@[irreducible] noncomputable def mI (i j:Nat) (V:bh):VR->List Sl->Prop:=fun r S1=>∃d1 d2,r=.d (.tup [d1,d2])/\i < S1.length/\j < S1.length/\V.nx ((S1.set i (.fre d1)).set j (.fre d2))
noncomputable def zF (i j:Nat) (va:VT):VTS:=fun V S=>va S (mI i j V)
theorem yf {vg:VG} (h:VE K X true e te va) (hg:VGe K X tg (qW K 2 (gR (bI i) (gR (bI j) qU))) vg) (hs:swapsWithSole [tg] e pos.line X.env=pure false:=by rfl) (hw:swappedStores [tg] e X.env=pure none:=by rfl)
  (h1:(assignEach [tg] X.env).map (·.2)=[assign tg X.env]:=by rfl):VS K X (.Assign [tg] e pos) (dD te (qW K 2 (gR (bI i) (gR (bI j) qU)))) (zF i j va):=⟨mT h.pe hg.pg hs hw h1,fun H0 Z σ H S V E k t l=>h.snd H0 Z σ H S _ _ k t fun v H' r S' k' st rr q=>by
 unfold mI at q
 obtain ⟨d1,d2,rfl,hi,hj,q⟩:=q
 have r:Rep K (NM Z σ S') (Fr H0) H' v (.tup [d1,d2]):=(show Rep K (NM Z σ S') (FM H0 true) H' v _ from rr).mono (fun _ n _=>⟨n,rfl⟩) fun _ x=>x rfl
 obtain ⟨a,vs,rfl,hq,rs⟩:=r.sqT
 cases rs with
 | cons r1 rs=>
  cases rs with
  | cons r2 rs=>
   cases rs
   obtain ⟨k1,st1⟩:=k'.setFre hi r1
   obtain ⟨k2,st2⟩:=k1.setFre (i:=j) (by rw [List.length_set];exact hj) (r2.step st1)
   exact ⟨a,_,rfl,hq,rfl,_,_,rfl,_,_,rfl,rfl,l.nx _ _ _ k2 ((st.trans st1).trans st2) q⟩⟩
theorem Cm {V:bh} (h:va S (mI i j V)):zF i j va V S:=h
theorem yg {V:bh} {d1 d2:D} (hi:i < S.length) (hj:j < S.length) (h:V.nx ((S.set i (.fre d1)).set j (.fre d2))):mI i j V (.d (.tup [d1,d2])) S:=by unfold mI;exact ⟨d1,d2,rfl,hi,hj,h⟩
end
section
variable {K:PySem.W.Frag} {X:Cx} {m:Bool} {a b:Expr} {ta tb:TE} {va vb:VT} {pos p2:Pos} {vl vh:VO} {S:List Sl} {Q:List D->List Sl->Prop} {R:VR->List Sl->Prop}
noncomputable def EY (va:VT) (vl vh:VO):VTN:=fun S Q=>va S fun r S1=>vl S1 fun lo S2=>vh S2 fun hi S3=>∃ds,r=.d (.lst ds)/\Q (cutD ds lo hi) S3
theorem dU {lo hi:Option Expr} {tl th:TO} (hK:X.K=K) (h:VE K X true a ta va) (hl:VOe K X lo tl vl) (hh:VOe K X hi th vh):VN K X (.Subscript a (.Slice lo hi none p2) pos) (tSl (Ar K) ta tl th) (EY va vl vh):=
 ⟨by subst hK;exact lK ou h.pe hl.pe hh.pe,fun H0 Z σ H S Q C k t hc=>h.snd H0 Z σ H S _ _ k t fun v H1 r S1 k1 st1 rr t1=>hl.snd H0 Z σ H1 S1 _ _ k1 t1 fun lo H2 S2 k2 st2 t2=>hh.snd H0 Z σ H2 S2 _ _ k2 t2 fun hi H3 S3 k3 st3 zq1=>by
  obtain ⟨ds,rfl,q⟩:=zq1
  obtain ⟨c,vs,rfl,hq,rs⟩:=(show Rep K (NM Z σ S3) (FM H0 true) H3 v (.lst ds) from (rr.step st2).step st3).sqL
  exact ⟨c,vs,rfl,hq,fun p hp=>hc p _ _ H3 _ S3 k3 ((st1.trans st2).trans st3) hp (aY hp) aK (bU hp (mh rs lo hi)) q⟩⟩
@[irreducible] noncomputable def mJ (r:VR) (lo:Option Int) (Q:List D->List Sl->Prop):Option Int->List Sl->Prop:=fun hi S3=>∃ds,r=.d (.lst ds)/\Q (cutD ds lo hi) S3
@[irreducible] noncomputable def mK (vh:VO) (r:VR) (Q:List D->List Sl->Prop):Option Int->List Sl->Prop:=fun lo S2=>vh S2 (mJ r lo Q)
@[irreducible] noncomputable def yh (vl vh:VO) (Q:List D->List Sl->Prop):VR->List Sl->Prop:=fun r S1=>vl S1 (mK vh r Q)
theorem EZ (h:va S (yh vl vh Q)):EY va vl vh S Q:=by unfold yh mK mJ at h;exact h
theorem Co (h:vl S (mK vh r Q)):yh vl vh Q r S:=by unfold yh;exact h
theorem yi {lo:Option Int} (h:vh S (mJ r lo Q)):mK vh r Q lo S:=by unfold mK;exact h
theorem yj {lo hi:Option Int} (h:Q (cutD ds lo hi) S):mJ (.d (.lst ds)) lo Q hi S:=by unfold mJ;exact ⟨ds,rfl,h⟩
noncomputable def zG (va vb:VT):VTN:=fun S Q=>va S fun r S1=>vb S1 fun r2 S2=>∃ds es,r=.d (.lst ds)/\r2=.d (.lst es)/\ds.length+es.length<=1000000/\Q (ds++es) S2
theorem cn (hK:X.K=K) (h1:VE K X true a ta va) (h2:VE K X true b tb vb):VN K X (.BinOp a .Add b pos) (tOp (uc K) ta tb) (zG va vb):=⟨by subst hK;exact qZ ud h1.pe h2.pe,fun H0 Z σ H S Q C k t hc=>
 h1.snd H0 Z σ H S _ _ k t fun x H1 r S1 k1 st1 r1 t1=>h2.snd H0 Z σ H1 S1 _ _ k1 t1 fun y H2 r' S2 k2 st2 r2 zq1=>by
  obtain ⟨ds,es,rfl,rfl,hlen,q⟩:=zq1
  obtain ⟨c,us,rfl,hR,p1⟩:=(show Rep K (NM Z σ S2) (FM H0 true) H2 x (.lst ds) from r1.step st2).sqL
  obtain ⟨c',us',rfl,hR',p2⟩:=(show Rep K (NM Z σ S2) (FM H0 true) H2 y (.lst es) from r2).sqL
  refine ⟨c,c',us,us',rfl,rfl,hR,hR',by rw [p1.length,p2.length,sizeLine_eq];lia,fun p hp=>?_⟩
  exact hc p _ _ H2 _ S2 k2 (st1.trans st2) hp (aY hp) aK (Reps.append (bU hp p1) (bU hp p2)) q⟩
@[irreducible] noncomputable def uJ (r:VR) (Q:List D->List Sl->Prop):VR->List Sl->Prop:=fun r2 S2=>∃ds es,r=.d (.lst ds)/\r2=.d (.lst es)/\ds.length+es.length<=1000000/\Q (ds++es) S2
@[irreducible] noncomputable def yk (vb:VT) (Q:List D->List Sl->Prop):VR->List Sl->Prop:=fun r S1=>vb S1 (uJ r Q)
theorem Cp (h:va S (yk vb Q)):zG va vb S Q:=by unfold yk uJ at h;exact h
theorem Cq (h:vb S (uJ r Q)):yk vb Q r S:=by unfold yk;exact h
theorem cR {ds es:List D} (hl:ds.length+es.length<=1000000) (h:Q (ds++es) S):uJ (.d (.lst ds)) Q (.d (.lst es)) S:=by unfold uJ;exact ⟨ds,es,rfl,rfl,hl,h⟩
noncomputable def E1 (va vb:VT):VT:=fun S Q=>va S fun ra S1=>vb S1 fun rb S2=>∃ds i d,ra=.d (.lst ds)/\rb=.d (.int i)/\atI ds i=some d/\Q (.d d) S2
theorem nU (hK:X.K=K) (ha:VE K X m a ta va) (hb:VE K X false b tb vb) (hs:cV b):VE K X m (.Subscript a b pos) (tOp (rIx K) ta tb) (E1 va vb):=⟨by subst hK;exact lM mY ha.pe hb.pe hs,fun H0 Z σ H S Q C k t hc=>
 ha.snd H0 Z σ H S _ _ k t fun x H1 ra S1 k1 st1 r1 t1=>hb.snd H0 Z σ H1 S1 _ _ k1 t1 fun y H2 rb S2 k2 st2 r2 zq1=>by
  obtain ⟨ds,i,d,rfl,rfl,e3,q⟩:=zq1
  cases (show Rep K _ _ H2 y (.int i) from r2)
  obtain ⟨p,vs,rfl,hq,rr⟩:=(show Rep K (NM Z σ S2) (FM H0 m) H2 x (.lst ds) from r1.step st2).sqL
  obtain ⟨v,h1,h2⟩:=fC rr e3
  exact .inl ⟨p,vs,i,v,rfl,rfl,hq,h1,hc v H2 (.d d) S2 k2 (st1.trans st2) h2 q⟩⟩
@[irreducible] noncomputable def mL (ra:VR) (R:VR->List Sl->Prop):VR->List Sl->Prop:=fun rb S2=>∃ds i d,ra=.d (.lst ds)/\rb=.d (.int i)/\atI ds i=some d/\R (.d d) S2
@[irreducible] noncomputable def pA (vb:VT) (R:VR->List Sl->Prop):VR->List Sl->Prop:=fun ra S1=>vb S1 (mL ra R)
theorem E2 (h:va S (pA vb R)):E1 va vb S R:=by unfold pA mL at h;exact h
theorem yl {ra:VR} (h:vb S (mL ra R)):pA vb R ra S:=by unfold pA;exact h
theorem lj {i:Int} (e:atI ds i=some d) (h:R (.d d) S):mL (.d (.lst ds)) R (.d (.int i)) S:=by unfold mL;exact ⟨ds,i,d,rfl,rfl,e,h⟩
end
noncomputable def spH (K:PySem.W.Frag) (p:List Int->List D->(D->List Int->Prop)->Prop):Sp:=fun vs H Q _=>∃a us ns es R,∃H0:Hp,vs=.ref a::us/\H a=some (.lst (ns.map .int))/\(∀b,H b=none->H0 b=none)/\Reps K (·≠a) (Fr H0) H us es/\p ns es R /\
 ∀d ns' v H',R d ns'->(∀b,b≠a->H b≠none->H' b=H b)->H' a=some (.lst (ns'.map .int))->Rep K (·≠a) (Fr H0) H' v d->Q v H'
noncomputable def fq (n:Nat) (a:Addr) (ns:List Int) (es:List D):List Sl:=.pen (some a) ns::dS (n-1) es
theorem ki {n:Nat} {a:Addr} {es:List D} {i:Nat} {s:Sl} (h:(fq n a ns es)[i]?=some s):s=.no\/(i=0/\s=.pen (some a) ns)\/∃j d,i=j+1/\s=.fre d/\es[j]?=some d:=by
 rcases i with _ | i
 ·cases h;exact .inr (.inl ⟨rfl,rfl⟩)
 ·rcases gH (show (dS (n-1) es)[i]?=some s from h) with h | ⟨d,h1,h2⟩
  ·exact .inl h
  ·exact .inr (.inr ⟨i,d,rfl,h1,h2⟩)
section
variable {P:Program} {w:World} {K:PySem.W.Frag} {mg:Str->Option Value} {base:Heap}
theorem E3 {x:Str} {st:Stmt} {N ps:List Str} {k:Nat} {p:List Int->List D->(D->List Int->Prop)->Prop} (S:Src K mg x st) (sc:aH N ps (aj st))
  (hb:∀(kV doc pm:Value) (an:Option Addr) (cdv ct:Value) (us:List Value),us.length=ps.length->bindArgs (PySem.W.fnOf x x (bZ st) (bt st) (aj st) .none kV doc pm an cdv ct) ⟨us,[]⟩=pure (ps.zip us))
  (len:∀ns ds R,p ns ds R->ds.length+1=ps.length)
  (hbody:∀(f:Addr) (cdv:Value) (A:Around) (outer:List Env) (s:Shared) (H:Hp) (E:XK),bY k (A.deeper (PyProof.Rows.envOfC x (aj st) s.heap.objs.size f cdv)) ->
   ∃ts t,VSs K (iJ CX0 P w K mg base N x (aj st) f cdv A outer s H E).nox (bt st) ts t/\∀a ns es R,p ns es R->t { nx:=fun S'=>∃ns',S'[0]?=some (.pen (some a) ns')/\R .non ns',rt:=fun d S'=>∃ns',S'[0]?=some (.pen (some a) ns')/\R d ns' } (fq N.length a ns es)) :
  Has P w K mg base (k+1) x ps (spH K p):=by
 refine S.has sc hb (fun vs H Q E zq1=>by
  obtain ⟨a,us,ns,es,R,H0,e,hp,hd,r,h,_⟩:=zq1
  rw [e,List.length_cons,r.length]
  exact len _ _ _ h) fun f cdv A outer s H vs Q E hr ⟨a,us,ns,es,R,H0,e,hp,hd,r,h,fin⟩=>?_
 subst e
 obtain ⟨ts,t,vs',q⟩:=hbody f cdv A outer s H E hr
 have h0:(start N (V.ref a::us))[0]?=some (some (V.ref a)):=dw rfl
 have hmut:∀{i:Nat} {s:Sl},(fq N.length a ns es)[i]?=some s->s.mut=true->i=0/\s=.pen (some a) ns:=fun {i s} g m=>by
  rcases ki g with rfl | g | ⟨_,_,_,rfl,_⟩
  ·cases m
  ·exact g
  ·cases m
 have hmo:∀b,Mo (fun _=>False) (start N (V.ref a::us)) (fq N.length a ns es) b->b=a:=fun b z=>by
  rcases z with ⟨i,s,g1,g2,g3⟩ | z
  ·obtain ⟨rfl,_⟩:=hmut g1 g2
   rw [h0] at g3;cases g3;rfl
  ·exact z.elim
 have k0:OK K H0 (fun _=>False) (start N (V.ref a::us)) H (fq N.length a ns es):={
  len:=by simp [L2.start,fq,dS,r.length];lia
  dom:=hd
  zl:=fun _ z=>z.elim
  nz:=fun _ _ _ _ _ _ z=>z
  inj:=fun i j a s t h1 h2 m1 m2 _ _=>by rw [(hmut h1 m1).1,(hmut h2 m2).1]
  at_:=fun i o s h1 h2=>by
   rcases ki h2 with rfl | ⟨rfl,rfl⟩ | ⟨j,d,rfl,rfl,e⟩
   ·trivial
   ·rw [h0] at h1
    cases h1
    exact ⟨a,rfl,fun b z=>by cases z;rfl,hp⟩
   ·obtain ⟨v,e1,e2⟩:=r.getD e
    rw [dw (show (V.ref a::us)[j+1]?=some v from e1)] at h1
    cases h1
    exact ⟨v,rfl,e2.mono (fun b n _=>⟨fun z=>n (hmo b z),rfl⟩) fun _ x=>x⟩ }
 have st0:∀{σ' S' H'},Step (fun _=>False) (start N (V.ref a::us)) (fq N.length a ns es) H σ' S' H'->∀b,b≠a->H b≠none->H' b=H b:=fun st b n e=>(st.1 b (fun z=>n (hmo b z)) e).1
 have pn:∀{σ' S' H' ns'},OK K H0 (fun _=>False) σ' H' S'->S'[0]?=some (.pen (some a) ns')->σ'[0]?=some (some (V.ref a))/\H' a=some (.lst (ns'.map .int)):=fun k' e=>by
  obtain ⟨o,e1,b,rfl,e2,e3⟩:=k'.ownAt e
  obtain rfl:=e2 a rfl
  exact ⟨e1,e3⟩
 refine ⟨ts,vs'.ps,vs'.snd _ _ _ H _ _ _ k0 (q a ns es R h) ⟨fun σ' H' S' k' st zt1=>by obtain ⟨ns',e,q⟩:=zt1;exact fin .non ns' .non H' q (st0 st) (pn k' e).2 .non,fun σ' H' S' k' st q=>q.elim,fun σ' H' S' k' st q=>q.elim,fun v d σ' H' S' k' st rr ⟨ns',e,q⟩=>fin d ns' v H' q (st0 st) (pn k' e).2 (rr.mono (fun b n _=>⟨fun z=>?_,rfl⟩) fun _ x=>x)⟩⟩
 subst z
 exact n _ _ _ e (pn k' e).1
end
section
variable {K:PySem.W.Frag} {X:Cx} {m:Bool} {e0 e1:Expr} {es:List Expr} {tr:TA} {vr:VTA} {pos p0:Pos} {x:Str} {i j k:Nat} {ps:List Str} {p:List Int->List D->(D->List Int->Prop)->Prop} {S:List Sl} {Q:VR->List Sl->Prop}
@[irreducible] noncomputable def uK (i:Nat) (p:List Int->List D->(D->List Int->Prop)->Prop) (Q:VR->List Sl->Prop):List VR->List Sl->Prop:=fun rs S1=>∃ad ns ds,S1[i]?=some (.pen ad ns)/\allD rs=some ds/\p ns ds fun d ns'=>Q (.d d) (S1.set i (.pen ad ns'))
noncomputable def E4 (i:Nat) (p:List Int->List D->(D->List Int->Prop)->Prop) (vr:VTA):VT:=fun S Q=>(∃ad ns,S[i]?=some (.pen ad ns))/\vr S (uK i p Q)
theorem E5 {ad:Option Addr} (e:S[i]?=some (.pen ad ns)) (h:vr S (uK i p Q)):E4 i p vr S Q:=⟨⟨ad,ns,e⟩,h⟩
theorem Cr {ad:Option Addr} (e:S[i]?=some (.pen ad ns)) (e2:allD rs=some ds) (h:p ns ds fun d ns'=>Q (.d d) (S.set i (.pen ad ns'))):uK i p Q rs S:=by unfold uK;exact ⟨ad,ns,ds,e,e2,h⟩
open Classical in
theorem Cs (i:Nat) (E:Has X.prog X.w X.K X.mg X.base k x ps (spH K p)) (hr:bY j X.A) (h0:PE X e0 (cT i)) (ha:VA K X true (e1::es) tr vr)
  (hk:k<=j:=by decide) (hg:Gl X x:=by rfl) (hdb:(x==("__debug__":Str))=false:=by decide) (he:starEach (e0::e1::es) X.env=(false,eval e0 X.env)::starEach (e1::es) X.env:=by rfl)
  (hpl:(backTo pos (starEach (e1::es) X.env)).any (·.1)=false:=by rfl):VE K X m (.Call (.Name x p0) (e0::e1::es) [] pos) (gS (spH K p) [] E0 (iH (cT i) tr)) (E4 i p vr):=⟨jJ E hr (cU h0 ha.pe he) hk hg hdb he hpl,fun H0 Z σ H S Q C k zq1 hc=>by
 obtain ⟨⟨ad0,ns0,e0⟩,t⟩:=zq1
 obtain ⟨o,g1,a,rfl,_,_⟩:=k.ownAt e0
 refine ⟨.ref a,g1,ha.snd H0 Z σ H S _ _ k t fun vs H1 rs S1 k1 st1 rrs q=>?_⟩
 unfold uK at q
 obtain ⟨ad,ns,ds,e1,e2,q⟩:=q
 obtain ⟨o',g1',a',rfl,g2,g3⟩:=k1.ownAt e1
 rw [g1] at g1';cases g1'
 have ma:Mo Z σ S1 a:=.inl ⟨i,_,e1,rfl,g1⟩
 have hF:∀b,Fr (fun b=>if H0 b=none/\NM Z σ S1 b then none else some (.lst [])) (some b)↔H0 b=none/\NM Z σ S1 b:=fun b=>by
  constructor
  ·rintro ⟨c,e,f⟩
   cases e
   by_cases h:H0 b=none/\NM Z σ S1 b
   ·exact h
   ·simp only [if_neg h] at f;cases f
  ·intro h
   exact ⟨b,rfl,if_pos h⟩
 refine ⟨a,vs,ns,ds,_,fun b=>if H0 b=none/\NM Z σ S1 b then none else some (.lst []),by rw [List.append_nil],g3,fun b z=>if_pos ⟨k1.dom b z,k1.nm z⟩,?_,q,fun d ns' v H2 q g ga rv=>?_⟩
 ·refine ((rrs.allD e2).both (F':=Fr (fun b=>if H0 b=none/\NM Z σ S1 b then none else some (.lst []))) (fun b n f=>?_) (fun f=>?_)).mono (fun b n _=>⟨fun z=>n (by rw [z];exact ma),rfl⟩) fun _ x=>x
  ·obtain ⟨c,e,f⟩:=f rfl
   cases e
   exact (hF b).mpr ⟨f,n⟩
  ·obtain ⟨c,e,_⟩:=f rfl
   cases e
 have hG:∀b,upd H1 a (.lst (ns'.map V.int)) b≠none->H2 b=upd H1 a (.lst (ns'.map V.int)) b:=fun b hb=>by
  by_cases hba:b=a
  ·subst hba;rw [aK];exact ga
  ·rw [aL hba] at hb ⊢;exact g b hba hb
 obtain ⟨k2,st2⟩:=k1.chg (s:=.pen ad ns') (o:=.lst (ns'.map V.int)) e1 rfl g1 ⟨_,rfl⟩ rfl ⟨a,rfl,g2,aK⟩
 have k3:=k2.grow hG
 refine hc v H2 (.d d) _ k3 ((st1.trans st2).trans (.grow hG)) (show Rep K _ _ H2 v d from ?_) q
 refine (Rep.avoid (N':=NM Z σ (S1.set i (.pen ad ns'))) (fun b z=>k3.mo (Classical.not_not.mp z)) (fun b f=>?_) rv).mono (fun _ n _=>⟨n,rfl⟩) (fun o f _=>?_)
 ·have nb:=((hF b).mp f).2
  by_cases hb:H1 b=none
  ·refine k2.nm ?_
   rw [aL]
   ·exact hb
   ·intro z;subst z;rw [g3] at hb;cases hb
  ·exact (st2.1 b nb hb).2
 ·obtain ⟨c,e,_⟩:=id f
  subst e
  exact ⟨c,rfl,((hF c).mp f).1⟩⟩
end
end VL
end
local macro_rules | `(tactic| walk_at "s") => `(tactic| exact ⟨rfl, rfl, rfl, by decide +kernel, rfl, by decide +kernel, by decide +kernel⟩)
theorem My.len1 {α:Type} {l:List α} (h:l.length=1):∃a0,l=[a0]:=match l,h with|[a0],_=>⟨a0,rfl⟩
local macro_rules | `(tactic| walk_at "1") => `(tactic| exact (fun _ _ _ _ _ _ us hl => by obtain ⟨_,e⟩ := My.len1 hl; subst e; exact rfl))
theorem My.len2 {α:Type} {l:List α} (h:l.length=2):∃a0 a1,l=[a0,a1]:=match l,h with|[a0,a1],_=>⟨a0,a1,rfl⟩
local macro_rules | `(tactic| walk_at "2") => `(tactic| exact (fun _ _ _ _ _ _ us hl => by obtain ⟨_,_,e⟩ := My.len2 hl; subst e; exact rfl))
theorem My.len3 {α:Type} {l:List α} (h:l.length=3):∃a0 a1 a2,l=[a0,a1,a2]:=match l,h with|[a0,a1,a2],_=>⟨a0,a1,a2,rfl⟩
local macro_rules | `(tactic| walk_at "3") => `(tactic| exact (fun _ _ _ _ _ _ us hl => by obtain ⟨_,_,_,e⟩ := My.len3 hl; subst e; exact rfl))
local macro_rules | `(tactic| walk_at "l0") => `(tactic| first
 | with_reducible refine VL.A4 ?_
 | with_reducible refine VL.wK ?_
 | ((with_reducible refine' VL.DC ?h ?_);(case h=>exact rfl))
 | with_reducible refine VL.j_c ?_
 | with_reducible refine VL.DN ?_
 | ((with_reducible refine' VL.FI ?h1 ?h2 ?_);(case h1=>exact rfl);(case h2=>exact rfl))
 | with_reducible refine VL.j_2 ?_
 | with_reducible refine VL.FH ?_
 | with_reducible refine VL.AQ ?_
 | with_reducible refine VL.Du ?_
 | with_reducible refine VL.wH ?_
 | with_reducible refine VL.A1 ?_
 | with_reducible refine VL.FJ ?_
 | with_reducible refine VL.DH ?_
 | ((with_reducible refine' VL.bj ?h1 ?h2 ?h3 ?_);(case h1=>exact rfl);(case h2=>exact rfl);(case h3=>exact rfl))
 | ((with_reducible refine' VL.yZ ?h1 ?h2 ?h3 ?_);(case h1=>exact rfl);(case h2=>exact rfl);(case h3=>first | exact rfl | exact VL.at_0))
 | ((with_reducible refine' VL.FG ?h ?_);(case h=>exact rfl);(try dsimp only [List.set_cons_zero,List.set_cons_succ]))
 | with_reducible refine VL.DD ?_
 | ((with_reducible refine' VL.AV ?h ?_);(case h=>exact rfl))
 | with_reducible refine VL.DB ?_
 | with_reducible refine VL.DO ?_
 | ((with_reducible refine' VL.A5 ?h1 ?h2 ?_);(case h1=>exact rfl);(case h2=>exact rfl))
 | with_reducible refine VL.AY ?_
 | with_reducible refine VL.DA ?_
 | with_reducible refine VL.A7 ?_
 | with_reducible refine VL.DS ?_)
local macro_rules | `(tactic| walk_at "l1") => `(tactic| first
 | with_reducible refine VL.D8 ?_
 | with_reducible refine VL.Ew ?_
 | with_reducible refine VL.AR ?_
 | ((with_reducible refine' VL.DT ?h ?_);(case h=>exact rfl))
 | with_reducible refine VL.Dw ?_
 | with_reducible refine VL.AZ ?_
 | ((with_reducible refine' VL.cZ ?h ?_);(case h=>first | exact rfl | simp only [VL.flat,VL.flats,VL.bu,VL.eT,VL.d0,Bool.and_self]))
 | with_reducible refine VL.sF ?_
 | with_reducible refine VL.DQ ?_
 | ((with_reducible refine' VL.A6 ?h1 ?h2 ?_);(case h1=>exact rfl);(case h2=>exact rfl))
 | with_reducible refine VL.DX ?_
 | ((with_reducible refine' VL.Ba ?h1 ?h2 ?h3 ?_);(case h1=>exact rfl);(case h2=>exact rfl);(case h3=>exact rfl))
 | with_reducible refine VL.su ?_
 | with_reducible refine VL.sC ?_
 | ((with_reducible refine' VL.DE ?h ?_);(case h=>first | exact (by decide) | exact .inl ⟨by decide,by decide⟩ | exact .inr ⟨by decide,by decide⟩ | (show (0:Int) < _;lia) | (show (0:Int)<=_;lia) | exact ⟨by decide,by decide,by decide⟩ | exact ⟨by lia,by lia,by lia⟩ | exact ⟨by lia,by lia⟩ | exact .inl ⟨by lia,by lia⟩ | exact .inr ⟨by lia,by lia⟩))
 | with_reducible refine VL.FQ ?_
 | with_reducible refine VL.wD ?_
 | ((with_reducible refine' VL.BA ?h ?_);(case h=>exact Or.inl rfl))
 | with_reducible refine VL.FO ?_
 | with_reducible refine VL.FL ?_
 | ((with_reducible refine' VL.DI ?h ?_);(case h=>exact rfl))
 | with_reducible refine VL.A8 ?_
 | with_reducible refine VL.D2 ?_
 | with_reducible refine VL.D0 ?_
 | with_reducible refine VL.Bc ?_
 | with_reducible refine VL.qk ?_
 | with_reducible refine VL.qm ?_
 | with_reducible refine VL.Bf ?_
 | with_reducible refine VL.AS ?_
 | ((with_reducible refine' VL.Dy ?h ?_);(case h=>exact rfl);(try simp only [List.map_cons,List.map_nil]))
 | with_reducible refine VL.tf ?_
 | with_reducible refine VL.Eo ?_
 | with_reducible refine VL.FN ?_
 | with_reducible refine VL.Cp ?_
 | with_reducible refine VL.Cq ?_
 | with_reducible refine VL.Bn ?_
 | with_reducible refine VL.AT ?_
 | ((with_reducible refine' VL.wF ?h ?_);(case h=>exact rfl);(try dsimp only [List.set_cons_zero,List.set_cons_succ]))
 | with_reducible refine VL.lZ ?_
 | with_reducible refine VL.DK ?_
 | with_reducible refine VL.sI ?_
 | with_reducible refine VL.sJ ?_
 | with_reducible refine VL.EZ ?_
 | with_reducible refine VL.Co ?_
 | with_reducible refine VL.yi ?_
 | with_reducible refine VL.yj ?_
 | with_reducible refine VL.D5 ?_
 | ((with_reducible refine' VL.Bd ?h ?_);(case h=>exact ⟨by lia,by lia⟩))
 | with_reducible refine VL.AX ?_)
local macro_rules | `(tactic| walk_at "l2") => `(tactic| first
 | with_reducible refine VL.wG ?_
 | with_reducible refine VL.Bg ?_
 | with_reducible refine VL.A2 ?_
 | with_reducible refine VL.A3 ?_
 | ((with_reducible refine' VL.Ck ?h ?_);(case h=>exact rfl);(try dsimp only [List.set_cons_zero,List.set_cons_succ]))
 | with_reducible refine VL.DL ?_
 | with_reducible refine VL.Bv ?_
 | ((with_reducible refine' VL.wY ?h ?_);(case h=>exact rfl);(try dsimp only [List.set_cons_zero,List.set_cons_succ]))
 | with_reducible refine VL.xw ?_
 | ((with_reducible refine' VL.DZ ?h ?_);(case h=>exact rfl))
 | ((with_reducible refine' VL.Bb ?h1 ?h2 ?_);(case h1=>exact rfl);(case h2=>first | lia | (simp only [List.length_append,List.length_cons,List.length_nil,List.length_map];lia) | exact Nat.le_of_ble_eq_true rfl);(try dsimp only [List.set_cons_zero,List.set_cons_succ]))
 | with_reducible refine VL.DF ?_
 | with_reducible refine VL.Bw ?_
 | ((with_reducible refine' VL.wZ ?h ?_);(case h=>exact rfl))
 | with_reducible refine VL.E2 ?_
 | with_reducible refine VL.yl ?_
 | with_reducible refine VL.EX ?_
 | with_reducible refine VL.Cj ?_
 | with_reducible refine VL.yd ?_
 | ((with_reducible refine' VL.ye ?h ?_);(case h=>exact rfl))
 | with_reducible refine VL.BC ?_
 | ((with_reducible refine' VL.BD ?h ?_);(case h=>exact rfl))
 | with_reducible refine VL.D9 ?_
 | with_reducible refine VL.wL ?_
 | ((with_reducible refine' VL.El ?h ?_);(case h=>exact rfl))
 | with_reducible refine VL.Bu ?_
 | with_reducible refine VL.By ?_
 | with_reducible refine VL.EA ?_
 | with_reducible refine VL.EB ?_
 | with_reducible refine VL.EC ?_
 | with_reducible refine VL.ED ?_
 | with_reducible refine VL.wM ?_
 | ((with_reducible refine' VL.sR ?h1 ?h2 ?_);(case h1=>exact rfl);(case h2=>exact rfl))
 | ((with_reducible refine' VL.qj ?h1 ?h2 ?h3 ?_);(case h1=>exact rfl);(case h2=>exact rfl);(case h3=>exact rfl);(try dsimp only [List.set_cons_zero,List.set_cons_succ]))
 | with_reducible refine VL.D6 ?_
 | ((with_reducible refine' VL.Be ?h ?_);(case h=>exact ⟨by lia,by lia,by lia,by lia⟩))
 | with_reducible refine VL.oF ?_
 | with_reducible refine VL.oG ?_
 | ((with_reducible refine' VL.Ea ?h1 ?h2 ?_);(case h1=>(intro n z;cases z));(case h2=>first | exact L2.kC | exact L2.isiB_int_bool | exact L2.isiB_list_list | exact L2.isiB_tuple_tuple | exact L2.isiB_bool_bool | exact L2.isiB_f1 | exact L2.isiB_f2 | exact L2.isiB_f3 | exact L2.isiB_f4 | exact L2.isiB_f5 | exact L2.isiB_f6 | exact L2.isiB_g1 | exact L2.isiB_g2 | exact L2.isiB_g3 | exact L2.isiB_g4 | exact L2.isiB_g5 | exact L2.isiB_g6 | exact L2.isiB_h1 | exact L2.isiB_h2 | exact L2.isiB_h3 | exact L2.isiB_h4 | exact L2.isiB_h5 | exact L2.isiB_h6 | exact L2.isiB_h7))
 | with_reducible refine VL.sN ?_
 | with_reducible refine VL.EN ?_
 | with_reducible refine VL.Cm ?_
 | ((with_reducible refine' VL.yg ?h ?h2 ?_);(case h=>exact Nat.le_of_ble_eq_true rfl);(case h2=>exact Nat.le_of_ble_eq_true rfl);(try dsimp only [List.set_cons_zero,List.set_cons_succ]))
 | ((with_reducible refine' VL.E5 ?h ?_);(case h=>exact rfl))
 | ((with_reducible refine' VL.Cr ?h ?h2 ?_);(case h=>exact rfl);(case h2=>exact rfl))
 | with_reducible refine VL.EW ?_
 | ((with_reducible refine' VL.Cg ?h ?_);(case h=>exact rfl))
 | with_reducible refine VL.Ci ?_
 | ((with_reducible refine' VL.x9 ?h ?_);(case h=>exact rfl))
 | with_reducible refine VL.x4 ?_
 | ((with_reducible refine' VL.BS ?h ?_);(case h=>exact rfl))
 | with_reducible refine VL.EH ?_
 | ((with_reducible refine' VL.BU ?h ?_);(case h=>exact rfl))
 | with_reducible refine VL.xy ?_
 | with_reducible refine VL.t9 ?_
 | with_reducible refine VL.xk ?_
 | with_reducible refine VL.BG ?_
 | with_reducible refine VL.BH ?_
 | ((with_reducible refine' VL.BI ?h ?_);(case h=>exact rfl))
 | with_reducible refine VL.EJ ?_
 | with_reducible refine VL.xH ?_
 | with_reducible refine VL.DV ?_
 | ((with_reducible refine' VL.A9 ?h ?_);(case h=>exact rfl))
 | with_reducible refine VL.AU ?_
 | ((with_reducible refine' VL.oE ?h ?_);(case h=>exact rfl);(try dsimp only [List.set_cons_zero,List.set_cons_succ]))
 | with_reducible refine VL.DM ?_
 | ((with_reducible refine' VL.BX ?h ?_);(case h=>exact rfl);(try dsimp only [List.set_cons_zero,List.set_cons_succ]))
 | with_reducible refine VL.BW ?_
 | with_reducible refine VL.xE ?_
 | with_reducible refine VL.Em ?_
 | with_reducible refine VL.En ?_
 | ((with_reducible refine' VL.Bm ?h1 ?h2 ?_);(case h1=>exact Nat.le_of_ble_eq_true rfl);(case h2=>exact Nat.le_of_ble_eq_true rfl);(try dsimp only [List.set_cons_zero,List.set_cons_succ]))
 | with_reducible refine VL.Er ?_
 | with_reducible refine VL.Eu ?_
 | with_reducible refine VL.w4 ?_)
local macro_rules | `(tactic| walk_at "rd1") => `(tactic| first
 | walk_at "l0"
 | walk_at "l1"
 | walk_at "l2")
local macro_rules | `(tactic| walk_at "rc1") => `(tactic| first
 | walk_at "rd1"
 | ((with_reducible refine' VL.Eb ?h1 ?h2 ?h3 ?h4 ?h5 ?h6 ?_);(case h1=>exact rfl);(case h2=>exact rfl);(case h3=>exact rfl);(case h4=>exact rfl);(case h5=>exact rfl);(case h6=>exact rfl))
 | ((with_reducible refine' VL.Ee ?h ?_);(case h=>exact rfl))
 | ((with_reducible refine' VL.Ef ?h ?_);(case h=>exact rfl))
 | ((with_reducible refine' VL.Bh ?h ?_);(case h=>exact rfl))
 | ((with_reducible refine' VL.Bi ?h ?_);(case h=>exact rfl))
 | ((with_reducible refine' VL.Ec ?h ?_);(case h=>exact rfl))
 | ((with_reducible refine' VL.Ed ?h ?_);(case h=>exact rfl))
 | ((with_reducible refine' VL.FR ?h ?_);(case h=>exact rfl))
 | ((with_reducible refine' VL.FS ?h ?_);(case h=>exact rfl))
 | ((with_reducible refine' VL.Eg ?h ?_);(case h=>exact rfl))
 | ((with_reducible refine' VL.Eh ?h ?_);(case h=>exact rfl)))
local macro_rules | `(tactic| walk_at "rc") => `(tactic| repeat walk_at "rc1")
local macro_rules | `(tactic| walk_at "rd") => `(tactic| repeat walk_at "rd1")
local macro_rules | `(tactic| walk_at "sl") => `(tactic| simp only [VL.slots, VL.dM, VL.eT, List.map_cons, List.map_nil, List.length_cons, List.length_nil, List.cons_append, List.nil_append, Nat.reduceAdd, Nat.reduceSub, Nat.zero_add, List.replicate_succ, List.replicate_zero])
namespace My
open PySem L2 VL
noncomputable def top (i:Nat):Stmt:=PySem.Challenge.pw_cellships_k22_papers_refused.main.body.getD i (.Pass ⟨0,0,0,0⟩)
noncomputable abbrev lq:Stmt:=top 1
theorem lr:aH ["picture","move","dx","dy"] ["picture","move"] (aj lq):=by walk_at "s"
noncomputable abbrev jh:Stmt:=top 2
theorem iy:aH ["picture","columns","rows","left","top"] ["picture"] (aj jh):=by walk_at "s"
noncomputable abbrev gK:Stmt:=top 3
theorem ji:aH ["picture","box"] ["picture"] (aj gK):=by walk_at "s"
noncomputable abbrev jk:Stmt:=top 6
theorem qD:aH ["kind"] ["kind"] (aj jk):=by walk_at "s"
noncomputable abbrev jm:Stmt:=top 11
theorem qE:aH ["rule"] ["rule"] (aj jm):=by walk_at "s"
noncomputable abbrev ef:Stmt:=top 12
theorem lu:aH ["rule"] ["rule"] (aj ef):=by walk_at "s"
noncomputable abbrev nV:Stmt:=top 13
theorem iz:aH ["rule","alive","count","kind","born","stay"] ["rule","alive","count"] (aj nV):=by walk_at "s"
noncomputable abbrev lw:Stmt:=top 15
theorem cF:aH ["kind","picture","around","tally","x","y","dx","dy","cell"] ["kind","picture"] (aj lw):=by walk_at "s"
noncomputable abbrev jn:Stmt:=top 16
theorem gL:aH ["kind","picture","tally","cell"] ["kind","picture"] (aj jn):=by walk_at "s"
noncomputable abbrev cG:Stmt:=top 17
theorem fT:aH ["rule","picture","tally","living"] ["rule","picture","tally"] (aj cG):=by walk_at "s"
noncomputable abbrev gM:Stmt:=top 18
theorem nW:aH ["rule","picture"] ["rule","picture"] (aj gM):=by walk_at "s"
noncomputable abbrev nX:Stmt:=top 20
theorem ym:aH ["picture"] ["picture"] (aj nX):=by walk_at "s"
noncomputable abbrev gN:Stmt:=top 21
theorem ft:aH ["rule","rows","one","other"] ["rule","rows"] (aj gN):=by walk_at "s"
noncomputable abbrev cq:Stmt:=top 22
theorem hZ:aH ["rows"] ["rows"] (aj cq):=by walk_at "s"
noncomputable abbrev eh:Stmt:=top 23
theorem bR:aH ["rows","told","last","word","turn","span","move"] ["rows","told"] (aj eh):=by walk_at "s"
noncomputable abbrev gO:Stmt:=top 24
theorem nY:aH ["rule","rows","told"] ["rule","rows","told"] (aj gO):=by walk_at "s"
noncomputable abbrev uL:Stmt:=top 26
theorem ly:aH ["_law_script","_law_k","_law_cell"] ["_law_script","_law_k"] (aj uL):=by walk_at "s"
noncomputable abbrev nZ:Stmt:=top 27
theorem fU:aH ["_law_pen_here","_law_many","_law_drawn","_law_number_here"] ["_law_pen_here","_law_many"] (aj nZ):=by walk_at "s"
noncomputable abbrev jo:Stmt:=top 28
theorem kj:aH ["_law_pen_here","_law_way"] ["_law_pen_here"] (aj jo):=by walk_at "s"
noncomputable abbrev jq:Stmt:=top 29
theorem fV:aH ["_law_pen_here","_law_kind","_law_born","_law_stay"] ["_law_pen_here"] (aj jq):=by walk_at "s"
noncomputable abbrev iA:Stmt:=top 30
theorem cS:aH ["_law_pen_here","_law_way","_law_goer","_law_side","_law_cells_here","_law_k","_law_cell"] ["_law_pen_here"] (aj iA):=by walk_at "s"
noncomputable abbrev eJ:Stmt:=top 31
theorem dW:aH ["_law_pen_here","_law_cells_here","_law_dx","_law_dy"] ["_law_pen_here"] (aj eJ):=by walk_at "s"
noncomputable abbrev lz:Stmt:=top 32
theorem fW:aH ["_law_kind","_law_found"] ["_law_kind"] (aj lz):=by walk_at "s"
noncomputable abbrev lA:Stmt:=top 33
theorem dX:aH ["_law_told","_law_live","_law_near","_law_cell","_law_step","_law_there","_law_alive"] ["_law_told","_law_live"] (aj lA):=by walk_at "s"
noncomputable abbrev lB:Stmt:=top 34
theorem pB:aH ["_law_one","_law_other_here","_law_move_here"] ["_law_one","_law_other_here"] (aj lB):=by walk_at "s"
noncomputable abbrev lC:Stmt:=top 35
theorem eu:aH ["_law_rows_here","_law_found","_law_late","_law_early","_law_move_here"] ["_law_rows_here"] (aj lC):=by walk_at "s"
noncomputable abbrev pC:Stmt:=top 36
theorem jr:aH ["_law_told","_law_rows_here","_law_due_here","_law_at","_law_last","_law_without","_law_pairs_here"] ["_law_told","_law_rows_here","_law_due_here"] (aj pC):=by walk_at "s"
noncomputable abbrev n5:Stmt:=top 37
theorem fX:aH ["_law_told","_law_live","_law_many","_law_rows_here","_law_turn","_law_pairs_here","_law_later"] ["_law_told","_law_live","_law_many"] (aj n5):=by walk_at "s"
noncomputable abbrev fY:Stmt:=top 38
theorem bS:aH ["_law_pen_here","_law_told","_law_rows_here","_law_way","_law_at","_law_two","_law_cell","_law_x","_law_y","_law_some"] ["_law_pen_here","_law_told","_law_rows_here"] (aj fY):=by walk_at "s"
noncomputable abbrev lD:Stmt:=top 39
theorem eE:aH ["_law_pen_here","_law_due_here","_law_way","_law_one","_law_move_here","_law_dx"] ["_law_pen_here","_law_due_here"] (aj lD):=by walk_at "s"
noncomputable abbrev yn:Stmt:=top 40
theorem dC:aH ["_law_script","_law_k","_law_pen_here","_law_told","_law_rows_here","_law_shown","_law_turn","_law_some","_law_other_here","_law_handed","_law_found"] ["_law_script"] (aj yn):=by walk_at "s"
structure Txt (mg:Str->Option Value):Prop where
 len_:mg "len"=none
 range:mg "range"=none
 abs_:mg "abs"=none
 isinstance_:mg "isinstance"=none
 int_:mg "int"=none
 bool_:mg "bool"=none
 list_:mg "list"=none
 tuple_:mg "tuple"=none
 sorted_:mg "sorted"=none
 max_:mg "max"=none
 min_:mg "min"=none
 all_:mg "all"=none
 any_:mg "any"=none
 set_:mg "set"=none
 sum_:mg "sum"=none
 str_:mg "str"=none
 dict_:mg "dict"=none
 zip_:mg "zip"=none
noncomputable def Pn (b:Nat) (pn:List Int):Prop:=∃x y c:Int,pn=[x,y,c]/\0<=c/\c<=b
theorem Pn.le {b b':Nat} {pn:List Int} (h:Pn b pn) (e:b<=b'):Pn b' pn:=let ⟨x,y,c,h1,h2,h3⟩:=h;⟨x,y,c,h1,h2,by lia⟩
noncomputable def E6:List D->(D->Prop)->Prop:=fun ds R=>∃(ns:List Int) (k:Nat),ds=[.lst (ns.map .int),.int k]/\k<=1000/\∀x y:Int,R (.lst ([x,y,0].map .int))
noncomputable def yo:List D->(D->Prop)->Prop:=fun ds R=>∃ns:List Int,ds=[.lst (ns.map .int)]/\ns.length<=63/\R (.bl true)
noncomputable def fZ:List Int->List D->(D->List Int->Prop)->Prop:=fun pn ds R=>∃(b:Nat) (m:Int),ds=[.int m]/\Pn b pn/\b<=1000000/\0 < m/\m < 1073741824/\∀(pn':List Int) (r:Int),Pn (b+1) pn'->0<=r->r < m->R (.int r) pn'
theorem mM {j:Nat} (h:j < ns.length):atI (ns.map D.int) (j:Int)=some (.int (ns[j])):=by
 exact aW (by simp [h])
section
variable {P:Program} {w:World} {K:PySem.W.Frag} {mg:Str->Option Value} {base:Heap}
theorem Ct (S:Src K mg "_law_pen" uL) (T:Txt mg):Has P w K mg base 1 "_law_pen" ["_law_script","_law_k"] (spP K E6):=by
 refine bM S ly (by walk_at "2") (fun ds R zq1=>by obtain ⟨_,_,e,_⟩:=zq1;rw [e];rfl) fun f cdv A outer s H E hr=>⟨_,_,(ah (aG (i:=2) ly.nd rfl (Or.inl rfl) (ak aJ az (ak dF cu ae (ab 1 (pv 1))) ae))
  (ah (aQ (aD iE az (ab 1 (pv 1)) (aO (cD (K:=K) rfl) cC (by rfl) T.len_ bH (aa (ab 0 (pv 0)) af)) (ay _)) (ai (aG (i:=2) ly.nd rfl (Or.inl rfl) (aq rfl (ab 0 (pv 0)) (ab 1 (pv 1)) (fun _ _=>rfl)))) (ai (aQ (aD iF az (aO (cD (K:=K) rfl) cC (by rfl) T.len_ bH (aa (ab 0 (pv 0)) af)) ae (ay _)) (ai (aG (i:=2) ly.nd rfl (Or.inl rfl) (ak aJ az (ak dh cu (aq rfl (ab 0 (pv 0)) (ak dh cu (ab 1 (pv 1)) (aO (cD (K:=K) rfl) cC (by rfl) T.len_ bH (aa (ab 0 (pv 0)) af))) (fun _ _=>rfl)) ae) (ak dF cu ae (ab 1 (pv 1)))))) aE)))
  (ah (aQ (aD CU az (ab 2 (pv 2)) (ak gm cu ae ae) (ay _)) (ai (aw (aB (aP (aa (ak aX az (ab 2 (pv 2)) (ak gm cu ae ae)) (aa (ak dh cu (ab 2 (pv 2)) ae) (aa ae af))))))) aE)
  (ai (aw (aB (aP (aa ae (aa (ak dh cu (ab 2 (pv 2)) ae) (aa ae af)))))))))),?_⟩
 rintro ds R ⟨ns,k,rfl,hk,q⟩
 have fin:∀(x y:Int),R (.lst [.int x,.int y,.int 0]):=fun x y=>q x y
 walk_at "sl"
 walk_at "rd"
 rw [List.length_map]
 refine bf (fun h1=>?_) (fun h1=>?_)
 ·have h1':k < ns.length:=by lia
  walk_at "rd"
  refine bj rfl rfl (mM h1') ?_
  walk_at "rd"
  refine bf (fun h1=>?_) (fun h1=>?_)
  all_goals (walk_at "rd";exact fin _ _)
 ·walk_at "rd"
  rw [List.length_map]
  refine bf (fun h2=>?_) (fun h2=>?_)
  ·walk_at "rd"
   rw [List.length_map]
   have h2':0 < ns.length:=by lia
   have e:((k:Int)%(ns.length:Int))=((k%ns.length:Nat):Int):=by lia
   refine DE (by show (0:Int) < _;lia) ?_
   dsimp only [ofV]
   rw [e]
   refine bj rfl rfl (mM (Nat.mod_lt _ h2')) ?_
   walk_at "rd"
   refine bf (fun h1=>?_) (fun h1=>?_)
   all_goals (walk_at "rd";exact fin _ _)
  ·walk_at "rd"
   refine bf (fun h1=>?_) (fun h1=>?_)
   all_goals (walk_at "rd";exact fin _ _)
theorem yp (S:Src K mg "_law_draw" nZ) (T:Txt mg):Has P w K mg base 1 "_law_draw" ["_law_pen_here","_law_many"] (spI K 0 fZ):=by
 refine jT 0 S fU (by walk_at "2") (fun ns ds R zq1=>by obtain ⟨_,_,e,_⟩:=zq1;rw [e];rfl) fun f cdv A outer s H E hr=>⟨_,_,(ah (lU 0 (pv 0) (ak aJ az (aq rfl (ab 0 (pv 0)) ae (fun _ _=>rfl)) ae) ae)
  (ah (aQ (aD iF az (aq rfl (ab 0 (pv 0)) ae (fun _ _=>rfl)) ae (ay _)) (ah (aG (i:=2) fU.nd rfl (Or.inl rfl) (ak dh cu (aq rfl (ab 0 (pv 0)) ae (fun _ _=>rfl)) (ab 1 (pv 1))))
  (ah (lU 0 (pv 0) (ak kr cu (aq rfl (ab 0 (pv 0)) ae (fun _ _=>rfl)) (ab 1 (pv 1))) ae)
  (ai (aw (aF (ab 2 (pv 2))))))) aE)
  (ah (aG (i:=3) fU.nd rfl (Or.inl rfl) (ak dh cu (ak aJ az (ak aJ az (aq rfl (ab 0 (pv 0)) ae (fun _ _=>rfl)) (ak dF cu ae (aq rfl (ab 0 (pv 0)) ae (fun _ _=>rfl)))) ae) ae))
  (ah (aG (i:=3) fU.nd rfl (Or.inl rfl) (ak aJ az (ak dh cu (ak dF cu (ab 3 (pv 3)) (ab 3 (pv 3))) ae) (ak dF cu ae (aq rfl (ab 0 (pv 0)) ae (fun _ _=>rfl)))))
  (ah (aG (i:=3) fU.nd rfl (Or.inl rfl) (ak dh cu (ak dF cu (ab 3 (pv 3)) (ab 3 (pv 3))) ae))
  (ai (aw (ak dh cu (ak kr cu (ab 3 (pv 3)) ae) (ab 1 (pv 1)))))))))),?_⟩
 rintro a pn ds es R hl ⟨b,m,e,⟨x,y,c,rfl,hc0,hc1⟩,hb,hm0,hm1,q⟩
 obtain rfl:ds=[]:=List.eq_nil_of_length_eq_zero hl
 obtain rfl:es=[.int m]:=e
 walk_at "sl"
 walk_at "rd"
 refine bf (fun h1=>?_) (fun h1=>?_)
 ·walk_at "rd"
  exact ⟨_,rfl,q _ _ ⟨_,_,_,rfl,by lia,by lia⟩ (Int.emod_nonneg _ (by lia)) (Int.emod_lt_of_pos _ hm0)⟩
 ·walk_at "rd"
  exact ⟨_,rfl,q _ _ ⟨_,_,_,rfl,by lia,by lia⟩ (Int.emod_nonneg _ (by lia)) (Int.emod_lt_of_pos _ hm0)⟩
end
end My
namespace My
open PySem L2 VL
noncomputable def nr (k:Int):List (List Int):=if k=4 then [[-1,0],[0,-1],[0,1],[1,0]] else if k=6 then [[-1,-1],[-1,0],[0,-1],[0,1],[1,0],[1,1]] else [[-1,-1],[-1,0],[-1,1],[0,-1],[0,1],[1,-1],[1,0],[1,1]]
noncomputable def rows:List (Int×List (List Int)):=[(4,nr 4),(6,nr 6),(8,nr 8)]
noncomputable def Kd (k:Int):Prop:=k=4\/k=6\/k=8
theorem uM {k:Int} (hk:Kd k):(k,nr k)∈rows:=by rcases hk with rfl | rfl | rfl <;> simp [rows]
noncomputable def Pr (ms:List Int):Prop:=∃x y,ms=[x,y]
theorem uN {k:Int} (hk:Kd k) {m:List Int} (h:m∈nr k):∃x y,m=[x,y]/\-1<=x/\x<=1/\-1<=y/\y<=1:=by
 have:(nr k).all (fun m=>match m with | [x,y]=>decide (-1<=x)&&decide (x<=1)&&decide (-1<=y)&&decide (y<=1) | _=>false)=true:=by rcases hk with rfl | rfl | rfl <;> decide +kernel
 have:=List.all_eq_true.mp this m h
 match m,this with
 | [x,y],h=>simp only [Bool.and_eq_true,decide_eq_true_eq] at h;exact ⟨x,y,rfl,h.1.1.1,h.1.1.2,h.1.2,h.2⟩
theorem uO {k:Int} (hk:Kd k) {m:List Int} (h:m∈nr k):Pr m:=let ⟨x,y,e,_⟩:=uN hk h;⟨x,y,e⟩
theorem js {k:Int} (hk:Kd k):(nr k).length<=8:=by rcases hk with rfl | rfl | rfl <;> decide
noncomputable def ad (p m:List Int):List Int:=match p,m with
 | [x,y],[dx,dy]=>[x+dx,y+dy]
 | _,_=>[]
noncomputable def rl (k:Int) (b s:List Int):D:=.tup [.int k,.tup (b.map .int),.tup (s.map .int)]
noncomputable def bes (k:Int) (xs:List (List Int)):List (List Int):=xs.flatMap fun p=>(nr k).map (ad p)
theorem f7 (k:Int):∀ys:List (List Int),(bes k ys).length=ys.length*(nr k).length:=fun ys=>by
 induction ys with
 | nil=>simp [bes]
 | cons y ys ih=>simp only [bes,List.flatMap_cons,List.length_append,List.length_map,List.length_cons] at ih ⊢;rw [ih,Nat.succ_mul];lia
noncomputable def ddp:List (List Int)->List (List Int)
 | []=>[]
 | x::r=>if x∈r then ddp r else x::ddp r
theorem eK {c:List Int}:∀l,c∈ddp l↔c∈l
 | []=>Iff.rfl
 | x::r=>by
  unfold ddp
  split
  ·rename_i h
   rw [eK r,List.mem_cons]
   exact ⟨.inr,fun z=>z.elim (fun e=>e▸h) id⟩
  ·rw [List.mem_cons,List.mem_cons,eK r]
theorem eM:∀l,(ddp l).Nodup
 | []=>List.nodup_nil
 | x::r=>by
  unfold ddp
  split
  ·exact eM r
  ·rename_i h
   exact List.nodup_cons.mpr ⟨fun z=>h ((eK r).mp z),eM r⟩
noncomputable def liv (k:Int) (bo st:List Int) (xs:List (List Int)) (c:List Int):Bool:=decide ((((bes k xs).count c:Nat):Int)∈if decide (c∈xs)=true then st else bo)
noncomputable def nx (k:Int) (bo st:List Int) (xs:List (List Int)):List (List Int):=srt ((ddp (bes k xs++xs)).filter (liv k bo st xs))
theorem qF {a b:List (List Int)} (h:a.Perm b):srt a=srt b:=m5 ((cB a).trans h) (iO a)
theorem zH {k:Int} {bo st:List Int} {xs ys:List (List Int)} (nd:ys.Nodup) (hm:∀c,c∈ys↔(c∈bes k xs\/c∈xs)/\liv k bo st xs c=true):srt ys=nx k bo st xs:=by
 refine qF ?_
 refine (List.perm_ext_iff_of_nodup nd ((eM _).filter _)).mpr fun c=>?_
 rw [hm,List.mem_filter,eK,List.mem_append]
theorem n6:∀{xs g:List (List Int)},xs.Nodup->(∀x∈xs,x∈g)->xs.length<=g.length
 | [],_,_,_=>Nat.zero_le _
 | x::r,g,nd,h=>by
  rw [List.nodup_cons] at nd
  have hx:=h x List.mem_cons_self
  have:=n6 (xs:=r) (g:=g.erase x) nd.2 fun y hy=>(List.mem_erase_of_ne (show y≠x from fun e=>nd.1 (by subst e;exact hy))).mpr (h y (List.mem_cons_of_mem _ hy))
  rw [List.length_erase_of_mem hx] at this
  have:0 < g.length:=List.length_pos_of_mem hx
  simp only [List.length_cons];lia
theorem jt:∀{kvs:List (List Int×D)} {p:List Int×D},(kvs.map (·.1)).Nodup->p∈kvs->dA kvs p.1=some p.2
 | [],_,_,h=>by cases h
 | q::ps,p,nd,h=>by
  rw [List.map_cons,List.nodup_cons] at nd
  unfold dA
  rcases List.mem_cons.mp h with rfl | h
  ·simp
  ·have:¬ q.1=p.1:=fun z=>nd.1 (List.mem_map.mpr ⟨p,h,z.symm⟩)
   simp only [List.find?_cons,this,decide_false]
   exact jt nd.2 h
theorem uP {c:List Int} (h:c∉kvs.map (·.1)):dA kvs c=none:=by
 unfold dA
 rw [List.find?_eq_none.mpr fun x hx=>by
  have:¬ x.1=c:=fun z=>h (List.mem_map.mpr ⟨x,hx,z⟩)
  simpa using this]
 rfl
structure Wt (l xs:List (List Int)) (kvs:List (List Int×D)):Prop where
 nd:(kvs.map (·.1)).Nodup
 keys:∀c,c∈kvs.map (·.1)↔c∈l\/c∈xs
 vals:∀p∈kvs,p.2=.int (l.count p.1)
 len:kvs.length<=l.length+xs.length
theorem Wt.get {l xs:List (List Int)} (h:Wt l xs kvs) (c:List Int):(dA kvs c).getD (.int 0)=.int (l.count c):=by
 by_cases hc:c∈kvs.map (·.1)
 ·obtain ⟨p,hp,rfl⟩:=List.mem_map.mp hc
  rw [jt h.nd hp,h.vals p hp];rfl
 ·rw [uP hc]
  have:c∉l:=fun z=>hc ((h.keys c).mpr (.inl z))
  rw [List.count_eq_zero.mpr this];rfl
theorem Wt.put {l:List (List Int)} {m:List Int} (h:Wt l [] kvs):Wt (l++[m]) [] (cj kvs m (.int ((l.count m:Nat)+1:Int))):=by
 have cm:∀c,(l++[m]).count c=l.count c+if c=m then 1 else 0:=fun c=>by
  rw [List.count_append]
  by_cases e:c=m
  ·subst e;simp
  ·rw [if_neg e];simp [List.count_cons,Ne.symm e]
 unfold cj
 by_cases hm:m∈kvs.map (·.1)
 ·rw [if_pos hm]
  have ek:(kvs.map fun x=>if x.1=m then (x.1,D.int ((l.count m:Nat)+1:Int)) else x).map (·.1)=kvs.map (·.1):=cP kvs m _
  refine ⟨by rw [ek];exact h.nd,fun c=>?_,fun p hp=>?_,?_⟩
  ·rw [ek,h.keys c,List.mem_append,List.mem_singleton]
   constructor
   ·rintro (z | z)
    ·exact .inl (.inl z)
    ·cases z
   ·rintro ((z | z) | z)
    ·exact .inl z
    ·subst z;exact (h.keys _).mp hm
    ·cases z
  ·obtain ⟨q,hq,rfl⟩:=List.mem_map.mp hp
   by_cases e:q.1=m
   ·rw [if_pos e]
    show D.int _=D.int _
    rw [cm,if_pos e,e];simp
   ·rw [if_neg e,cm,if_neg e,h.vals q hq];simp
  ·rw [List.length_map,List.length_append];have:=h.len;simp at this ⊢;lia
 ·rw [if_neg hm]
  have nl:m∉l:=fun z=>hm ((h.keys m).mpr (.inl z))
  refine ⟨?_,fun c=>?_,fun p hp=>?_,?_⟩
  ·rw [List.map_append,List.nodup_append]
   exact ⟨h.nd,by simp,fun x hx y hy z=>hm (by cases List.mem_singleton.mp hy;exact (show x=m from z)▸hx)⟩
  ·rw [List.map_append,List.mem_append,h.keys c,List.mem_append];simp
  ·rcases List.mem_append.mp hp with hp | hp
   ·have:p.1≠m:=fun z=>hm (List.mem_map.mpr ⟨p,hp,z⟩)
    rw [cm,if_neg this,h.vals p hp];simp
   ·cases List.mem_singleton.mp hp
    show D.int _=D.int _
    rw [cm,if_pos rfl];simp
  ·rw [List.length_append,List.length_append];have:=h.len;simp at this ⊢;lia
theorem Wt.sdef {l ys:List (List Int)} {c:List Int} (h:Wt l ys kvs):Wt l (ys++[c]) (sdA kvs c 0):=by
 unfold sdA
 by_cases hc:c∈kvs.map (·.1)
 ·rw [if_pos hc]
  refine ⟨h.nd,fun d=>?_,h.vals,by have:=h.len;simp;lia⟩
  rw [h.keys d,List.mem_append,List.mem_singleton]
  constructor
  ·rintro (z | z)
   ·exact .inl z
   ·exact .inr (.inl z)
  ·rintro (z | z | z)
   ·exact .inl z
   ·exact .inr z
   ·subst z;exact (h.keys _).mp hc
 ·rw [if_neg hc]
  have nl:c∉l:=fun z=>hc ((h.keys c).mpr (.inl z))
  refine ⟨?_,fun d=>?_,fun p hp=>?_,by have:=h.len;simp;lia⟩
  ·rw [List.map_append,List.nodup_append]
   exact ⟨h.nd,by simp,fun x hx y hy z=>hc (by cases List.mem_singleton.mp hy;exact (show x=c from z)▸hx)⟩
  ·rw [List.map_append,List.mem_append,h.keys d,List.mem_append,or_assoc];simp
  ·rcases List.mem_append.mp hp with hp | hp
   ·exact h.vals p hp
   ·cases List.mem_singleton.mp hp
    rw [show l.count ((c,D.int 0):List Int×D).1=0 from List.count_eq_zero.mpr nl];rfl
theorem Wt.live {k:Int} {bo st:List Int} {xs:List (List Int)} (h:Wt (bes k xs) xs kvs):srt ((kvs.filter fun p=>liv k bo st xs p.1).map (·.1))=nx k bo st xs:=by
 refine zH ?_ fun c=>?_
 ·exact List.Nodup.sublist (List.filter_sublist.map _) h.nd
 ·rw [List.mem_map]
  constructor
  ·rintro ⟨p,hp,rfl⟩
   rw [List.mem_filter] at hp
   exact ⟨(h.keys _).mp (List.mem_map.mpr ⟨p,hp.1,rfl⟩),hp.2⟩
  ·rintro ⟨hc,hl⟩
   obtain ⟨p,hp,rfl⟩:=List.mem_map.mp ((h.keys c).mpr hc)
   exact ⟨p,List.mem_filter.mpr ⟨hp,hl⟩,rfl⟩
end My
namespace My
open PySem L2 VL
noncomputable def E7:List D->(D->Prop)->Prop:=fun ds R=>∃k,ds=[.int k]/\Kd k/\R (eL (nr k))
noncomputable def uQ:List D->(D->Prop)->Prop:=fun ds R=>∃k bo st al c,ds=[rl k bo st,.bl al,.int c]/\R (.bl (decide (c∈if al=true then st else bo)))
noncomputable def uR:List D->(D->Prop)->Prop:=fun ds R=>∃k bo st,ds=[rl k bo st]/\R (.bl (decide (0∉bo)))
noncomputable def uS:List D->(D->Prop)->Prop:=fun ds R=>∃k bo st,ds=[rl k bo st]/\0∉bo/\R .non
noncomputable def pD:List D->(D->Prop)->Prop:=fun ds R=>∃k xs,ds=[.int k,eL xs]/\Kd k/\(∀p∈xs,Pr p)/\xs.length<=20000/\∀kvs,Wt (bes k xs) [] kvs->R (dc kvs)
noncomputable def mO:List D->(D->Prop)->Prop:=fun ds R=>∃k xs,ds=[.int k,eL xs]/\Kd k/\(∀p∈xs,Pr p)/\xs.length<=20000/\∀kvs,Wt (bes k xs) xs kvs->R (dc kvs)
noncomputable def E8:List D->(D->Prop)->Prop:=fun ds R=>∃k bo st xs kvs,ds=[rl k bo st,eL xs,dc kvs]/\Kd k/\(∀p∈xs,Pr p)/\xs.length<=20000/\Wt (bes k xs) xs kvs/\R (eL (nx k bo st xs))
noncomputable def pNx:List D->(D->Prop)->Prop:=fun ds R=>∃k bo st xs,ds=[rl k bo st,eL xs]/\Kd k/\0∉bo/\(∀p∈xs,Pr p)/\xs.length<=20000/\R (eL (nx k bo st xs))
theorem mP (ms:List Int):VL.flat (kT ms)=true:=bu ms
theorem mQ {neg:Bool}:nj neg d (.lst ds) q->nj neg d (.tup ds) q:=by
 rintro ⟨ds',h,r⟩
 rcases h with h | h
 ·cases h;exact ⟨_,.inr rfl,r⟩
 ·cases h
theorem Wt.flats {l xs:List (List Int)} (h:Wt l xs kvs):flats (kvs.map (·.2))=true:=by
 have:kvs.map (·.2)=(kvs.map fun p=>((l.count p.1:Nat):Int)).map D.int:=by
  rw [List.map_map]
  exact List.map_congr_left fun p hp=>h.vals p hp
 rw [this];exact bu _
theorem n9 {k:Int} (hk:Kd k) {xs:List (List Int)} (hp:∀p∈xs,Pr p):∀c∈bes k xs,Pr c:=fun c hc=>by
 obtain ⟨q,hq,hs⟩:=List.mem_flatMap.mp hc
 obtain ⟨s,hs2,rfl⟩:=List.mem_map.mp hs
 obtain ⟨x,y,rfl⟩:=hp q hq
 obtain ⟨dx,dy,rfl⟩:=uO hk hs2
 exact ⟨x+dx,y+dy,rfl⟩
section
variable {P:Program} {w:World} {K:PySem.W.Frag} {mg:Str->Option Value} {base:Heap}
theorem Cu {a_OFFSETS:Addr} (S:Src K mg "offsets" jk) (T:Txt mg) (hD:mg "OFFSETS"=some (.ref a_OFFSETS)) (kD:okD K a_OFFSETS rows=true):Has P w K mg base 1 "offsets" ["kind"] (spP K E7):=by
 refine bM S qD (by walk_at "1") (fun ds R zq1=>by obtain ⟨_,e,_⟩:=zq1;rw [e];rfl) fun f cdv A outer s H E hr=>⟨_,_,(ai (aw (aB (oB rfl (by rfl) T.list_ (aa (Bo (rows:=rows) rfl kD (vB (v:=.ref a_OFFSETS) (by rfl) hD rfl) (ab 0 (pv 0)) (fun _ _=>rfl)) af))))),?_⟩
 rintro ds R ⟨k,rfl,hk,q⟩
 walk_at "sl"
 walk_at "rd"
 refine Bp rfl (uM hk) ?_
 walk_at "rd"
 exact sP rfl (d0 _) (by walk_at "rd";exact q)
theorem uT (S:Src K mg "comes" nV) (T:Txt mg):Has P w K mg base 1 "comes" ["rule","alive","count"] (spP K uQ):=by
 refine bM S iz (by walk_at "3") (fun ds R zq1=>by obtain ⟨_,_,_,_,_,e,_⟩:=zq1;rw [e];rfl) fun f cdv A outer s H E hr=>⟨_,_,(ah (kI (ab 0 (pv 0)) (b7 (n:=3) rfl rfl (aI (aC (aA (i:=3) iz.nd rfl (Or.inl rfl) (Or.inl rfl))) (aI (aC (aA (i:=4) iz.nd rfl (Or.inl rfl) (Or.inl rfl))) (aI (aC (aA (i:=5) iz.nd rfl (Or.inl rfl) (Or.inl rfl))) bJ)))))
  (ai (aw (cN (sf (K:=K) rfl hr.units) oD (ab 2 (pv 2)) (rM (kF (ab 1 (pv 1))) (ab 5 (pv 5)) (ab 4 (pv 4))) (by with_unfolding_all rfl))))),?_⟩
 rintro ds R ⟨k,bo,st,al,c,rfl,q⟩
 walk_at "sl"
 unfold rl
 walk_at "rd"
 cases al with
 | true=>
  walk_at "rc"
  refine nE (f:=D.int) dP ?_
  walk_at "rd"
  exact q
 | false=>
  walk_at "rc"
  refine nE (f:=D.int) dP ?_
  walk_at "rd"
  exact q
theorem uU (S:Src K mg "is_quiet" jm) (T:Txt mg):Has P w K mg base 1 "is_quiet" ["rule"] (spP K uR):=by
 refine bM S qE (by walk_at "1") (fun ds R zq1=>by obtain ⟨_,_,_,e,_⟩:=zq1;rw [e];rfl) fun f cdv A outer s H E hr=>⟨_,_,(ai (aw (cN (jV (K:=K) rfl hr.units) oD ae (aq rfl (ab 0 (pv 0)) ae (fun _ _=>rfl)) (by with_unfolding_all rfl)))),?_⟩
 rintro ds R ⟨k,bo,sy,rfl,q⟩
 unfold rl
 walk_at "sl"
 walk_at "rc"
 by_cases h:0∈bo
 ·refine mQ (y6 (f:=D.int) (l:=bo) dP h ?_)
  walk_at "rc"
  rw [decide_eq_false (by simpa using h)] at q
  exact q
 ·refine mQ (y4 (f:=D.int) (l:=bo) dP h ?_)
  walk_at "rc"
  rw [decide_eq_true h] at q
  exact q
theorem yq (S:Src K mg "refuse_loud" ef) (T:Txt mg) (e16_:Has P w K mg base 1 "is_quiet" ["rule"] (spP K uR)):Has P w K mg base 2 "refuse_loud" ["rule"] (spP K uS):=by
 refine bM S lu (by walk_at "1") (fun ds R zq1=>by obtain ⟨_,_,_,e,_⟩:=zq1;rw [e];rfl) fun f cdv A outer s H E hr=>⟨_,_,(ai (aQ (nh (kF (bz e16_ hr (aa (ab 0 (pv 0)) af)))) (ai rP) aE)),?_⟩
 rintro ds R ⟨k,bo,st,rfl,h0,q⟩
 walk_at "sl"
 walk_at "rd"
 refine ⟨k,bo,st,rfl,?_⟩
 rw [decide_eq_true h0]
 walk_at "rc"
 exact q
theorem qG (S:Src K mg "counts" lw) (T:Txt mg) (e14_:Has P w K mg base 1 "offsets" ["kind"] (spP K E7)):Has P w K mg base 2 "counts" ["kind","picture"] (spP K pD):=by
 refine bM S cF (by walk_at "2") (fun ds R zq1=>by obtain ⟨_,_,e,_⟩:=zq1;rw [e];rfl) fun f cdv A outer s H E hr=>⟨_,_,(ah (aG (i:=2) cF.nd rfl (Or.inl rfl) (bz e14_ hr (aa (ab 0 (pv 0)) af)))
  (ah (fL (fun _ h=>bX (i:=3) cF.nd rfl (Or.inl rfl) h) nB)
  (ah (b8 PassesOwn.never rfl (bE rfl (ab 1 (pv 1))) (b7 (n:=2) rfl rfl (aI (aC (aA (i:=4) cF.nd rfl (Or.inl rfl) (Or.inl rfl))) (aI (aC (aA (i:=5) cF.nd rfl (Or.inl rfl) (Or.inl rfl))) bJ))) (ai (b8 PassesOwn.never rfl (bE rfl (ab 2 (pv 2))) (b7 (n:=2) rfl rfl (aI (aC (aA (i:=6) cF.nd rfl (Or.inl rfl) (Or.inl rfl))) (aI (aC (aA (i:=7) cF.nd rfl (Or.inl rfl) (Or.inl rfl))) bJ))) (ah (aG (i:=8) cF.nd rfl (Or.inl rfl) (ao (aa (ak aJ az (ab 4 (pv 4)) (ab 6 (pv 6))) (aa (ak aJ az (ab 5 (pv 5)) (ab 7 (pv 7))) af))))
  (ai (ik 3 rfl hr.units (pv 3) (ak aJ az (kX rfl hr.units (ab 3 (pv 3)) (ab 8 (pv 8))) ae) (ab 8 (pv 8))))))))
  (ai (aw (aF (ab 3 (pv 3)))))))),?_⟩
 rintro ds R ⟨k,xs,rfl,hk,hp,hl,q⟩
 walk_at "sl"
 walk_at "rd"
 refine ⟨k,rfl,hk,?_⟩
 walk_at "rd"
 have nl:=js hk
 have bl:=f7 k
 refine e8 (fun i S=>∃kvs s4 s5 s6 s7 s8,Wt (bes k (xs.take i)) [] kvs/\S=[.val (.int k),.val (eL xs),.val (eL (nr k)),od kvs,s4,s5,s6,s7,s8]) ⟨[],_,_,_,_,_,⟨by simp,by simp [bes],by simp,by simp⟩,rfl⟩ ?_ ?_
 ·rintro i d S2 e ⟨kvs,s4,s5,s6,s7,s8,tc,rfl⟩
  obtain ⟨p,h1,rfl,hm,ht⟩:=bp e
  have hi:i < xs.length:=(List.getElem?_eq_some_iff.mp h1).1
  obtain ⟨px,py,rfl⟩:=hp p hm
  show vgT 2 _ (.tup [.int px,.int py]) _ _
  walk_at "rd"
  refine e8 (fun j S=>∃kvs s6 s7 s8,Wt (bes k (xs.take i)++((nr k).take j).map (ad [px,py])) [] kvs/\S=[.val (.int k),.val (eL xs),.val (eL (nr k)),od kvs,.val (.int px),.val (.int py),s6,s7,s8]) ⟨kvs,_,_,_,by simpa using tc,rfl⟩ ?_ ?_
  ·rintro j d S3 e' ⟨kvs,s6,s7,s8,tc,rfl⟩
   obtain ⟨m,h2,rfl,hm',ht'⟩:=bp e'
   obtain ⟨dx,dy,rfl⟩:=uO hk hm'
   show vgT 2 _ (.tup [.int dx,.int dy]) _ _
   walk_at "rd"
   refine nF (kvs:=kvs) (ms:=[px+dx,py+dy]) rfl rfl (tc.get _) ?_
   walk_at "rd"
   have t2:=tc.len
   have b1:=bl (xs.take i)
   have l1:(xs.take i).length<=20000:=by rw [List.length_take];lia
   have l2:(xs.take i).length*(nr k).length<=20000*8:=Nat.mul_le_mul l1 nl
   rw [List.length_append,List.length_map,List.length_take,List.length_nil] at t2
   refine fM (kvs:=kvs) (ms:=[px+dx,py+dy]) rfl rfl (by lia) ?_
   refine ⟨_,_,_,_,?_,rfl⟩
   have:=tc.put (m:=ad [px,py] [dx,dy])
   rw [ht',List.map_append,<- List.append_assoc]
   exact this
  ·rintro S3 ⟨kvs,s6,s7,s8,tc,rfl⟩
   refine ⟨kvs,_,_,_,_,_,?_,rfl⟩
   rw [ht]
   simpa [bes] using tc
 ·rintro S2 ⟨kvs,s4,s5,s6,s7,s8,tc,rfl⟩
  rw [List.length_map,List.take_length] at tc
  walk_at "rd"
  exact q kvs tc
theorem oe (S:Src K mg "watched" jn) (T:Txt mg) (e21_:Has P w K mg base 2 "counts" ["kind","picture"] (spP K pD)):Has P w K mg base 3 "watched" ["kind","picture"] (spP K mO):=by
 refine bM S gL (by walk_at "2") (fun ds R zq1=>by obtain ⟨_,_,e,_⟩:=zq1;rw [e];rfl) fun f cdv A outer s H E hr=>⟨_,_,(ah (fL (fun _ h=>bX (i:=2) gL.nd rfl (Or.inl rfl) h) (EF e21_ hr (aa (ab 0 (pv 0)) (aa (ab 1 (pv 1)) af))))
  (ah (b8 PassesOwn.never rfl (bE rfl (ab 1 (pv 1))) (aC (aA (i:=3) gL.nd rfl (Or.inl rfl) (Or.inl rfl))) (ai (dI (xt 2 rfl hr.units (pv 2) (ab 3 (pv 3))))))
  (ai (aw (aF (ab 2 (pv 2))))))),?_⟩
 rintro ds R ⟨k,xs,rfl,hk,hp,hl,q⟩
 walk_at "sl"
 walk_at "rd"
 refine ⟨k,xs,rfl,hk,hp,hl,fun kvs tc=>⟨kvs,rfl,tc.flats,?_⟩⟩
 walk_at "rd"
 have nl:=js hk
 have b1:=f7 k xs
 have l2:xs.length*(nr k).length<=20000*8:=Nat.mul_le_mul hl nl
 refine e8 (fun i S=>∃kvs s3,Wt (bes k xs) (xs.take i) kvs/\S=[.val (.int k),.val (eL xs),od kvs,s3]) ⟨kvs,_,by simpa using tc,rfl⟩ ?_ ?_
 ·rintro i d S2 e ⟨kvs,s3,tc,rfl⟩
  obtain ⟨p,h1,rfl,hm,ht⟩:=bp e
  have hi:i < xs.length:=(List.getElem?_eq_some_iff.mp h1).1
  walk_at "rd"
  have t2:=tc.len
  rw [List.length_take] at t2
  refine xu (kvs:=kvs) (ms:=p) rfl rfl (by lia) (tc.get _) ?_
  walk_at "rd"
  exact ⟨_,_,by rw [ht];exact tc.sdef,rfl⟩
 ·rintro S2 ⟨kvs,s3,tc,rfl⟩
  rw [List.length_map,List.take_length] at tc
  walk_at "rd"
  exact q kvs tc
theorem E9 (S:Src K mg "living_next" cG) (T:Txt mg) (e26_:Has P w K mg base 1 "comes" ["rule","alive","count"] (spP K uQ)):Has P w K mg base 2 "living_next" ["rule","picture","tally"] (spP K E8):=by
 refine bM S fT (by walk_at "3") (fun ds R zq1=>by obtain ⟨_,_,_,_,_,e,_⟩:=zq1;rw [e];rfl) fun f cdv A outer s H E hr=>⟨_,_,(ah (fL (fun _ h=>bX (i:=3) fT.nd rfl (Or.inr rfl) h) (xh (tg:=["cell"]) (cs:=[]) (ix:=[]) rfl hr.units (aV (aj cG) ["rule","picture","tally","living"] (by decide +kernel)) rfl (bD (by decide)) (by decide) (bE rfl (ab 1 (pv 1))) (fun _ _ _ _=>(aC (aA (i:=0) (show (["cell"]:List Str).Nodup by decide +kernel) rfl (Or.inl rfl) (by first | exact Or.inl rfl | exact Or.inr rfl)))) (fun _ _ _ _=>cW) (fun _ _ _ _=>(ab 0 (pv 0))) (fun _ _ _ _=>eU)))
  (ai (aw (aB (fQ rfl rfl (by rfl) T.sorted_ eH (aa (aB (cz (tg:=["cell","count"]) (cs:=["rule","living"]) (ix:=[0,3]) (aV (aj cG) ["rule","picture","tally","living"] (by decide +kernel)) rfl (cM (by decide) (by decide)) (by decide) (tY (ab 2 (pv 2))) (fun _ _ _ _=>(b7 (n:=2) rfl rfl (aI (aC (aA (i:=0) (show (["cell","count","rule","living"]:List Str).Nodup by decide +kernel) rfl (Or.inl rfl) (by first | exact Or.inl rfl | exact Or.inr rfl))) (aI (aC (aA (i:=1) (show (["cell","count","rule","living"]:List Str).Nodup by decide +kernel) rfl (Or.inl rfl) (by first | exact Or.inl rfl | exact Or.inr rfl))) bJ)))) (fun _ _ _ _=>(dJ (kF (bz e26_ hr (aa (ab 2 (pv 2)) (aa (cN (zc (K:=K) rfl hr.units) zb (ab 0 (pv 0)) (ab 3 (pv 3)) (by with_unfolding_all rfl)) (aa (ab 1 (pv 1)) af))))))) (fun _ _ _ _=>(aF (ab 0 (pv 0)))))) af)))))),?_⟩
 rintro ds R ⟨k,bo,st,xs,kvs,rfl,hk,hp,hl,tc,q⟩
 walk_at "sl"
 walk_at "rd"
 have nl:=js hk
 have b1:=f7 k xs
 have l2:xs.length*(nr k).length<=20000*8:=Nat.mul_le_mul hl nl
 have t2:=tc.len
 refine qq (xs:=xs) (en:=eT) (ky:=fun p=>p) (f:=fun _=>.bl true) (by lia) (fun p hp A B hA=>?_) ?_
 ·dsimp only [bA,List.replicate,List.map_cons,List.map_nil,List.cons_append,List.nil_append]
  walk_at "rc"
  exact hA _ rfl
 ·walk_at "rd"
  refine cE (xs:=kvs) (en:=fun x=>.tup [kT x.1,x.2]) (f:=fun x=>eT x.1) (p:=fun x=>liv k bo st xs x.1) (by lia) (fun c hc A B hA hB=>?_) ?_
  ·dsimp only [bA,List.replicate,List.map_cons,List.map_nil,List.cons_append,List.nil_append]
   rw [tc.vals c hc]
   have hal:decide (c.1∈(xs.foldl (fun kvs x=>cj kvs x (D.bl true)) []).map (·.1))=decide (c.1∈xs):=by
    congr 1
    exact propext ((gF (ky:=fun p=>p) (f:=fun _=>D.bl true) xs []).trans (by simp))
   walk_at "rd"
   refine tj (ms:=c.1) rfl rfl ?_
   walk_at "rd"
   refine ⟨k,bo,st,_,_,rfl,?_⟩
   rw [if_neg Bool.false_ne_true,hal]
   change sG _ (.d (.bl (liv k bo st xs c.1))) _
   cases hv:liv k bo st xs c.1 with
   | true=>walk_at "rc";refine cZ (mP _) ?_;walk_at "rc";exact hA _ rfl hv
   | false=>walk_at "rc";exact hB _ rfl hv
  ·walk_at "rd"
   rw [show ((kvs.filter fun x=>liv k bo st xs x.1).map fun x=>eT x.1)=((kvs.filter fun x=>liv k bo st xs x.1).map (·.1)).map eT by rw [List.map_map];rfl]
   walk_at "rd"
   refine fR (mss:=(kvs.filter fun x=>liv k bo st xs x.1).map (·.1)) rfl (fun ms hms=>?_) ?_
   ·obtain ⟨x,hx,rfl⟩:=List.mem_map.mp hms
    have hk2:=(tc.keys x.1).mp (List.mem_map.mpr ⟨x,(List.mem_filter.mp hx).1,rfl⟩)
    obtain ⟨a,b,e⟩:=hk2.elim (n9 hk hp x.1) (hp x.1)
    rw [e];exact List.cons_ne_nil _ _
   ·rw [tc.live]
    walk_at "rd"
    exact q
theorem Fb (S:Src K mg "next_turn" gM) (T:Txt mg) (e3_:Has P w K mg base 2 "refuse_loud" ["rule"] (spP K uS)) (e11_:Has P w K mg base 2 "living_next" ["rule","picture","tally"] (spP K E8)) (e10_:Has P w K mg base 3 "watched" ["kind","picture"] (spP K mO)):Has P w K mg base 4 "next_turn" ["rule","picture"] (spP K pNx):=by
 refine bM S nW (by walk_at "2") (fun ds R zq1=>by obtain ⟨_,_,_,_,e,_⟩:=zq1;rw [e];rfl) fun f cdv A outer s H E hr=>⟨_,_,(ah (dI (bz e3_ hr (aa (ab 0 (pv 0)) af)))
  (ai (aw (bz e11_ hr (aa (ab 0 (pv 0)) (aa (ab 1 (pv 1)) (aa (bz e10_ hr (aa (aq rfl (ab 0 (pv 0)) ae (fun _ _=>rfl)) (aa (ab 1 (pv 1)) af))) af))))))),?_⟩
 rintro ds R ⟨k,bo,st,xs,rfl,hk,h0,hp,hl,q⟩
 walk_at "sl"
 walk_at "rd"
 refine ⟨k,bo,st,rfl,h0,?_⟩
 unfold rl
 walk_at "rd"
 refine ⟨k,xs,rfl,hk,hp,hl,fun kvs tc=>?_⟩
 walk_at "rd"
 refine ⟨k,bo,st,xs,kvs,rfl,hk,hp,hl,tc,?_⟩
 walk_at "rd"
 exact q
end
end My
namespace My
open PySem L2 VL
noncomputable def fr (p:Nat->Bool) (w:Nat):List Nat:=(List.range w).filter p
theorem yr (p:Nat->Bool) (w:Nat):fr p (w+1)=fr p w++if p w=true then [w] else []:=by
 unfold fr
 rw [List.range_succ,List.filter_append]
 congr 1
 by_cases h:p w=true <;> simp [h]
theorem pE (l:List Nat) (lo:Int):(l.map fun (i:Nat)=>D.int (lo+(i:Int)))=(l.map fun (i:Nat)=>lo+(i:Int)).map D.int:=by rw [List.map_map];rfl
theorem gP (l:List Nat) (lo:Int):flats (l.map fun (i:Nat)=>D.int (lo+(i:Int)))=true:=by
 rw [show (l.map fun (i:Nat)=>D.int (lo+(i:Int)))=(l.map fun (i:Nat)=>lo+(i:Int)).map D.int by rw [List.map_map];rfl]
 exact bu _
theorem uV (p:Nat->Bool) (b:Bool) (w:Nat):fr (fun x=>if x=w then b else p x) (w+1)=fr p w++if b=true then [w] else []:=by
 rw [yr]
 congr 1
 ·unfold fr
  refine List.filter_congr fun x hx=>?_
  have:=List.mem_range.mp hx
  rw [if_neg (by lia)]
 ·rw [if_pos rfl]
theorem gZ {T:List Sl}:∀(r:List Sl) (k:Nat),bV 1 [0] T (k+1) r=r
 | [],_=>rfl
 | s::r,k=>by
  have:([0]:List Nat).idxOf? (k+1)=none:=by simp [List.idxOf?,List.findIdx?_cons]
  unfold bV
  rw [this,gZ r (k+1)]
theorem km {ad:Option Addr} {pn pn2:List Int} {rest:List Sl} {x:Sl}:backS 1 [0] (.pen ad pn::rest) [x,.pen ad pn2]=.pen ad pn2::rest:=by
 show bV 1 [0] _ 0 _=_
 unfold bV
 rw [gZ]
 rfl
theorem pF {g:Int->D} {ve:VT} {ad:Option Addr} {pn:List Int} {rest:List Sl} {QN:List D->List Sl->Prop} {vt:VTT} {lo:Int} {n b:Nat} (hb:b+n<=1000000) (hp:Pn b pn)
  (hve:∀(x:Int) (pn':List Int) (Q:VR->List Sl->Prop),Q (.d (g x)) [.val (.int x),.pen ad pn']->ve [.val (.int x),.pen ad pn'] Q)
  (hvt:∀(b':Nat) (pn':List Int) (x:Int) (A:Bool->List Sl->Prop),Pn b' pn'->b'<=1000000->(∀v pn2,Pn (b'+1) pn2->A v [.val (.int x),.pen ad pn2])->vt [.val (.int x),.pen ad pn'] A)
  (q:∀(p:Nat->Bool) pn',Pn (b+n) pn'->QN ((fr p n).map fun (i:Nat)=>g (lo+(i:Int))) (.pen ad pn'::rest)):i3 1 [0] (vgN 0) vt ve QN (rg lo n) (.pen ad pn::rest):=by
 refine sS (fun i ys S2=>∃(p:Nat->Bool) (pn':List Int),Pn (b+i) pn'/\ys=((fr p i).map fun (i:Nat)=>g (lo+(i:Int)))/\S2=.pen ad pn'::rest) (by lia) ⟨fun _=>false,pn,hp,rfl,rfl⟩ ?_ ?_
 ·rintro i ys S2 hi ⟨p,pn',h1,rfl,rfl⟩
  refine ⟨(by show 0 < _;simp [bA]),?_⟩
  show vt [.val (.int (lo+(i:Int))),.pen ad pn'] _
  refine hvt (b+i) pn' _ _ h1 (by lia) fun v pn2 h2=>?_
  cases v with
  | true=>
   refine fH (fun _=>?_) (fun e=>nomatch e)
   refine hve _ _ _ ?_
   refine lZ ?_
   rw [km]
   exact ⟨fun x=>if x=i then true else p x,pn2,h2,by rw [uV,List.map_append];rfl,rfl⟩
  | false=>
   refine fH (fun e=>nomatch e) (fun _=>?_)
   rw [km]
   exact ⟨fun x=>if x=i then false else p x,pn2,h2,by rw [uV,List.map_append];simp,rfl⟩
 ·rintro ys S2 ⟨p,pn',h1,rfl,rfl⟩
  exact q p pn' h1
theorem pG {ad:Option Addr} {pn:List Int} {rest:List Sl} {QN:List D->List Sl->Prop} {vt:VTT} {lo:Int} {n b:Nat} (hb:b+n<=1000000) (hp:Pn b pn)
  (hvt:∀(b':Nat) (pn':List Int) (x:Int) (A:Bool->List Sl->Prop),Pn b' pn'->b'<=1000000->(∀v pn2,Pn (b'+1) pn2->A v [.val (.int x),.pen ad pn2])->vt [.val (.int x),.pen ad pn'] A)
  (q:∀(p:Nat->Bool) pn',Pn (b+n) pn'->QN ((fr p n).map fun (i:Nat)=>D.int (lo+(i:Int))) (.pen ad pn'::rest)):i3 1 [0] (vgN 0) vt (rK (rJ 0)) QN (rg lo n) (.pen ad pn::rest):=
 pF (g:=D.int) hb hp (fun x pn' Q h=>⟨.d (.int x),rfl,rfl,h⟩) hvt q
theorem Fc {r:Int} (h0:0<=r) (h1:r < 3):∃k,Kd k/\atI [D.int 4,.int 6,.int 8] r=some (.int k):=by
 have:r=0\/r=1\/r=2:=by lia
 rcases this with rfl | rfl | rfl
 ·exact ⟨4,.inl rfl,rfl⟩
 ·exact ⟨6,.inr (.inl rfl),rfl⟩
 ·exact ⟨8,.inr (.inr rfl),rfl⟩
noncomputable def pH:List Int->List D->(D->List Int->Prop)->Prop:=fun pn ds R=>∃b:Nat,ds=[]/\Pn b pn/\b<=1000/\∀(x:Int) pn',Pn (b+4) pn'->R (.int x) pn'
theorem Cv {p:Nat->Bool} {n:Nat} {lo:Int} (hlo:1<=lo):(0:Int)∉(fr p n).map fun (i:Nat)=>lo+(i:Int):=fun z=>by
 obtain ⟨i,_,e⟩:=List.mem_map.mp z
 lia
theorem Wt.perm {l l' ys:List (List Int)} (h:Wt l ys kvs) (p:l.Perm l'):Wt l' ys kvs:=
 ⟨h.nd,fun c=>by rw [h.keys c,p.mem_iff],fun q hq=>by rw [h.vals q hq,p.count_eq],by rw [<- p.length_eq];exact h.len⟩
noncomputable def fol (l:List (List Int)):List (List Int×D):=l.foldl (fun kvs x=>cj kvs x (D.bl true)) []
theorem uW (l:List (List Int)) (c:List Int):fol (l++[c])=cj (fol l) c (.bl true):=by unfold fol;rw [List.foldl_append];rfl
theorem mR {l:List (List Int)} {c:List Int}:c∈(fol l).map (·.1)↔c∈l:=(gF (ky:=fun p=>p) (f:=fun _=>D.bl true) l []).trans (by simp)
theorem qH {m:List Int} (h:(kvs.map (·.1)).Nodup):((cj kvs m d).map (·.1)).Nodup:=by
 unfold cj
 by_cases hm:m∈kvs.map (·.1)
 ·rw [if_pos hm,cP];exact h
 ·rw [if_neg hm,List.map_append,List.nodup_append]
  exact ⟨h,by simp,fun x hx y hy z=>hm (by cases List.mem_singleton.mp hy;exact (show x=m from z)▸hx)⟩
theorem qI:∀l:List (List Int),((fol l).map (·.1)).Nodup:=fun l=>by
 have:∀(l:List (List Int)) (kvs:List (List Int×D)),(kvs.map (·.1)).Nodup->((l.foldl (fun kvs x=>cj kvs x (D.bl true)) kvs).map (·.1)).Nodup:=fun l=>by
  induction l with
  | nil=>exact fun _ h=>h
  | cons x l ih=>exact fun kvs h=>ih _ (qH h)
 exact this l [] List.nodup_nil
theorem yt:∀l:List (List Int),(fol l).length<=l.length:=fun l=>by
 have:=n6 (qI l) (g:=l) fun x hx=>mR.mp hx
 rwa [List.length_map] at this
theorem Wt.upd {l ys l' ys':List (List Int)} {m:List Int} (h:Wt l ys kvs) (hk:∀c,(c∈l'\/c∈ys')↔((c∈l\/c∈ys)\/c=m)) (hc:∀c,c≠m->l'.count c=l.count c) (hd:d=.int (l'.count m)) (hl:l.length+ys.length+1<=l'.length+ys'.length):Wt l' ys' (cj kvs m d):=by
 have hlen:=h.len
 unfold cj
 by_cases hm:m∈kvs.map (·.1)
 ·rw [if_pos hm]
  have ek:(kvs.map fun x=>if x.1=m then (x.1,d) else x).map (·.1)=kvs.map (·.1):=cP kvs m _
  refine ⟨by rw [ek];exact h.nd,fun c=>?_,fun p hp=>?_,by rw [List.length_map];lia⟩
  ·rw [ek,h.keys c,hk]
   constructor
   ·exact .inl
   ·rintro (z | z)
    ·exact z
    ·subst z;exact (h.keys _).mp hm
  ·obtain ⟨q,hq,rfl⟩:=List.mem_map.mp hp
   by_cases e:q.1=m
   ·rw [if_pos e]
    show d=_
    rw [hd,e]
   ·rw [if_neg e,hc _ e]
    exact h.vals q hq
 ·rw [if_neg hm]
  refine ⟨?_,fun c=>?_,fun p hp=>?_,by rw [List.length_append,List.length_singleton];lia⟩
  ·rw [List.map_append,List.nodup_append]
   exact ⟨h.nd,by simp,fun x hx y hy z=>hm (by cases List.mem_singleton.mp hy;exact (show x=m from z)▸hx)⟩
  ·rw [List.map_append,List.mem_append,h.keys c,hk];simp
  ·rcases List.mem_append.mp hp with hp | hp
   ·have:p.1≠m:=fun z=>hm (List.mem_map.mpr ⟨p,hp,z⟩)
    rw [hc _ this]
    exact h.vals p hp
   ·cases List.mem_singleton.mp hp
    exact hd
theorem uX {k:Int} {bo st:List Int} (hk:Kd k) (xs:List (List Int)):(nx k bo st xs).length<=9*xs.length:=by
 have h1:=(cB ((ddp (bes k xs++xs)).filter (liv k bo st xs))).length_eq
 have h2:=List.length_filter_le (liv k bo st xs) (ddp (bes k xs++xs))
 have h3:=n6 (eM (bes k xs++xs)) (g:=bes k xs++xs) fun x hx=>(eK _).mp hx
 rw [List.length_append,f7] at h3
 have h4:xs.length*(nr k).length<=xs.length*8:=Nat.mul_le_mul_left _ (js hk)
 unfold nx
 lia
theorem pI {l:List (List Int)} (h:l.all (fun p=>p.length==2)=true):∀m∈l,Pr m:=fun m hm=>by
 have:=List.all_eq_true.mp h m hm
 match m,this with
 | [x,y],_=>exact ⟨x,y,rfl⟩
theorem uY {k:Int} {bo st:List Int} (hk:Kd k) {xs:List (List Int)} (h:∀p∈xs,Pr p):∀p∈nx k bo st xs,Pr p:=fun p hp=>by
 have h1:=(cB _).mem_iff.mp hp
 have h2:=(eK _).mp (List.mem_filter.mp h1).1
 rcases List.mem_append.mp h2 with h3 | h3
 ·exact n9 hk h p h3
 ·exact h p h3
noncomputable def sp (k:Int):List (List Int):=if k=4 then [[0,-1],[-1,0],[1,0],[0,1]] else if k=6 then [[0,-1],[-1,0],[1,0],[0,1],[-1,-1],[1,1]] else [[0,-1],[-1,0],[1,0],[0,1],[-1,-1],[1,1],[-1,1],[1,-1]]
theorem pJ {k:Int} (hk:Kd k):(sp k).Perm (nr k):=by rcases hk with rfl | rfl | rfl <;> decide +kernel
noncomputable def zI:List Int->List D->(D->List Int->Prop)->Prop:=fun pn ds R=>∃b:Nat,ds=[]/\Pn b pn/\b<=2000/\∀(k:Int) (bo sy:List Int) pn',Kd k->0∉bo->bo.length<=20->Pn (b+40) pn'->R (rl k bo sy) pn'
noncomputable def uZ:List Int->List D->(D->List Int->Prop)->Prop:=fun pn ds R=>∃b:Nat,ds=[]/\Pn b pn/\b<=500/\∀mss pn',(∀p∈mss,Pr p)->mss.length<=11->Pn (b+60) pn'->R (eL mss) pn'
noncomputable def Fd:List Int->List D->(D->List Int->Prop)->Prop:=fun pn ds R=>∃b:Nat,ds=[]/\Pn b pn/\b<=500/\∀mss pn',(∀p∈mss,Pr p)->mss.length<=11->Pn (b+80) pn'->R (eL mss) pn'
noncomputable def u5:List D->(D->Prop)->Prop:=fun ds R=>∃k,ds=[.int k]/\Kd k/\R (eL (sp k))
noncomputable def ju:List D->(D->Prop)->Prop:=fun ds R=>∃k bo st xs,ds=[rl k bo st,eL xs]/\Kd k/\(∀p∈xs,Pr p)/\xs.length<=15625/\R (eL (nx k bo st xs))
end My
namespace My
open PySem L2 VL
noncomputable def c9 (i:Nat):List Int:=[(0+(i:Int)) / 3,(0+(i:Int))%3]
noncomputable def sel (k:Int) (A B C:D):D:=if k=4 then A else if k=6 then B else C
theorem zJ {k:Int} {A B C:D} {Q:VR->List Sl->Prop} (hk:Kd k) (h:Q (.d (sel k A B C)) S):k3i 4 6 8 (.d A) (.d B) (.d C) Q (.d (.int k)) S:=by
 rcases hk with rfl | rfl | rfl
 ·exact BP h
 ·exact BQ h
 ·exact BR h
theorem three {a b c:D} {F G:List Int->Prop} (ha:∃l:List Int,a=.tup (l.map .int)/\F l/\G l) (hb:∃l:List Int,b=.tup (l.map .int)/\F l/\G l) (hc:∃l:List Int,c=.tup (l.map .int)/\F l/\G l) :
  ∃lb:List D,D.lst [a,b,c]=.lst lb/\∀r:Int,0<=r->r < 3->∃l:List Int,atI lb r=some (.tup (l.map .int))/\F l/\G l:=by
 refine ⟨_,rfl,fun r h0 h3=>?_⟩
 rcases (by lia:r=0\/r=1\/r=2) with rfl | rfl | rfl
 ·obtain ⟨l,rfl,h⟩:=ha;exact ⟨l,rfl,h⟩
 ·obtain ⟨l,rfl,h⟩:=hb;exact ⟨l,rfl,h⟩
 ·obtain ⟨l,rfl,h⟩:=hc;exact ⟨l,rfl,h⟩
section
variable {P:Program} {w:World} {K:PySem.W.Frag} {mg:Str->Option Value} {base:Heap}
theorem qJ (S:Src K mg "_law_number" jo) (T:Txt mg) (e0_:Has P w K mg base 1 "_law_draw" ["_law_pen_here","_law_many"] (spI K 0 fZ)):Has P w K mg base 2 "_law_number" ["_law_pen_here"] (spI K 0 pH):=by
 refine jT 0 S kj (by walk_at "1") (fun ns ds R zq1=>by obtain ⟨_,e,_⟩:=zq1;rw [e];rfl) fun f cdv A outer s H E hr=>⟨_,_,(ah (aG (i:=1) kj.nd rfl (Or.inl rfl) (aM e0_ hr (aa (ab 0 (pv 0)) (aa ae af))))
  (ah (aQ (aD iE az (ab 1 (pv 1)) ae (ay _)) (ai (aw (ak aX az (aM e0_ hr (aa (ab 0 (pv 0)) (aa ae af))) ae))) aE)
  (ah (aQ (aD bg bT (ab 1 (pv 1)) ae (ay _)) (ai (aw (ak aX az (aM e0_ hr (aa (ab 0 (pv 0)) (aa (ak gm cu ae ae) af))) (ak dF cu ae (ak gm cu ae ae))))) aE)
  (ai (aw (ak dF cu (ak aX az (ak aX az (ak gm cu ae ae) ae) (aM e0_ hr (aa (ab 0 (pv 0)) (aa ae af)))) (ak aX az ae (ak dF cu ae (aM e0_ hr (aa (ab 0 (pv 0)) (aa ae af))))))))))),?_⟩
 rintro a pn ds es R hl ⟨b,e,hpn,hb,q⟩
 obtain rfl:ds=[]:=List.eq_nil_of_length_eq_zero hl
 obtain rfl:es=[]:=e
 walk_at "sl"
 walk_at "rd"
 refine ⟨b,12,rfl,hpn,by lia,by decide,by decide,fun pn1 r1 h1 r1a r1b=>?_⟩
 walk_at "rd"
 refine bf (fun c1=>?_) (fun c1=>?_)
 ·walk_at "rd"
  refine ⟨b+1,9,rfl,h1,by lia,by decide,by decide,fun pn2 r2 h2 r2a r2b=>?_⟩
  walk_at "rd"
  exact ⟨_,rfl,q _ _ (h2.le (by lia))⟩
 ·walk_at "rd"
  refine bf (fun c2=>?_) (fun c2=>?_)
  ·walk_at "rd"
   refine ⟨b+1,1000000000,rfl,h1,by lia,by decide,by decide,fun pn2 r2 h2 r2a r2b=>?_⟩
   walk_at "rd"
   exact ⟨_,rfl,q _ _ (h2.le (by lia))⟩
  ·walk_at "rd"
   refine ⟨b+1,3,rfl,h1,by lia,by decide,by decide,fun pn2 r2 h2 r2a r2b=>?_⟩
   walk_at "rd"
   refine ⟨b+2,2,rfl,h2,by lia,by decide,by decide,fun pn3 r3 h3 r3a r3b=>?_⟩
   walk_at "rd"
   exact ⟨_,rfl,q _ _ (h3.le (by lia))⟩
theorem yu (S:Src K mg "_law_rule" jq) (T:Txt mg) (e0_:Has P w K mg base 1 "_law_draw" ["_law_pen_here","_law_many"] (spI K 0 fZ)):Has P w K mg base 2 "_law_rule" ["_law_pen_here"] (spI K 0 zI):=by
 refine jT 0 S fV (by walk_at "1") (fun ns ds R zq1=>by obtain ⟨_,e,_⟩:=zq1;rw [e];rfl) fun f cdv A outer s H E hr=>⟨_,_,(ah (aG (i:=1) fV.nd rfl (Or.inl rfl) (aq rfl (aB (aP (aa ae (aa ae (aa ae af))))) (aM e0_ hr (aa (ab 0 (pv 0)) (aa ae af))) (fun _ _=>rfl)))
  (ah (aQ (aD iF az (aM e0_ hr (aa (ab 0 (pv 0)) (aa ae af))) ae (ay _)) (ah (aG (i:=2) fV.nd rfl (Or.inl rfl) (t5 (by decide) (aB (aP (aa (ao (aa ae af)) (aa (ao (aa ae af)) (aa (ao (aa ae (aa ae af))) af))))) (aB (aP (aa (ao (aa ae af)) (aa (ao (aa ae (aa ae af))) (aa (ao (aa ae (aa ae af))) af))))) (aB (aP (aa (ao (aa ae af)) (aa (ao (aa ae af)) (aa (ao (aa ae (aa ae af))) af))))) (ab 1 (pv 1)) (fun _ _=>rfl)))
  (ah (aG (i:=3) fV.nd rfl (Or.inl rfl) (t5 (by decide) (aB (aP (aa (ao af) (aa (ao (aa ae (aa ae af))) (aa (ao (aa ae (aa ae af))) af))))) (aB (aP (aa (ao (aa ae (aa ae af))) (aa (ao af) (aa (ao (aa ae af)) af))))) (aB (aP (aa (ao (aa ae (aa ae af))) (aa (ao af) (aa (ao (aa ae (aa ae af))) af))))) (ab 1 (pv 1)) (fun _ _=>rfl)))
  (ai (aw (ao (aa (aF (ab 1 (pv 1))) (aa (aF (aq rfl (ab 2 (pv 2)) (aM e0_ hr (aa (ab 0 (pv 0)) (aa ae af))) (fun _ _=>rfl))) (aa (aF (aq rfl (ab 3 (pv 3)) (aM e0_ hr (aa (ab 0 (pv 0)) (aa ae af))) (fun _ _=>rfl))) af)))))))) aE)
  (ah (aG (i:=2) fV.nd rfl (Or.inl rfl) (eY rfl (by rfl) T.tuple_ (aa (aB (cz (tg:=["_law_count"]) (cs:=["_law_pen_here"]) (ix:=[0]) (aV (aj jq) ["_law_pen_here","_law_kind","_law_born","_law_stay"] (by decide +kernel)) rfl (bD (by decide)) (by decide) (jR rfl T.range (aa ae (aa (ak aJ az (ab 1 (pv 1)) ae) af))) (fun _ _ _ _=>(aC (aA (i:=0) (show (["_law_count","_law_pen_here"]:List Str).Nodup by decide +kernel) rfl (Or.inl rfl) (by first | exact Or.inl rfl | exact Or.inr rfl)))) (fun _ _ _ _=>(dJ (aD bg bT (aM e0_ hr (aa (ab 1 (pv 1)) (aa ae af))) ae (ay _)))) (fun _ _ _ _=>(aF (ab 0 (pv 0)))))) af)))
  (ai (aw (ao (aa (aF (ab 1 (pv 1))) (aa (aF (ab 2 (pv 2))) (aa (eY rfl (by rfl) T.tuple_ (aa (aB (cz (tg:=["_law_count"]) (cs:=["_law_pen_here"]) (ix:=[0]) (aV (aj jq) ["_law_pen_here","_law_kind","_law_born","_law_stay"] (by decide +kernel)) rfl (bD (by decide)) (by decide) (bO rfl T.range (aa (ak aJ az (ab 1 (pv 1)) ae) af)) (fun _ _ _ _=>(aC (aA (i:=0) (show (["_law_count","_law_pen_here"]:List Str).Nodup by decide +kernel) rfl (Or.inl rfl) (by first | exact Or.inl rfl | exact Or.inr rfl)))) (fun _ _ _ _=>(dJ (aD bg bT (aM e0_ hr (aa (ab 1 (pv 1)) (aa ae af))) ae (ay _)))) (fun _ _ _ _=>(aF (ab 0 (pv 0)))))) af)) af))))))))),?_⟩
 rintro a pn ds es R hl ⟨b,e,hpn,hb,q⟩
 obtain rfl:ds=[]:=List.eq_nil_of_length_eq_zero hl
 obtain rfl:es=[]:=e
 walk_at "sl"
 walk_at "rd"
 refine ⟨b,3,rfl,hpn,by lia,by decide,by decide,fun pn1 r1 h1 r1a r1b=>?_⟩
 walk_at "rd"
 obtain ⟨k,hk,ek⟩:=Fc r1a r1b
 have hkb:4<=k/\k<=8:=by rcases hk with rfl | rfl | rfl <;> lia
 refine bj rfl rfl ek ?_
 walk_at "rd"
 refine ⟨b+1,4,rfl,h1,by lia,by decide,by decide,fun pn2 r2 h2 r2a r2b=>?_⟩
 walk_at "rd"
 refine bf (fun c1=>?_) (fun c1=>?_)
 ·walk_at "rd"
  obtain ⟨lb,eb,hb3⟩:∃lb:List D,sel k (.lst [.tup [.int 1],.tup [.int 2],.tup [.int 1,.int 2]]) (.lst [.tup [.int 2],.tup [.int 2,.int 3],.tup [.int 2,.int 6]]) (.lst [.tup [.int 3],.tup [.int 2],.tup [.int 3,.int 6]])=.lst lb/\∀r:Int,0<=r->r < 3->∃bo:List Int,atI lb r=some (.tup (bo.map .int))/\0∉bo/\bo.length<=20:=by
   rcases hk with rfl | rfl | rfl
   ·exact three ⟨[1],rfl,by decide,by decide⟩ ⟨[2],rfl,by decide,by decide⟩ ⟨[1,2],rfl,by decide,by decide⟩
   ·exact three ⟨[2],rfl,by decide,by decide⟩ ⟨[2,3],rfl,by decide,by decide⟩ ⟨[2,6],rfl,by decide,by decide⟩
   ·exact three ⟨[3],rfl,by decide,by decide⟩ ⟨[2],rfl,by decide,by decide⟩ ⟨[3,6],rfl,by decide,by decide⟩
  obtain ⟨lt,et,ht3⟩:∃lt:List D,sel k (.lst [.tup [],.tup [.int 1,.int 2],.tup [.int 2,.int 3]]) (.lst [.tup [.int 3,.int 4],.tup [],.tup [.int 2]]) (.lst [.tup [.int 2,.int 3],.tup [],.tup [.int 2,.int 3]])=.lst lt/\∀r:Int,0<=r->r < 3->∃sy:List Int,atI lt r=some (.tup (sy.map .int))/\True/\True:=by
   rcases hk with rfl | rfl | rfl
   ·exact three ⟨[],rfl,trivial,trivial⟩ ⟨[1,2],rfl,trivial,trivial⟩ ⟨[2,3],rfl,trivial,trivial⟩
   ·exact three ⟨[3,4],rfl,trivial,trivial⟩ ⟨[],rfl,trivial,trivial⟩ ⟨[2],rfl,trivial,trivial⟩
   ·exact three ⟨[2,3],rfl,trivial,trivial⟩ ⟨[],rfl,trivial,trivial⟩ ⟨[2,3],rfl,trivial,trivial⟩
  refine zJ hk ?_
  rw [eb]
  walk_at "rd"
  refine zJ hk ?_
  rw [et]
  walk_at "rd"
  refine ⟨b+2,3,rfl,h2,by lia,by decide,by decide,fun pn3 r3 h3 r3a r3b=>?_⟩
  obtain ⟨bo,e1,z1,l1⟩:=hb3 r3 r3a r3b
  walk_at "rd"
  refine bj rfl rfl e1 ?_
  refine cZ (bu _) ?_
  walk_at "rd"
  refine ⟨b+3,3,rfl,h3,by lia,by decide,by decide,fun pn4 r4 h4 r4a r4b=>?_⟩
  obtain ⟨sy,e2,_⟩:=ht3 r4 r4a r4b
  walk_at "rd"
  refine bj rfl rfl e2 ?_
  refine cZ (bu _) ?_
  walk_at "rd"
  exact ⟨_,rfl,q k bo sy _ hk z1 l1 (h4.le (by lia))⟩
 ·walk_at "rd"
  have hvt:∀(b':Nat) (pn':List Int) (x:Int) (A:Bool->List Sl->Prop),Pn b' pn'->b'<=1000000->(∀v pn2,Pn (b'+1) pn2->A v [.val (.int x),.pen (some a) pn2])->(iS (v2 wEq (wu 0 fZ (jO (rJ 1) (jO (vC (D.int 2)) wm))) (vC (D.int 0)))) [.val (.int x),.pen (some a) pn'] A:=by
   intro b' pn' x A h1 h2 h3
   walk_at "rd"
   refine ⟨b',2,rfl,h1,by lia,by decide,by decide,fun pn3 r3 h4 r3a r3b=>?_⟩
   walk_at "rd"
   exact h3 _ _ h4
  refine pG (b:=b+2) (by lia) h2 hvt fun p1 pn4 h4=>?_
  walk_at "rd"
  refine kM rfl (gP _ _) ?_
  walk_at "rd"
  refine cZ (gP _ _) ?_
  walk_at "rd"
  refine pG (b:=b+2+(k+1-1).toNat) (by lia) h4 hvt fun p2 pn5 h5=>?_
  walk_at "rd"
  refine kM rfl (gP _ _) ?_
  walk_at "rd"
  rw [pE,pE]
  exact ⟨_,rfl,q k _ _ _ hk (Cv (by lia)) (by have:=List.length_filter_le p1 (List.range (k+1-1).toNat);rw [List.length_range] at this;rw [List.length_map];unfold fr;lia) (h5.le (by lia))⟩
theorem u6 (S:Src K mg "_law_cells" iA) (T:Txt mg) (e0_:Has P w K mg base 1 "_law_draw" ["_law_pen_here","_law_many"] (spI K 0 fZ)):Has P w K mg base 2 "_law_cells" ["_law_pen_here"] (spI K 0 uZ):=by
 refine jT 0 S cS (by walk_at "1") (fun ns ds R zq1=>by obtain ⟨_,e,_⟩:=zq1;rw [e];rfl) fun f cdv A outer s H E hr=>⟨_,_,(ah (aG (i:=1) cS.nd rfl (Or.inl rfl) (aM e0_ hr (aa (ab 0 (pv 0)) (aa ae af))))
  (ah (aQ (aD bg bT (ab 1 (pv 1)) ae (ay _)) (ai (aw (aB (cz (tg:=["_law_k"]) (cs:=["_law_pen_here"]) (ix:=[0]) (aV (aj iA) ["_law_pen_here","_law_way","_law_goer","_law_side","_law_cells_here","_law_k","_law_cell"] (by decide +kernel)) rfl (bD (by decide)) (by decide) (bO rfl T.range (aa ae af)) (fun _ _ _ _=>(aC (aA (i:=0) (show (["_law_k","_law_pen_here"]:List Str).Nodup by decide +kernel) rfl (Or.inl rfl) (by first | exact Or.inl rfl | exact Or.inr rfl)))) (fun _ _ _ _=>(dJ (aD bg bT (aM e0_ hr (aa (ab 1 (pv 1)) (aa ae af))) ae (ay _)))) (fun _ _ _ _=>(ao (aa (ak kr cu (ab 0 (pv 0)) ae) (aa (ak dh cu (ab 0 (pv 0)) ae) af)))))))) aE)
  (ah (aQ (aD bg bT (ab 1 (pv 1)) ae (ay _)) (ah (kW (i:=2) cS.nd rfl (Or.inl rfl) (aB (aP (aa (ao (aa ae (aa ae af))) (aa (ao (aa ae (aa ae af))) (aa (ao (aa ae (aa ae af))) (aa (ao (aa ae (aa ae af))) (aa (ao (aa ae (aa ae af))) af))))))))
  (ai (aw (Bx rfl (aP (aa (aT 2 (pv 2)) (aa (aB (aP (aa (ao (aa ae (aa ae af))) (aa (ao (aa ae (aa ae af))) (aa (ao (aa ae (aa ae af))) af))))) (aa (aB (aP (aa (ao (aa ae (aa ae af))) (aa (ao (aa ae (aa ae af))) (aa (ao (aa ae (aa ae af))) (aa (ao (aa ae (aa ae af))) af)))))) (aa (aB (aP af)) af))))) (aM e0_ hr (aa (ab 0 (pv 0)) (aa ae af))) (fun _ _=>rfl))))) aE)
  (ah (aG (i:=3) cS.nd rfl (Or.inl rfl) (ak aJ az ae (aM e0_ hr (aa (ab 0 (pv 0)) (aa ae af)))))
  (ah (eG (fun _ h=>bX (i:=4) cS.nd rfl (Or.inl rfl) h) (aP af))
  (ah (b8 PassesOwn.never rfl (bO rfl T.range (aa (aM e0_ hr (aa (ab 0 (pv 0)) (aa ae af))) af)) (aC (aA (i:=5) cS.nd rfl (Or.inl rfl) (Or.inl rfl))) (ah (aG (i:=6) cS.nd rfl (Or.inl rfl) (ao (aa (aM e0_ hr (aa (ab 0 (pv 0)) (aa (ab 3 (pv 3)) af))) (aa (aM e0_ hr (aa (ab 0 (pv 0)) (aa (ab 3 (pv 3)) af))) af))))
  (ai (aQ (aD (jV (K:=K) rfl hr.units) oD (ab 6 (pv 6)) (ab 4 (pv 4)) (by with_unfolding_all rfl)) (ai (dI (kJ 4 rfl (pv 4) (aF (ab 6 (pv 6)))))) aE))))
  (ai (aw (aB (fQ rfl rfl (by rfl) T.sorted_ eH (aa (ab 4 (pv 4)) af))))))))))),?_⟩
 rintro a pn ds es R hl ⟨b,e,hpn,hb,q⟩
 obtain rfl:ds=[]:=List.eq_nil_of_length_eq_zero hl
 obtain rfl:es=[]:=e
 walk_at "sl"
 walk_at "rd"
 refine ⟨b,4,rfl,hpn,by lia,by decide,by decide,fun pn1 r1 h1 r1a r1b=>?_⟩
 walk_at "rd"
 refine bf (fun c1=>?_) (fun c1=>?_)
 ·walk_at "rd"
  have hvt:∀(b':Nat) (pn':List Int) (x:Int) (A:Bool->List Sl->Prop),Pn b' pn'->b'<=1000000->(∀v pn2,Pn (b'+1) pn2->A v [.val (.int x),.pen (some a) pn2])->(iS (v2 wEq (wu 0 fZ (jO (rJ 1) (jO (vC (D.int 2)) wm))) (vC (D.int 0)))) [.val (.int x),.pen (some a) pn'] A:=by
   intro b' pn' x A h1 h2 h3
   walk_at "rd"
   refine ⟨b',2,rfl,h1,by lia,by decide,by decide,fun pn3 r3 h4 r3a r3b=>?_⟩
   walk_at "rd"
   exact h3 _ _ h4
  refine pF (g:=fun x=>eT [x / 3,x%3]) (b:=b+1) (by lia) h1 (fun x pn' Q h=>by walk_at "rd";exact h) hvt fun p1 pn4 h4=>?_
  walk_at "rd"
  have e9:D.lst ((fr p1 (Int.toNat 9)).map fun (i:Nat)=>eT [(0+(i:Int)) / 3,(0+(i:Int))%3])=eL ((fr p1 (Int.toNat 9)).map c9):=by
   show D.lst _=D.lst (List.map eT (List.map c9 _))
   congr 1
   rw [List.map_map]
   exact List.map_congr_left fun i _=>rfl
  rw [e9]
  refine ⟨_,rfl,q _ _ (fun p hp=>?_) ?_ (h4.le (by lia))⟩
  ·obtain ⟨i,_,rfl⟩:=List.mem_map.mp hp
   exact ⟨_,_,rfl⟩
  ·have:=List.length_filter_le p1 (List.range 9)
   rw [List.length_range] at this
   rw [List.length_map]
   unfold fr
   lia
 ·walk_at "rd"
  refine bf (fun c2=>?_) (fun c2=>?_)
  ·walk_at "rd"
   refine kU (Nat.le_of_ble_eq_true rfl) ?_
   dsimp only [List.set_cons_zero,List.set_cons_succ]
   walk_at "rd"
   refine ⟨b+1,4,rfl,h1,by lia,by decide,by decide,fun pn2 r2 h2 r2a r2b=>?_⟩
   obtain ⟨l,el,ol,hlp⟩:∃l:List (List Int),atI [eL [[0,2],[1,0],[1,2],[2,1],[2,2]],eL [[0,0],[1,0],[2,0]],eL [[0,0],[0,1],[1,0],[1,1]],eL []] r2=some (eL l)/\l.length<=11/\(∀m∈l,Pr m):=by
    rcases (by lia:r2=0\/r2=1\/r2=2\/r2=3) with e | e | e | e <;> rw [e]
    ·exact ⟨_,rfl,by decide,pI (by decide)⟩
    ·exact ⟨_,rfl,by decide,pI (by decide)⟩
    ·exact ⟨_,rfl,by decide,pI (by decide)⟩
    ·exact ⟨_,rfl,by decide,pI (by decide)⟩
   walk_at "rd"
   refine w6 rfl el ?_
   walk_at "rd"
   exact ⟨_,rfl,q l _ hlp ol (h2.le (by lia))⟩
  ·walk_at "rd"
   refine ⟨b+1,5,rfl,h1,by lia,by decide,by decide,fun pn2 r2 h2 r2a r2b=>?_⟩
   walk_at "rd"
   refine ⟨b+2,11,rfl,h2,by lia,by decide,by decide,fun pn3 r3 h3 r3a r3b=>?_⟩
   walk_at "rd"
   refine dR (fun i S=>∃pn mss v5 v6,S=[.pen (some a) pn,.val (.int r1),.no,.val (.int (1+r2)),.own (mss.map eT),v5,v6]/\Pn (b+3+2*i) pn/\mss.length<=i/\∀ms∈mss,Pr ms) ⟨pn3,[],_,_,rfl,h3,by simp,by simp⟩ ?_ ?_
   ·rintro i S hi ⟨pn,mss,v5,v6,rfl,g1,gl,g3⟩
    have hi':i < 11:=by lia
    walk_at "rd"
    refine ⟨_,1+r2,rfl,g1,by lia,by lia,by lia,fun pn7 x g7 xa xb=>?_⟩
    walk_at "rd"
    refine ⟨_,1+r2,rfl,g7,by lia,by lia,by lia,fun pn8 y g8 ya yb=>?_⟩
    walk_at "rd"
    rw [show D.tup [.int x,.int y]=eT [x,y] from rfl]
    by_cases hin:[x,y]∈mss
    ·refine y6 dQ hin ?_
     walk_at "rc"
     exact ⟨pn8,mss,_,_,rfl,g8.le (by lia),by lia,g3⟩
    ·refine y4 dQ hin ?_
     walk_at "rc"
     refine ⟨pn8,mss++[[x,y]],_,_,by rw [List.map_append];rfl,g8.le (by lia),by rw [List.length_append,List.length_singleton];lia,fun ms hm=>?_⟩
     rcases List.mem_append.mp hm with hm | hm
     ·exact g3 ms hm
     ·obtain rfl:ms=[x,y]:=by simpa using hm
      exact ⟨_,_,rfl⟩
   ·rintro S ⟨pn,mss,v5,v6,rfl,g1,gl,g3⟩
    walk_at "rd"
    refine fR (mss:=mss) rfl (fun m hm=>by obtain ⟨x,y,rfl⟩:=g3 m hm;simp) ?_
    walk_at "rd"
    have hr3:r3.toNat<=10:=by lia
    refine ⟨_,rfl,q _ _ (fun p hp=>g3 p ((cB _).mem_iff.mp hp)) (by rw [(cB _).length_eq];lia) (g1.le (by lia))⟩
theorem Cw (S:Src K mg "_law_picture" eJ) (T:Txt mg) (e13_:Has P w K mg base 2 "_law_cells" ["_law_pen_here"] (spI K 0 uZ)) (e5_:Has P w K mg base 2 "_law_number" ["_law_pen_here"] (spI K 0 pH)):Has P w K mg base 3 "_law_picture" ["_law_pen_here"] (spI K 0 Fd):=by
 refine jT 0 S dW (by walk_at "1") (fun ns ds R zq1=>by obtain ⟨_,e,_⟩:=zq1;rw [e];rfl) fun f cdv A outer s H E hr=>⟨_,_,(ah (aG (i:=1) dW.nd rfl (Or.inl rfl) (aM e13_ hr (aa (ab 0 (pv 0)) af)))
  (ah (aG (i:=2) dW.nd rfl (Or.inr rfl) (aM e5_ hr (aa (ab 0 (pv 0)) af)))
  (ah (aG (i:=3) dW.nd rfl (Or.inr rfl) (aM e5_ hr (aa (ab 0 (pv 0)) af)))
  (ai (aw (aB (cz (tg:=["_law_x","_law_y"]) (cs:=["_law_dx","_law_dy"]) (ix:=[2,3]) (aV (aj eJ) ["_law_pen_here","_law_cells_here","_law_dx","_law_dy"] (by decide +kernel)) rfl (cM (by decide) (by decide)) (by decide) (bE rfl (ab 1 (pv 1))) (fun _ _ _ _=>(b7 (n:=2) rfl rfl (aI (aC (aA (i:=0) (show (["_law_x","_law_y","_law_dx","_law_dy"]:List Str).Nodup by decide +kernel) rfl (Or.inl rfl) (by first | exact Or.inl rfl | exact Or.inr rfl))) (aI (aC (aA (i:=1) (show (["_law_x","_law_y","_law_dx","_law_dy"]:List Str).Nodup by decide +kernel) rfl (Or.inl rfl) (by first | exact Or.inl rfl | exact Or.inr rfl))) bJ)))) (fun _ _ _ _=>cW) (fun _ _ _ _=>(ao (aa (ak aJ az (ab 0 (pv 0)) (ab 2 (pv 2))) (aa (ak aJ az (ab 1 (pv 1)) (ab 3 (pv 3))) af))))))))))),?_⟩
 rintro a pn ds es R hl ⟨b,e,hpn,hb,q⟩
 obtain rfl:ds=[]:=List.eq_nil_of_length_eq_zero hl
 obtain rfl:es=[]:=e
 walk_at "sl"
 walk_at "rd"
 refine ⟨b,rfl,hpn,by lia,fun mss pn1 hp hl h1=>?_⟩
 walk_at "rd"
 refine ⟨_,rfl,h1,by lia,fun dx pn2 h2=>?_⟩
 walk_at "rd"
 refine ⟨_,rfl,h2,by lia,fun dy pn3 h3=>?_⟩
 walk_at "rd"
 refine comp_map (xs:=mss) (en:=eT) (f:=fun m=>eT (ad [dx,dy] m)) (by lia) (fun m hm A B hA=>?_) ?_
 ·obtain ⟨x,y,rfl⟩:=hp m hm
  dsimp only [bA,List.replicate,List.map_cons,List.map_nil,List.cons_append,List.nil_append]
  show vgT 2 _ (.tup [.int x,.int y]) _ _
  walk_at "rd"
  show A (D.tup [.int (x+dx),.int (y+dy)]) _
  rw [Int.add_comm x dx,Int.add_comm y dy]
  exact hA _ rfl
 ·walk_at "rd"
  rw [show mss.map (fun m=>eT (ad [dx,dy] m))=(mss.map (ad [dx,dy])).map eT by rw [List.map_map];rfl]
  refine ⟨_,rfl,q _ _ (fun p h=>?_) (by rw [List.length_map];exact hl) (h3.le (by lia))⟩
  obtain ⟨m,hm,rfl⟩:=List.mem_map.mp h
  obtain ⟨x,y,rfl⟩:=hp m hm
  exact ⟨_,_,rfl⟩
end
end My
namespace My
open PySem L2 VL
section
variable {P:Program} {w:World} {K:PySem.W.Frag} {mg:Str->Option Value} {base:Heap}
theorem u7 (S:Src K mg "_law_steps" lz) (T:Txt mg):Has P w K mg base 1 "_law_steps" ["_law_kind"] (spP K u5):=by
 refine bM S fW (by walk_at "1") (fun ds R zq1=>by obtain ⟨_,e,_⟩:=zq1;rw [e];rfl) fun f cdv A outer s H E hr=>⟨_,_,(ah (eG (fun _ h=>bX (i:=1) fW.nd rfl (Or.inl rfl) h) (aP (aa (ao (aa ae (aa (b6 bC ae) af))) (aa (ao (aa (b6 bC ae) (aa ae af))) (aa (ao (aa ae (aa ae af))) (aa (ao (aa ae (aa ae af))) af))))))
  (ah (aQ (aD iF az (ab 0 (pv 0)) ae (ay _)) (ai (eG (fun _ h=>bX (i:=1) fW.nd rfl (Or.inl rfl) h) (sX 1 (pv 1) (aP (aa (ao (aa (b6 bC ae) (aa (b6 bC ae) af))) (aa (ao (aa ae (aa ae af))) af)))))) aE)
  (ah (aQ (aD bg bT (ab 0 (pv 0)) ae (ay _)) (ai (eG (fun _ h=>bX (i:=1) fW.nd rfl (Or.inl rfl) h) (sX 1 (pv 1) (aP (aa (ao (aa (b6 bC ae) (aa ae af))) (aa (ao (aa ae (aa (b6 bC ae) af))) af)))))) aE)
  (ai (aw (aF (ab 1 (pv 1)))))))),?_⟩
 rintro ds R ⟨k,rfl,hk,q⟩
 walk_at "sl"
 rcases hk with rfl | rfl | rfl
 ·walk_at "rc"
  exact q
 ·walk_at "rc"
  refine nt rfl (Nat.le_of_ble_eq_true rfl) ?_
  walk_at "rc"
  exact q
 ·walk_at "rc"
  refine nt rfl (Nat.le_of_ble_eq_true rfl) ?_
  walk_at "rc"
  refine nt rfl (Nat.le_of_ble_eq_true rfl) ?_
  walk_at "rc"
  exact q
theorem u9 (S:Src K mg "_law_next" lA) (T:Txt mg) (e20_:Has P w K mg base 1 "_law_steps" ["_law_kind"] (spP K u5)):Has P w K mg base 2 "_law_next" ["_law_told","_law_live"] (spP K ju):=by
 refine bM S dX (by walk_at "2") (fun ds R zq1=>by obtain ⟨_,_,_,_,e,_⟩:=zq1;rw [e];rfl) fun f cdv A outer s H E hr=>⟨_,_,(ah (fL (fun _ h=>bX (i:=2) dX.nd rfl (Or.inr rfl) h) nB)
  (ah (b8 PassesOwn.never rfl (bE rfl (ab 1 (pv 1))) (aC (aA (i:=3) dX.nd rfl (Or.inl rfl) (Or.inl rfl))) (ah (ik 2 rfl hr.units (pv 2) (kX rfl hr.units (ab 2 (pv 2)) (ab 3 (pv 3))) (ab 3 (pv 3)))
  (ai (b8 PassesOwn.never rfl (bE rfl (bz e20_ hr (aa (aq rfl (ab 0 (pv 0)) ae (fun _ _=>rfl)) af))) (aC (aA (i:=4) dX.nd rfl (Or.inl rfl) (Or.inl rfl))) (ah (aG (i:=5) dX.nd rfl (Or.inl rfl) (ao (aa (ak aJ az (aq rfl (ab 3 (pv 3)) ae (fun _ _=>rfl)) (aq rfl (ab 4 (pv 4)) ae (fun _ _=>rfl))) (aa (ak aJ az (aq rfl (ab 3 (pv 3)) ae (fun _ _=>rfl)) (aq rfl (ab 4 (pv 4)) ae (fun _ _=>rfl))) af))))
  (ai (ik 2 rfl hr.units (pv 2) (ak aJ az (kX rfl hr.units (ab 2 (pv 2)) (ab 5 (pv 5))) ae) (ab 5 (pv 5)))))))))
  (ah (fL (fun _ h=>bX (i:=6) dX.nd rfl (Or.inr rfl) h) nB)
  (ah (b8 PassesOwn.never rfl (bE rfl (ab 1 (pv 1))) (aC (aA (i:=3) dX.nd rfl (Or.inl rfl) (Or.inl rfl))) (ai (ik 6 rfl hr.units (pv 6) eU (ab 3 (pv 3)))))
  (ai (xF 2 (aw (aB (fQ rfl rfl (by rfl) T.sorted_ eH (aa (aB (cz (tg:=["_law_cell"]) (cs:=["_law_near","_law_told","_law_alive"]) (ix:=[2,0,6]) (aV (aj lA) ["_law_told","_law_live","_law_near","_law_cell","_law_step","_law_there","_law_alive"] (by decide +kernel)) rfl (bD (by decide)) (by decide) (xD (ab 2 (pv 2))) (fun _ _ _ _=>(aC (aA (i:=0) (show (["_law_cell","_law_near","_law_told","_law_alive"]:List Str).Nodup by decide +kernel) rfl (Or.inl rfl) (by first | exact Or.inl rfl | exact Or.inr rfl)))) (fun _ _ _ _=>(dJ (aD (sf (K:=K) rfl hr.units) oD (BY rfl hr.units (ab 1 (pv 1)) (ab 0 (pv 0)) (fun _ _=>rfl)) (aq rfl (ab 2 (pv 2)) (ak aJ az ae (qb pX De (by rfl) T.int_ Aw (aa (cN (zc (K:=K) rfl hr.units) zb (ab 0 (pv 0)) (ab 3 (pv 3)) (by with_unfolding_all rfl)) af))) (fun _ _=>rfl)) (by with_unfolding_all rfl)))) (fun _ _ _ _=>(aF (ab 0 (pv 0)))))) af)))))))))),?_⟩
 rintro ds R ⟨k,bo,st,xs,rfl,hk,hp,hl,q⟩
 walk_at "sl"
 unfold rl
 walk_at "rd"
 have nl:=js hk
 have bl:=f7 k
 have sl:(sp k).length<=8:=by rcases hk with rfl | rfl | rfl <;> decide
 refine e8 (fun i S=>∃kvs s3 s4 s5,Wt (bes k (xs.take i)) (xs.take i) kvs/\S=[.val (rl k bo st),.val (eL xs),od kvs,s3,s4,s5,.no]) ⟨[],_,_,_,⟨by simp,by simp [bes],by simp,by simp⟩,rfl⟩ ?_ ?_
 ·rintro i d S2 e ⟨kvs,s3,s4,s5,tc,rfl⟩
  obtain ⟨c,h1,rfl,hm,ht⟩:=bp e
  have hi:i < xs.length:=(List.getElem?_eq_some_iff.mp h1).1
  obtain ⟨x,y,rfl⟩:=hp c hm
  have b1:=bl (xs.take i)
  have l1:(xs.take i).length<=15625:=by rw [List.length_take];lia
  have l2:(xs.take i).length*(nr k).length<=15625*8:=Nat.mul_le_mul l1 nl
  have t2:=tc.len
  unfold rl
  walk_at "rd"
  refine nF (kvs:=kvs) (ms:=[x,y]) rfl rfl (tc.get _) ?_
  walk_at "rd"
  refine fM (kvs:=kvs) (ms:=[x,y]) rfl rfl (by lia) ?_
  have tc1:Wt (bes k (xs.take i)) (xs.take (i+1)) (cj kvs [x,y] (.int ((bes k (xs.take i)).count [x,y]:Nat))):=by
   rw [ht]
   refine tc.upd (fun c=>⟨fun h=>?_,fun h=>?_⟩) (fun c hc=>rfl) rfl ?_
   ·rcases h with h | h
    ·exact .inl (.inl h)
    ·rcases List.mem_append.mp h with h | h
     ·exact .inl (.inr h)
     ·exact .inr (List.mem_singleton.mp h)
   ·rcases h with (h | h) | h
    ·exact .inl h
    ·exact .inr (List.mem_append.mpr (.inl h))
    ·exact .inr (List.mem_append.mpr (.inr (List.mem_singleton.mpr h)))
   ·simp only [List.length_append,List.length_singleton];lia
  walk_at "rd"
  refine ⟨k,rfl,hk,?_⟩
  walk_at "rd"
  have l3:(xs.take (i+1)).length<=15625:=by rw [List.length_take];lia
  refine e8 (fun j S=>∃kvs s4 s5,Wt (bes k (xs.take i)++((sp k).take j).map (ad [x,y])) (xs.take (i+1)) kvs/\S=[.val (rl k bo st),.val (eL xs),od kvs,.val (eT [x,y]),s4,s5,.no]) ⟨_,_,_,by simpa using tc1,rfl⟩ ?_ ?_
  ·rintro j d S3 e' ⟨kvs,s4,s5,tc,rfl⟩
   obtain ⟨n,h2,rfl,hm',ht'⟩:=bp e'
   obtain ⟨dx,dy,rfl⟩:=uO hk ((pJ hk).mem_iff.mp hm')
   have t2:=tc.len
   rw [List.length_append,List.length_map,List.length_take] at t2
   unfold rl
   walk_at "rd"
   refine nF (kvs:=kvs) (ms:=[x+dx,y+dy]) rfl rfl (tc.get _) ?_
   walk_at "rd"
   refine fM (kvs:=kvs) (ms:=[x+dx,y+dy]) rfl rfl (by lia) ?_
   refine ⟨_,_,_,?_,rfl⟩
   rw [ht',List.map_append,<- List.append_assoc]
   show Wt (_++[[x+dx,y+dy]]) _ _
   refine tc.upd (fun c=>⟨fun h=>?_,fun h=>?_⟩) (fun c hc=>?_) ?_ ?_
   ·rcases h with h | h
    ·rcases List.mem_append.mp h with h | h
     ·exact .inl (.inl h)
     ·exact .inr (List.mem_singleton.mp h)
    ·exact .inl (.inr h)
   ·rcases h with (h | h) | h
    ·exact .inl (List.mem_append.mpr (.inl h))
    ·exact .inr h
    ·exact .inl (List.mem_append.mpr (.inr (List.mem_singleton.mpr h)))
   ·rw [List.count_append]
    simp [List.count_cons,Ne.symm hc]
   ·rw [List.count_append (l₂:=[[x+dx,y+dy]])]
    simp only [List.count_singleton_self]
    push_cast
    rfl
   ·simp only [List.length_append,List.length_singleton];lia
  ·rintro S3 ⟨kvs,s4,s5,tc,rfl⟩
   rw [List.length_map,List.take_length] at tc
   refine ⟨kvs,_,_,_,?_,rfl⟩
   have e1:bes k (xs.take (i+1))=bes k (xs.take i)++(nr k).map (ad [x,y]):=by rw [ht];simp [bes]
   rw [e1]
   exact Wt.perm tc (((pJ hk).map _).append_left _)
 ·rintro S2 ⟨kvs,s3,s4,s5,tc,rfl⟩
  rw [List.length_map,List.take_length] at tc
  walk_at "rd"
  refine e8 (fun i S=>∃s3,S=[.val (rl k bo st),.val (eL xs),od kvs,s3,s4,s5,od (fol (xs.take i))]) ⟨_,rfl⟩ ?_ ?_
  ·rintro i d S2 e ⟨s3,rfl⟩
   obtain ⟨c,h1,rfl,hm,ht⟩:=bp e
   have hi:i < xs.length:=(List.getElem?_eq_some_iff.mp h1).1
   have fl:=yt (xs.take i)
   rw [List.length_take] at fl
   walk_at "rd"
   refine fM (kvs:=fol (xs.take i)) (ms:=c) rfl rfl (by lia) ?_
   rw [<- uW,<- ht]
   exact ⟨_,rfl⟩
  ·rintro S2 ⟨s3,rfl⟩
   rw [List.length_map,List.take_length]
   have b1:=bl xs
   have l2:xs.length*(nr k).length<=15625*8:=Nat.mul_le_mul hl nl
   have t2:=tc.len
   walk_at "rd"
   refine cE (xs:=kvs.map (·.1)) (en:=kT) (f:=eT) (p:=liv k bo st xs) (by rw [List.length_map];lia) (fun c hc A B hA hB=>?_) ?_
   ·dsimp only [bA,List.replicate,List.map_cons,List.map_nil,List.cons_append,List.nil_append]
    obtain ⟨pq,hpq,rfl⟩:=List.mem_map.mp hc
    have hal:decide (pq.1∈(fol xs).map (·.1))=decide (pq.1∈xs):=by
     congr 1
     exact propext mR
    unfold rl
    walk_at "rd"
    refine xJ (kvs:=kvs) (ms:=pq.1) rfl rfl ((jt tc.nd hpq).trans (by rw [tc.vals pq hpq])) ?_
    walk_at "rd"
    refine tj (ms:=pq.1) rfl rfl ?_
    rw [if_neg Bool.false_ne_true,hal]
    walk_at "rd"
    refine .inr ⟨_,rfl,?_⟩
    walk_at "rd"
    have hv:decide ((((bes k xs).count pq.1:Nat):Int)∈if decide (pq.1∈xs)=true then st else bo)=liv k bo st xs pq.1:=rfl
    refine yZ rfl rfl (show atI _ _=some (.tup ((if decide (pq.1∈xs)=true then st else bo).map .int)) from by by_cases h:pq.1∈xs <;> simp only [h,decide_true,decide_false,if_true,if_false,Bool.false_eq_true] <;> rfl) ?_
    walk_at "rd"
    refine nE (f:=D.int) dP ?_
    rw [hv]
    cases hw:liv k bo st xs pq.1 with
    | true=>walk_at "rc";refine cZ (mP _) ?_;walk_at "rc";exact hA _ rfl hw
    | false=>walk_at "rc";exact hB _ rfl hw
   walk_at "rd"
   refine fR (mss:=(kvs.map (·.1)).filter (liv k bo st xs)) rfl (fun ms hms=>?_) ?_
   ·have hk2:=(tc.keys ms).mp (List.mem_filter.mp hms).1
    obtain ⟨a,b,e⟩:=hk2.elim (n9 hk hp ms) (hp ms)
    rw [e];exact List.cons_ne_nil _ _
   ·rw [zH (k:=k) (bo:=bo) (st:=st) (xs:=xs) (tc.nd.filter _) fun c=>by rw [List.mem_filter,tc.keys c]]
    walk_at "rd"
    exact q
end
end My
namespace My
open PySem L2 VL
noncomputable def Pc (mss:List (List Int)):Prop:=(∀ms∈mss,Pr ms)/\mss.length<=2000
noncomputable def mv (dx dy:Int) (ms:List Int):List Int:=match ms with
 | [x,y]=>[x+dx,y+dy]
 | _=>[]
noncomputable def fs (ms:List Int):Int:=ms.getD 0 0
noncomputable def sn (ms:List Int):Int:=ms.getD 1 0
noncomputable def aS (mss:List (List Int)):List (List Int):=mss.map (mv (-(mnI (mss.map fs))) (-(mnI (mss.map sn))))
noncomputable def mxI (ns:List Int):Int:=-(mnI (ns.map fun x=>-x))
theorem vf {M:Int} (h:M∈ns) (h2:∀a∈ns,a<=M):M=mxI ns:=by
 have:-M=mnI (ns.map fun x=>-x):=kR (List.mem_map.mpr ⟨M,h,rfl⟩) fun a ha=>by
  obtain ⟨b,hb,rfl⟩:=List.mem_map.mp ha
  have:=h2 b hb
  lia
 unfold mxI
 lia
noncomputable def bx (mss:List (List Int)):List Int:=[mnI (mss.map fs),mnI (mss.map sn),mxI (mss.map fs)-mnI (mss.map fs)+1,mxI (mss.map sn)-mnI (mss.map sn)+1]
noncomputable def og:List D->(D->Prop)->Prop:=fun ds R=>∃mss dx dy,ds=[eL mss,eT [dx,dy]]/\Pc mss/\R (eL (mss.map (mv dx dy)))
noncomputable def pK:List D->(D->Prop)->Prop:=fun ds R=>∃mss,ds=[eL mss]/\Pc mss/\R (eL (aS mss))
noncomputable def Fe:List D->(D->Prop)->Prop:=fun ds R=>∃mss,ds=[eL mss]/\Pc mss/\(mss=[]->R .non)/\(mss≠[]->R (eT (bx mss)))
noncomputable def mvb (a b:List (List Int)):List Int:=[fs (b.headD [])-fs (a.headD []),sn (b.headD [])-sn (a.headD [])]
set_option genSizeOf false in
inductive Ft where
 | on | gone (t:Int) | comes (m n:Int) (v:List Int)
noncomputable def fE:Ft->D
 | .on=>.tup [.str "on"]
 | .gone t=>.tup [.str "gone",.int t]
 | .comes m n v=>.tup [.str "comes",.int m,.int n,eT v]
noncomputable def Fok:Ft->Prop
 | .comes _ _ v=>Pr v
 | _=>True
noncomputable abbrev Tr:=Int×Int×List Int
noncomputable def eP (x:Tr):D:=.tup [.int x.1,.int x.2.1,eT x.2.2]
theorem Cy:Enc 2 eP where
 ty:=fun x=>by show (noTy (.int x.1)&&(noTy (.int x.2.1)&&(noTy (eT x.2.2)&&true)))=true;rw [dQ.ty x.2.2];rfl
 lay:=fun x=>by show PyData.canLay0 (.tuple [.int x.1,.int x.2.1,pd (eT x.2.2)])=true;simp only [PyData.canLay0,PyData.canLayAll0,dQ.lay x.2.2];decide +kernel
 dep:=fun x=>by
  have a:=dQ.dep x.2.2
  show PyData.depth (.tuple [.int x.1,.int x.2.1,pd (eT x.2.2)])<=2
  simp [PyData.depth,PyData.depthAll]
  lia
 eq:=fun x y=>by
  obtain ⟨m,n,v⟩:=x
  obtain ⟨m',n',v'⟩:=y
  show PyData.eqv (.tuple [.int m,.int n,pd (eT v)]) (.tuple [.int m',.int n',pd (eT v')])=true↔_
  simp [PyData.eqv,PyData.eqvAll,dQ.eq v v']
noncomputable def Ff:List D->(D->Prop)->Prop:=fun ds R=>∃mss,ds=[eL mss]/\Pc mss/\R (kT2 (aS mss))
section
variable {P:Program} {w:World} {K:PySem.W.Frag} {mg:Str->Option Value} {base:Heap}
theorem vj (S:Src K mg "moved" lq) (T:Txt mg):Has P w K mg base 1 "moved" ["picture","move"] (spP K og):=by
 refine bM S lr (by walk_at "2") (fun ds R zq1=>by obtain ⟨_,_,_,e,_⟩:=zq1;rw [e];rfl) fun f cdv A outer s H E hr=>⟨_,_,(ah (kI (ab 1 (pv 1)) (b7 (n:=2) rfl rfl (aI (aC (aA (i:=2) lr.nd rfl (Or.inr rfl) (Or.inl rfl))) (aI (aC (aA (i:=3) lr.nd rfl (Or.inr rfl) (Or.inl rfl))) bJ))))
  (ai (aw (aB (cz (tg:=["x","y"]) (cs:=["dx","dy"]) (ix:=[2,3]) (aV (aj lq) ["picture","move","dx","dy"] (by decide +kernel)) rfl (cM (by decide) (by decide)) (by decide) (bE rfl (ab 0 (pv 0))) (fun _ _ _ _=>(b7 (n:=2) rfl rfl (aI (aC (aA (i:=0) (show (["x","y","dx","dy"]:List Str).Nodup by decide +kernel) rfl (Or.inl rfl) (by first | exact Or.inl rfl | exact Or.inr rfl))) (aI (aC (aA (i:=1) (show (["x","y","dx","dy"]:List Str).Nodup by decide +kernel) rfl (Or.inl rfl) (by first | exact Or.inl rfl | exact Or.inr rfl))) bJ)))) (fun _ _ _ _=>cW) (fun _ _ _ _=>(ao (aa (ak aJ az (ab 0 (pv 0)) (ab 2 (pv 2))) (aa (ak aJ az (ab 1 (pv 1)) (ab 3 (pv 3))) af))))))))),?_⟩
 rintro ds R ⟨mss,dx,dy,rfl,hp,q⟩
 walk_at "sl"
 walk_at "rd"
 refine comp_map (f:=fun m=>eT (mv dx dy m)) (by have:=hp.2;lia) (fun m hm A B hA=>?_) ?_
 ·obtain ⟨x,y,rfl⟩:=hp.1 m hm
  dsimp only [bA,List.replicate,List.map_cons,List.map_nil,List.cons_append,List.nil_append]
  walk_at "rd"
  exact hA _ rfl
 ·walk_at "rd"
  rw [show mss.map (fun m=>eT (mv dx dy m))=(mss.map (mv dx dy)).map eT by rw [List.map_map];rfl]
  exact q
theorem Cz (S:Src K mg "box_of" jh) (T:Txt mg):Has P w K mg base 1 "box_of" ["picture"] (spP K Fe):=by
 refine bM S iy (by walk_at "1") (fun ds R zq1=>by obtain ⟨_,e,_⟩:=zq1;rw [e];rfl) fun f cdv A outer s H E hr=>⟨_,_,(ah (aQ (nh (Bj rfl (ab 0 (pv 0)))) (ai (aw iR)) aE)
  (ah (fG (ii:=1) (tg:=["x","y"]) (cs:=[]) (ix:=[]) iy.nd rfl (Or.inl rfl) (Or.inl rfl) (aV (aj jh) ["picture","columns","rows","left","top"] (by decide +kernel)) rfl (cM (by decide) (by decide)) (by decide) (bE rfl (ab 0 (pv 0))) (fun _ _ _ _=>(b7 (n:=2) rfl rfl (aI (aC (aA (i:=0) (show (["x","y"]:List Str).Nodup by decide +kernel) rfl (Or.inl rfl) (by first | exact Or.inl rfl | exact Or.inr rfl))) (aI (aC (aA (i:=1) (show (["x","y"]:List Str).Nodup by decide +kernel) rfl (Or.inl rfl) (by first | exact Or.inl rfl | exact Or.inr rfl))) bJ)))) (fun _ _ _ _=>cW) (fun _ _ _ _=>(aF (ab 0 (pv 0)))))
  (ah (fG (ii:=2) (tg:=["x","y"]) (cs:=[]) (ix:=[]) iy.nd rfl (Or.inl rfl) (Or.inl rfl) (aV (aj jh) ["picture","columns","rows","left","top"] (by decide +kernel)) rfl (cM (by decide) (by decide)) (by decide) (bE rfl (ab 0 (pv 0))) (fun _ _ _ _=>(b7 (n:=2) rfl rfl (aI (aC (aA (i:=0) (show (["x","y"]:List Str).Nodup by decide +kernel) rfl (Or.inl rfl) (by first | exact Or.inl rfl | exact Or.inr rfl))) (aI (aC (aA (i:=1) (show (["x","y"]:List Str).Nodup by decide +kernel) rfl (Or.inl rfl) (by first | exact Or.inl rfl | exact Or.inr rfl))) bJ)))) (fun _ _ _ _=>cW) (fun _ _ _ _=>(aF (ab 1 (pv 1)))))
  (ah (wO (fun _ h=>Af (i:=3) (j:=4) rfl iy.nd rfl rfl (by decide) rfl rfl h rfl) (aa (aO (sV (K:=K) rfl rfl) kO (by rfl) T.min_ sj (aa (ab 1 (pv 1)) af)) (aa (aO (sV (K:=K) rfl rfl) kO (by rfl) T.min_ sj (aa (ab 2 (pv 2)) af)) af)))
  (ai (aw (ao (aa (aF (ab 3 (pv 3))) (aa (aF (ab 4 (pv 4))) (aa (ak aJ az (ak aX az (aO (sW (K:=K) rfl rfl) kO (by rfl) T.max_ si (aa (ab 1 (pv 1)) af)) (ab 3 (pv 3))) ae) (aa (ak aJ az (ak aX az (aO (sW (K:=K) rfl rfl) kO (by rfl) T.max_ si (aa (ab 2 (pv 2)) af)) (ab 4 (pv 4))) ae) af))))))))))),?_⟩
 rintro ds R ⟨mss,rfl,hp,q1,q2⟩
 walk_at "sl"
 walk_at "rd"
 by_cases h0:mss=[]
 ·subst h0
  refine sZ (d:=eL []) (b:=false) rfl rfl ?_
  walk_at "rc"
  exact q1 rfl
 ·have e0:tru (eL mss)=some true:=by cases mss with | nil=>exact absurd rfl h0 | cons a r=>rfl
  have n1:mss.map fs≠[]:=by simpa using h0
  have n2:mss.map sn≠[]:=by simpa using h0
  refine sZ (d:=eL mss) (b:=true) rfl e0 ?_
  walk_at "rc"
  refine comp_map (f:=fun m=>.int (fs m)) (by have:=hp.2;lia) (fun m hm A B hA=>?_) ?_
  ·obtain ⟨x,y,rfl⟩:=hp.1 m hm
   dsimp only [bA,List.replicate,List.map_cons,List.map_nil,List.cons_append,List.nil_append]
   walk_at "rd"
   exact hA _ rfl
  walk_at "rd"
  refine comp_map (f:=fun m=>.int (sn m)) (by have:=hp.2;lia) (fun m hm A B hA=>?_) ?_
  ·obtain ⟨x,y,rfl⟩:=hp.1 m hm
   dsimp only [bA,List.replicate,List.map_cons,List.map_nil,List.cons_append,List.nil_append]
   walk_at "rd"
   exact hA _ rfl
  walk_at "rd"
  rw [show mss.map (fun m=>D.int (fs m))=(mss.map fs).map D.int by rw [List.map_map];rfl,show mss.map (fun m=>D.int (sn m))=(mss.map sn).map D.int by rw [List.map_map];rfl]
  refine kP n1 fun M1 h1 h2=>?_
  obtain rfl:=kR h1 h2
  walk_at "rd"
  refine kP n2 fun M2 h3 h4=>?_
  obtain rfl:=kR h3 h4
  walk_at "rd"
  refine kP n1 fun M3 h5 h6=>?_
  obtain rfl:=vf h5 h6
  walk_at "rd"
  refine kP n2 fun M4 h7 h8=>?_
  obtain rfl:=vf h7 h8
  walk_at "rd"
  exact q2 h0
theorem qK (S:Src K mg "at_nought" gK) (T:Txt mg) (e7_:Has P w K mg base 1 "box_of" ["picture"] (spP K Fe)) (e2_:Has P w K mg base 1 "moved" ["picture","move"] (spP K og)):Has P w K mg base 2 "at_nought" ["picture"] (spP K pK):=by
 refine bM S ji (by walk_at "1") (fun ds R zq1=>by obtain ⟨_,e,_⟩:=zq1;rw [e];rfl) fun f cdv A outer s H E hr=>⟨_,_,(ah (aG (i:=1) ji.nd rfl (Or.inl rfl) (bz e7_ hr (aa (ab 0 (pv 0)) af)))
  (ah (aQ (aD Ak C7 (ab 1 (pv 1)) iR (ay _)) (ai (aw (aB (aP af)))) aE)
  (ai (aw (bz e2_ hr (aa (ab 0 (pv 0)) (aa (ao (aa (b6 bC (aq rfl (ab 1 (pv 1)) ae (fun _ _=>rfl))) (aa (b6 bC (aq rfl (ab 1 (pv 1)) ae (fun _ _=>rfl))) af))) af))))))),?_⟩
 rintro ds R ⟨mss,rfl,hp,q⟩
 walk_at "sl"
 walk_at "rd"
 refine ⟨mss,rfl,hp,fun h=>?_,fun h=>?_⟩
 ·subst h
  walk_at "rc"
  exact q
 ·walk_at "rc"
  refine ⟨mss,_,_,rfl,hp,?_⟩
  walk_at "rd"
  exact q
theorem CA (S:Src K mg "key_of" nX) (T:Txt mg) (e12_:Has P w K mg base 2 "at_nought" ["picture"] (spP K pK)):Has P w K mg base 3 "key_of" ["picture"] (spP K Ff):=by
 refine bM S ym (by walk_at "1") (fun ds R zq1=>by obtain ⟨_,e,_⟩:=zq1;rw [e];rfl) fun f cdv A outer s H E hr=>⟨_,_,(ai (aw (eY rfl (by rfl) T.tuple_ (aa (bz e12_ hr (aa (ab 0 (pv 0)) af)) af)))),?_⟩
 rintro ds R ⟨mss,rfl,hp,q⟩
 walk_at "sl"
 walk_at "rd"
 refine ⟨mss,rfl,hp,?_⟩
 walk_at "rd"
 refine kM rfl (d0 _) ?_
 walk_at "rd"
 exact q
end
end My
namespace My
open PySem L2 VL
theorem pL {a:Int} (h:ns≠[]):mnI (ns.map (·+a))=mnI ns+a:=by
 symm
 refine kR (List.mem_map.mpr ⟨_,kQ h,rfl⟩) fun b hb=>?_
 obtain ⟨c,hc,rfl⟩:=List.mem_map.mp hb
 have:=nu hc
 show _<=c+a
 lia
theorem qL {l:List (List Int)} {a b:Int} (h:∀m∈l,Pr m):aS (l.map (mv a b))=aS l:=by
 by_cases h0:l=[]
 ·subst h0;rfl
 ·have e1:(l.map (mv a b)).map fs=(l.map fs).map (·+a):=by
   rw [List.map_map,List.map_map]
   refine List.map_congr_left fun m hm=>?_
   obtain ⟨x,y,rfl⟩:=h m hm
   rfl
  have e2:(l.map (mv a b)).map sn=(l.map sn).map (·+b):=by
   rw [List.map_map,List.map_map]
   refine List.map_congr_left fun m hm=>?_
   obtain ⟨x,y,rfl⟩:=h m hm
   rfl
  unfold aS
  rw [e1,e2,pL (by simpa using h0),pL (by simpa using h0),List.map_map]
  refine List.map_congr_left fun m hm=>?_
  obtain ⟨x,y,rfl⟩:=h m hm
  show [_,_]=[_,_]
  congr 1
  ·lia
  ·congr 1
   lia
theorem qM {b:List (List Int)} (hb:∀m∈b,Pr m):(aS b).map (mv (mnI (b.map fs)) (mnI (b.map sn)))=b:=by
 unfold aS
 rw [List.map_map]
 conv=>rhs;rw [<- List.map_id b]
 refine List.map_congr_left fun m hm=>?_
 obtain ⟨x,y,rfl⟩:=hb m hm
 show [_,_]=[x,y]
 congr 1
 ·lia
 ·congr 1
  lia
noncomputable def mvd (a b:List (List Int)):List Int->List Int:=mv (fs (b.headD [])-fs (a.headD [])) (sn (b.headD [])-sn (a.headD []))
theorem yv {a b:List (List Int)} (ha:∀m∈a,Pr m) (hb:∀m∈b,Pr m) (na:a≠[]):aS a=aS b↔a.map (mvd a b)=b:=by
 constructor
 ·intro h
  have h1:=qM hb
  rw [<- h] at h1
  have h2:a.map (mv (mnI (b.map fs)-mnI (a.map fs)) (mnI (b.map sn)-mnI (a.map sn)))=b:=by
   refine Eq.trans ?_ h1
   unfold aS
   rw [List.map_map]
   refine List.map_congr_left fun m hm=>?_
   obtain ⟨x,y,rfl⟩:=ha m hm
   show [_,_]=[_,_]
   congr 1
   ·lia
   ·congr 1
    lia
  match a,na with
  | c::a,_=>
   obtain ⟨x,y,rfl⟩:=ha c List.mem_cons_self
   have h3:mvd ([x,y]::a) b=mv (mnI (b.map fs)-mnI (([x,y]::a).map fs)) (mnI (b.map sn)-mnI (([x,y]::a).map sn)):=by
    unfold mvd
    generalize hM:mnI (b.map fs)-mnI (([x,y]::a).map fs)=M at h2 ⊢
    generalize hN:mnI (b.map sn)-mnI (([x,y]::a).map sn)=N at h2 ⊢
    rw [<- h2]
    show mv (x+M-x) (y+N-y)=_
    congr 1 <;> lia
   rw [h3]
   exact h2
 ·intro h
  rw [<- h]
  exact (qL ha).symm
noncomputable abbrev Rw:=List (List (List Int))
noncomputable def eR (rss:Rw):D:=.lst (rss.map eL)
noncomputable def Tn (k:Int) (bo st:List Int) (rss:Rw):Prop:=∀(i:Nat) a b,rss[i]?=some a->rss[i+1]?=some b->nx k bo st a=b
noncomputable def Lv (rss:Rw):Prop:=(∀r∈rss,r≠[])/\(rss.map aS).Nodup
noncomputable def Pcs (rss:Rw):Prop:=(∀r∈rss,Pc r)/\rss.length<=900
theorem Pcs.sub {rss tss:Rw} (h:Pcs rss) (s:tss.Sublist rss):Pcs tss:=⟨fun r hr=>h.1 r (s.mem hr),Nat.le_trans s.length_le h.2⟩
noncomputable def Ends (ys:Rw) (z:List (List Int)):Ft->Prop
 | .on=>Lv (ys++[z])
 | .gone t=>t=(ys.length:Int)/\z=[]/\∀r∈ys,r≠[]
 | .comes m n v=>(¬(m < 0)/\¬(n < 1)/\m+n=(ys.length:Int))/\Lv ys/\∃a,ys[m.toNat]?=some a/\z=a.map (mv (fs v) (sn v))
noncomputable def vm:List D->(D->Prop)->Prop:=fun ds R=>∃k bo st rss,ds=[rl k bo st,eR rss]/\Kd k/\0∉bo/\Pcs rss/\(Tn k bo st rss->R (.bl true))/\(¬Tn k bo st rss->R (.bl false))
noncomputable def Fg:List D->(D->Prop)->Prop:=fun ds R=>∃rss,ds=[eR rss]/\Pcs rss/\(Lv rss->R (.bl true))/\(¬Lv rss->R (.bl false))
noncomputable def zK:List D->(D->Prop)->Prop:=fun ds R=>∃ys z x,ds=[eR (ys++[z]),fE x]/\Fok x/\Pcs (ys++[z])/\(Ends ys z x->R (.bl true))/\(¬Ends ys z x->R (.bl false))
noncomputable def jv:List D->(D->Prop)->Prop:=fun ds R=>∃k bo st ys z x,ds=[rl k bo st,eR (ys++[z]),fE x]/\Kd k/\0∉bo/\Fok x/\Pcs (ys++[z])/\(Tn k bo st (ys++[z])/\Ends ys z x->R (.bl true))/\(¬(Tn k bo st (ys++[z])/\Ends ys z x)->R (.bl false))
open Classical in
theorem pB1 {k:Int} {bo st:List Int} {ys:Rw} {z:List (List Int)} {x:Ft} {R:D->Prop} (hk:Kd k) (h0:0∉bo) (hx:Fok x) (hp:Pcs (ys++[z])) (h:R (.bl (decide (Tn k bo st (ys++[z])/\Ends ys z x)))):jv [rl k bo st,eR (ys++[z]),fE x] R:=
 ⟨k,bo,st,ys,z,x,rfl,hk,h0,hx,hp,fun c=>by rw [decide_eq_true c] at h;exact h,fun c=>by rw [decide_eq_false c] at h;exact h⟩
theorem vp (ds:List D):cutD ds (some 1) none=ds.tail:=by
 unfold cutD
 cases ds with
 | nil=>rfl
 | cons d r=>
  have e1:HT.sIx (d::r).length 0 (some 1)=1:=by simp [HT.sIx]
  have e2:HT.sIx (d::r).length (d::r).length none=r.length+1:=by simp [HT.sIx]
  rw [e1,e2]
  simp
theorem CB {rss:Rw} {i:Nat} (h:(zpD (rss.map eL) (rss.tail.map eL))[i]?=some d):∃a b,rss[i]?=some a/\rss[i+1]?=some b/\d=.tup [eL a,eL b]:=by
 unfold zpD at h
 rw [List.getElem?_map] at h
 obtain ⟨x,hx,rfl⟩:=Option.map_eq_some_iff.mp h
 obtain ⟨h1,h2⟩:=List.getElem?_zip_eq_some.mp hx
 rw [List.getElem?_map] at h1 h2
 obtain ⟨a,ha,e1⟩:=Option.map_eq_some_iff.mp h1
 obtain ⟨b,hb,e2⟩:=Option.map_eq_some_iff.mp h2
 rw [List.getElem?_tail] at hb
 exact ⟨a,b,ha,hb,by rw [e1,e2]⟩
theorem kn (ys:Rw) (z:List (List Int)):atI ((ys++[z]).map eL) (-1)=some (eL z):=by
 rw [List.map_append]
 exact L2.rp _ _
theorem mS (ys:Rw) (z:List (List Int)):cutD ((ys++[z]).map eL) none (some (-1))=ys.map eL:=by
 unfold cutD
 have e1:HT.sIx ((ys++[z]).map eL).length ((ys++[z]).map eL).length (some (-1))=ys.length:=by
  show (if (-1:Int) < 0 then ((-1:Int)+(((ys++[z]).map eL).length:Int)).toNat else min (-1:Int).toNat ((ys++[z]).map eL).length)=ys.length
  rw [if_pos (by decide),List.length_map,List.length_append]
  simp
  lia
 rw [e1,HT.iL]
 simp
theorem f9 {ys:Rw}:(ys.map fun r=>r.map eT).all (fun d=>!d.isEmpty)=true↔∀r∈ys,r≠[]:=by
 rw [List.all_map,List.all_eq_true]
 constructor
 ·intro h r hr e
  have:=h r hr
  rw [e] at this
  cases this
 ·intro h r hr
  have:=h r hr
  cases r with
  | nil=>exact absurd rfl this
  | cons _ _=>rfl
section
variable {P:Program} {w:World} {K:PySem.W.Frag} {mg:Str->Option Value} {base:Heap}
theorem Fh (S:Src K mg "are_turns" gN) (T:Txt mg) (e27_:Has P w K mg base 4 "next_turn" ["rule","picture"] (spP K pNx)):Has P w K mg base 5 "are_turns" ["rule","rows"] (spP K vm):=by
 refine bM S ft (by walk_at "2") (fun ds R zq1=>by obtain ⟨_,_,_,_,e,_⟩:=zq1;rw [e];rfl) fun f cdv A outer s H E hr=>⟨_,_,(ah (b8 PassesOwn.never rfl (B6 rfl (by rfl) T.zip_ (aa (ab 1 (pv 1)) (aa (nT rfl (ab 1 (pv 1)) (bP ae) cf) af))) (b7 (n:=2) rfl rfl (aI (aC (aA (i:=2) ft.nd rfl (Or.inl rfl) (Or.inl rfl))) (aI (aC (aA (i:=3) ft.nd rfl (Or.inl rfl) (Or.inl rfl))) bJ))) (ai (aQ (aD (dO (K:=K) rfl hr.units) cO (bz e27_ hr (aa (ab 0 (pv 0)) (aa (ab 2 (pv 2)) af))) (ab 3 (pv 3)) (ay _)) (ai (aw eU)) aE)))
  (ai (aw eU))),?_⟩
 rintro ds R ⟨k,bo,st,rss,rfl,hk,h0,hp,q1,q2⟩
 walk_at "sl"
 walk_at "rd"
 unfold eR
 walk_at "rd"
 refine B7 ?_
 rw [vp,<- List.map_tail]
 refine e8 (fun i S2=>(∀j,j < i->∀a b,rss[j]?=some a->rss[j+1]?=some b->nx k bo st a=b)/\∃a b,S2=[.val (rl k bo st),.val (.lst (rss.map eL)),a,b]) ⟨fun j hj=>absurd hj (Nat.not_lt_zero j),_,_,rfl⟩ (fun i d S2 hd ⟨hI,x,y,e⟩=>?_) (fun S2 ⟨hI,_,_,e⟩=>?_)
 ·subst e
  obtain ⟨a,b,ha,hb,rfl⟩:=CB hd
  refine Dy rfl ?_
  walk_at "rd"
  have pa:=hp.1 a (List.mem_of_getElem? ha)
  refine ⟨k,bo,st,a,rfl,hk,h0,pa.1,by have:=pa.2;lia,?_⟩
  walk_at "rd"
  by_cases he:nx k bo st a=b
  ·refine fI b9 he ?_
   walk_at "rc"
   refine ⟨fun j hj a' b' h1 h2=>?_,_,_,rfl⟩
   by_cases hji:j=i
   ·subst hji
    rw [ha] at h1
    rw [hb] at h2
    cases h1;cases h2
    exact he
   ·exact hI j (by lia) a' b' h1 h2
  ·refine gX b9 he ?_
   walk_at "rc"
   exact q2 fun t=>he (t i a b ha hb)
 ·subst e
  walk_at "rd"
  refine q1 fun j a b h1 h2=>hI j ?_ a b h1 h2
  have:=(List.getElem?_eq_some_iff.mp h2).1
  simp [zpD]
  lia
theorem Fi (S:Src K mg "all_live_unlike" cq) (T:Txt mg) (e23_:Has P w K mg base 3 "key_of" ["picture"] (spP K Ff)):Has P w K mg base 4 "all_live_unlike" ["rows"] (spP K Fg):=by
 refine bM S hZ (by walk_at "1") (fun ds R zq1=>by obtain ⟨_,e,_⟩:=zq1;rw [e];rfl) fun f cdv A outer s H E hr=>⟨_,_,(ai (aw (gA (aO (uH rfl) uI (by rfl) T.all_ sr (aa (ab 0 (pv 0)) af)) (iU (cN bg bT (uG (tg:=["row"]) (cs:=[]) (ix:=[]) rfl hr.units (by rfl) T.len_ (aV (aj cq) ["rows"] (by decide +kernel)) rfl (bD (by decide)) (by decide) (bE rfl (ab 0 (pv 0))) (fun _ _ _ _=>(aC (aA (i:=0) (show (["row"]:List Str).Nodup by decide +kernel) rfl (Or.inl rfl) (by first | exact Or.inl rfl | exact Or.inr rfl)))) (fun _ _ _ _=>cW) (fun _ _ _ _=>(bz e23_ hr (aa (ab 0 (pv 0)) af)))) (aO (cD (K:=K) rfl) cC (by rfl) T.len_ bH (aa (ab 0 (pv 0)) af)) (ay _)))))),?_⟩
 rintro ds R ⟨rss,rfl,hp,q1,q2⟩
 walk_at "sl"
 walk_at "rd"
 refine ⟨rss.map fun r=>r.map eT,by simp [eR],?_⟩
 by_cases hl:∀r∈rss,r≠[]
 ·rw [f9.mpr hl]
  walk_at "rc"
  refine ⟨rss.map eL,rfl,by have:=hp.2;simp;lia,fun i cs S2=>(cs.length<=i/\(∀x,x∈cs↔x∈(rss.take i).map aS)/\(cs.length=i↔((rss.take i).map aS).Nodup))/\S2=[.val (eR rss)],⟨⟨Nat.le_refl _,by simp,by simp⟩,rfl⟩,fun i d cs S2 hd hI=>?_,fun cs S2 hI=>?_⟩
  ·obtain ⟨⟨c1,c2,c3⟩,rfl⟩:=hI
   rw [List.getElem?_map] at hd
   obtain ⟨a,ha,rfl⟩:=Option.map_eq_some_iff.mp hd
   refine ⟨Nat.le_of_ble_eq_true rfl,?_⟩
   dsimp only [rY]
   rw [if_pos rfl]
   walk_at "rd"
   refine ⟨a,rfl,hp.1 a (List.mem_of_getElem? ha),?_⟩
   refine ⟨aS a,rfl,?_,rfl⟩
   have et:(rss.take (i+1)).map aS=(rss.take i).map aS++[aS a]:=by
    rw [List.take_succ,ha,List.map_append];rfl
   rw [et]
   have hnd:((rss.take i).map aS++[aS a]).Nodup↔((rss.take i).map aS).Nodup/\aS a∉cs:=by
    rw [List.nodup_append,c2]
    constructor
    ·rintro ⟨h1,_,h3⟩
     exact ⟨h1,fun z=>h3 _ z _ (List.mem_singleton.mpr rfl) rfl⟩
    ·rintro ⟨h1,h3⟩
     refine ⟨h1,by simp,fun x hx y hy e=>h3 ?_⟩
     rw [List.mem_singleton.mp hy] at e
     rw [<- e]
     exact hx
   rw [hnd]
   unfold nS
   by_cases hm:aS a∈cs
   ·rw [if_pos hm]
    refine ⟨by lia,fun x=>?_,?_⟩
    ·rw [c2 x,List.mem_append,List.mem_singleton]
     constructor
     ·exact .inl
     ·rintro (h | rfl)
      ·exact h
      ·exact (c2 _).mp hm
    ·constructor
     ·intro z
      lia
     ·intro z
      exact absurd hm z.2
   ·rw [if_neg hm]
    refine ⟨by rw [List.length_append,List.length_singleton];lia,fun x=>?_,?_⟩
    ·rw [List.mem_append,List.mem_append,c2 x]
    ·rw [List.length_append,List.length_singleton]
     constructor
     ·intro z
      exact ⟨c3.mp (by lia),hm⟩
     ·intro z
      have:=c3.mpr z.1
      lia
  ·obtain ⟨⟨c1,c2,c3⟩,rfl⟩:=hI
   rw [List.length_map,List.take_length] at c3
   walk_at "rd"
   change AG [.lst (rss.map eL)] _
   walk_at "rd"
   rw [List.length_map]
   by_cases hn:(rss.map aS).Nodup
   ·rw [decide_eq_true (show ((cs.length:Nat):Int)=(rss.length:Int) by rw [c3.mpr hn])]
    exact q1 ⟨hl,hn⟩
   ·rw [decide_eq_false (show ¬((cs.length:Nat):Int)=(rss.length:Int) from fun z=>hn (c3.mp (by lia)))]
    exact q2 fun z=>hn z.2
 ·rw [Bool.eq_false_iff.mpr fun z=>hl (f9.mp z)]
  walk_at "rc"
  exact q2 fun z=>hl z.1
theorem Fj (S:Src K mg "bears_out" gO) (T:Txt mg) (e3_:Has P w K mg base 2 "refuse_loud" ["rule"] (spP K uS)) (e28_:Has P w K mg base 5 "ends_as_told" ["rows","told"] (spP K zK)) (e18_:Has P w K mg base 5 "are_turns" ["rule","rows"] (spP K vm)):Has P w K mg base 6 "bears_out" ["rule","rows","told"] (spP K jv):=by
 refine bM S nY (by walk_at "3") (fun ds R zq1=>by obtain ⟨_,_,_,_,_,_,e,_⟩:=zq1;rw [e];rfl) fun f cdv A outer s H E hr=>⟨_,_,(ah (dI (bz e3_ hr (aa (ab 0 (pv 0)) af)))
  (ai (aw (gA (bz e28_ hr (aa (ab 1 (pv 1)) (aa (ab 2 (pv 2)) af))) (iU (bz e18_ hr (aa (ab 0 (pv 0)) (aa (ab 1 (pv 1)) af)))))))),?_⟩
 rintro ds R ⟨k,bo,st,ys,z,x,rfl,hk,h0,hx,hp,q1,q2⟩
 walk_at "sl"
 walk_at "rd"
 refine ⟨k,bo,st,rfl,h0,?_⟩
 walk_at "rd"
 refine ⟨ys,z,x,rfl,hx,hp,fun he=>?_,fun he=>?_⟩
 ·walk_at "rc"
  refine ⟨k,bo,st,ys++[z],rfl,hk,h0,hp,fun ht=>?_,fun ht=>?_⟩
  ·walk_at "rd"
   exact q1 ⟨ht,he⟩
  ·walk_at "rd"
   exact q2 fun t=>ht t.1
 ·walk_at "rc"
  exact q2 fun t=>he t.2
theorem Fk (S:Src K mg "ends_as_told" eh) (T:Txt mg) (e6_:Has P w K mg base 4 "all_live_unlike" ["rows"] (spP K Fg)) (e2_:Has P w K mg base 1 "moved" ["picture","move"] (spP K og)):Has P w K mg base 5 "ends_as_told" ["rows","told"] (spP K zK):=by
 refine bM S bR (by walk_at "2") (fun ds R zq1=>by obtain ⟨_,_,_,e,_⟩:=zq1;rw [e];rfl) fun f cdv A outer s H E hr=>⟨_,_,(ah (aG (i:=2) bR.nd rfl (Or.inl rfl) (ak aX az (aO (cD (K:=K) rfl) cC (by rfl) T.len_ bH (aa (ab 0 (pv 0)) af)) ae))
  (ah (aQ (aD bg bT (aq rfl (ab 1 (pv 1)) ae (fun _ _=>rfl)) bw (ay _)) (ai (aw (gA (cN bg bT (aq rfl (ab 1 (pv 1)) ae (fun _ _=>rfl)) (ab 2 (pv 2)) (ay _)) (gA (x8 rfl (aq rfl (ab 0 (pv 0)) (b6 bC ae) (fun _ _=>rfl))) (iU (aO (uH rfl) uI (by rfl) T.all_ sr (aa (nT rfl (ab 0 (pv 0)) cf (bP (b6 bC ae))) af))))))) aE)
  (ah (aQ (aD bg bT (aq rfl (ab 1 (pv 1)) ae (fun _ _=>rfl)) bw (ay _)) (ai (aw (bz e6_ hr (aa (ab 0 (pv 0)) af)))) aE)
  (ah (kI (ab 1 (pv 1)) (b7 (n:=4) rfl rfl (aI (aC (aA (i:=3) bR.nd rfl (Or.inl rfl) (Or.inl rfl))) (aI (aC (aA (i:=4) bR.nd rfl (Or.inl rfl) (Or.inl rfl))) (aI (aC (aA (i:=5) bR.nd rfl (Or.inl rfl) (Or.inl rfl))) (aI (aC (aA (i:=6) bR.nd rfl (Or.inl rfl) (Or.inl rfl))) bJ))))))
  (ah (aQ (gV (gU (aD iE az (ab 4 (pv 4)) ae (ay _)) (gU (aD iE az (ab 5 (pv 5)) ae (ay _)) (iT (aD rh AC (ak aJ az (ab 4 (pv 4)) (ab 5 (pv 5))) (ab 2 (pv 2)) (ay _)))))) (ai (aw eU)) aE)
  (ai (aw (gA (bz e6_ hr (aa (nT rfl (ab 0 (pv 0)) cf (bP (b6 bC ae))) af)) (iU (cN (gC (K:=K) rfl hr.units) cO (aq rfl (ab 0 (pv 0)) (b6 bC ae) (fun _ _=>rfl)) (bz e2_ hr (aa (aq rfl (ab 0 (pv 0)) (ab 4 (pv 4)) (fun _ _=>rfl)) (aa (ab 6 (pv 6)) af))) (ay _))))))))))),?_⟩
 rintro ds R ⟨ys,z,x,rfl,hx,hp,q1,q2⟩
 have el:(((ys++[z]).map eL).length:Int)-1=(ys.length:Int):=by simp
 cases x with
 | on=>
  walk_at "sl"
  dsimp only [fE,eR]
  walk_at "rd"
  rw [el]
  walk_at "rc"
  refine ⟨ys++[z],rfl,hp,fun he=>?_,fun he=>?_⟩
  ·walk_at "rc"
   exact q1 he
  ·walk_at "rc"
   exact q2 he
 | gone t=>
  walk_at "sl"
  dsimp only [fE,eR]
  walk_at "rd"
  rw [el]
  walk_at "rc"
  by_cases h1:t=(ys.length:Int)
  ·rw [decide_eq_true h1]
   walk_at "rc"
   refine bj rfl rfl (kn ys z) ?_
   walk_at "rc"
   by_cases h2:z=[]
   ·subst h2
    rw [show (List.map eT []).isEmpty=true from rfl]
    walk_at "rc"
    rw [mS]
    refine ⟨ys.map fun r=>r.map eT,by simp,?_⟩
    by_cases h3:∀r∈ys,r≠[]
    ·rw [f9.mpr h3]
     walk_at "rc"
     exact q1 ⟨h1,rfl,h3⟩
    ·rw [Bool.eq_false_iff.mpr fun z=>h3 (f9.mp z)]
     walk_at "rc"
     exact q2 fun z=>h3 z.2.2
   ·rw [show (List.map eT z).isEmpty=false by cases z with | nil=>exact absurd rfl h2 | cons _ _=>rfl]
    walk_at "rc"
    exact q2 fun z=>h2 z.2.1
  ·rw [decide_eq_false h1]
   walk_at "rc"
   exact q2 fun z=>h1 z.1
 | comes m n v=>
  obtain ⟨dx,dy,rfl⟩:=hx
  walk_at "sl"
  dsimp only [fE,eR]
  walk_at "rd"
  rw [el]
  walk_at "rc"
  by_cases h1:m < 0
  ·rw [decide_eq_true h1]
   walk_at "rc"
   exact q2 fun z=>z.1.1 h1
  ·rw [decide_eq_false h1]
   walk_at "rc"
   by_cases h2:n < 1
   ·rw [decide_eq_true h2]
    walk_at "rc"
    exact q2 fun z=>z.1.2.1 h2
   ·rw [decide_eq_false h2]
    walk_at "rc"
    by_cases h3:m+n=(ys.length:Int)
    ·rw [decide_eq_true h3]
     walk_at "rc"
     rw [mS]
     refine ⟨ys,rfl,hp.sub (List.sublist_append_left _ _),fun hl=>?_,fun hl=>?_⟩
     ·walk_at "rc"
      have hi:m.toNat < ys.length:=by lia
      have ha:=List.getElem?_eq_getElem hi
      have ha':((ys++[z]).map eL)[m.toNat]?=some (eL ys[m.toNat]):=by rw [List.getElem?_map,List.getElem?_append_left hi,ha];rfl
      generalize ys[m.toNat]=a at ha ha'
      refine bj rfl rfl (kn ys z) ?_
      walk_at "rd"
      refine bj rfl rfl (i:=m) (by rw [show m=(m.toNat:Int) by lia];exact aW (j:=m.toNat) ha') ?_
      walk_at "rd"
      refine ⟨a,_,_,rfl,hp.1 a (List.mem_append_left _ (List.mem_of_getElem? ha)),?_⟩
      walk_at "rd"
      by_cases h4:z=a.map (mv dx dy)
      ·refine jW b9 h4 ?_
       walk_at "rc"
       exact q1 ⟨⟨h1,h2,h3⟩,hl,a,ha,h4⟩
      ·refine jX b9 h4 ?_
       walk_at "rc"
       refine q2 fun e=>?_
       obtain ⟨_,_,a',ha'',e⟩:=e
       rw [ha] at ha''
       cases ha''
       exact h4 e
     ·walk_at "rc"
      exact q2 fun z=>hl z.2.1
    ·rw [decide_eq_false h3]
     walk_at "rc"
     exact q2 fun z=>h3 z.1.2.2
end
end My
namespace My
open PySem L2 VL
noncomputable def rw1 (rss:Rw) (i:Nat):List (List Int):=rss.getD i []
theorem jw {rss:Rw} {i:Nat} {a:List (List Int)} (h:rss[i]?=some a):rw1 rss i=a:=by unfold rw1;rw [List.getD_eq_getElem?_getD,h];rfl
theorem cr {rss:Rw} {i:Nat} (h:i < rss.length):rss[i]?=some (rw1 rss i):=by unfold rw1;rw [List.getD_eq_getElem?_getD,List.getElem?_eq_getElem h];rfl
noncomputable def Mvs (rss:Rw) (l e:Nat):Prop:=(rw1 rss e).map (mvd (rw1 rss e) (rw1 rss l))=rw1 rss l
open Classical in
noncomputable def pr1 (rss:Rw) (l e:Nat):Option Tr:=if Mvs rss l e then some ((e:Int),(l:Int),mvb (rw1 rss e) (rw1 rss l)) else none
noncomputable def prI (rss:Rw) (l n:Nat):List Tr:=(List.range n).filterMap (pr1 rss l)
noncomputable def prs (rss:Rw) (n:Nat):List Tr:=(List.range n).flatMap fun l=>prI rss l l
theorem gb (rss:Rw) (n:Nat):prs rss (n+1)=prs rss n++prI rss n n:=by unfold prs;rw [List.range_succ,List.flatMap_append];simp
theorem jx (rss:Rw) (l n:Nat):prI rss l (n+1)=prI rss l n++(pr1 rss l n).toList:=by
 unfold prI
 rw [List.range_succ,List.filterMap_append]
 congr 1
theorem iB {rss:Rw} {l e:Nat} (hp:Pcs rss) (hn:∀r∈rss,r≠[]) (hl:l < rss.length) (he:e < rss.length):Mvs rss l e↔aS (rw1 rss e)=aS (rw1 rss l):=by
 have me:=List.mem_of_getElem? (cr he)
 exact (yv (hp.1 _ me).1 (hp.1 _ (List.mem_of_getElem? (cr hl))).1 (hn _ me)).symm
theorem iC {rss:Rw} {l n:Nat} {x:Tr}:x∈prI rss l n↔∃e,e < n/\Mvs rss l e/\x=((e:Int),(l:Int),mvb (rw1 rss e) (rw1 rss l)):=by
 unfold prI
 rw [List.mem_filterMap]
 constructor
 ·rintro ⟨e,he,h⟩
  unfold pr1 at h
  split at h
  ·rename_i hm
   exact ⟨e,List.mem_range.mp he,hm,by cases h;rfl⟩
  ·cases h
 ·rintro ⟨e,he,hm,rfl⟩
  exact ⟨e,List.mem_range.mpr he,by unfold pr1;rw [if_pos hm]⟩
theorem pM {rss:Rw} {n:Nat} {x:Tr} (h:x∈prs rss n):(∃e l:Nat,l < n/\e < l/\x.1=e/\x.2.1=l)/\Pr x.2.2:=by
 unfold prs at h
 obtain ⟨l,hl,h⟩:=List.mem_flatMap.mp h
 obtain ⟨e,he,_,rfl⟩:=iC.mp h
 exact ⟨⟨e,l,List.mem_range.mp hl,he,rfl,rfl⟩,_,_,rfl⟩
theorem pN (rss:Rw) (l n:Nat):(prI rss l n).length<=n:=by
 unfold prI
 have:=List.length_filterMap_le (pr1 rss l) (List.range n)
 rw [List.length_range] at this
 exact this
theorem pO (rss:Rw):∀n m,n<=m->(prs rss n).length<=n*m
 | 0,m,_=>by simp [prs]
 | n+1,m,h=>by
  rw [gb,List.length_append]
  have a:=pO rss n m (by lia)
  have b:=pN rss n n
  rw [Nat.succ_mul]
  lia
theorem pP {rss:Rw} {l n:Nat}:prI rss l n=[]↔∀e,e < n->¬Mvs rss l e:=by
 rw [List.eq_nil_iff_forall_not_mem]
 constructor
 ·intro h e he hm
  exact h _ (iC.mpr ⟨e,he,hm,rfl⟩)
 ·intro h x hx
  obtain ⟨e,he,hm,_⟩:=iC.mp hx
  exact h e he hm
theorem lE {rss:Rw} (hp:Pcs rss) (hn:∀r∈rss,r≠[]):∀n,n<=rss.length->(prs rss n=[]↔((rss.take n).map aS).Nodup)
 | 0,_=>by simp [prs]
 | n+1,h=>by
  rw [gb,List.append_eq_nil_iff,lE hp hn n (by lia),pP,List.take_succ,cr (show n < rss.length by lia),List.map_append,List.nodup_append]
  constructor
  ·rintro ⟨h1,h2⟩
   refine ⟨h1,by simp,fun x hx y hy e=>?_⟩
   obtain ⟨a,ha,rfl⟩:=List.mem_map.mp hx
   obtain ⟨j,hj,rfl⟩:=List.getElem_of_mem ha
   obtain rfl:y=aS (rw1 rss n):=by simpa using hy
   rw [List.length_take] at hj
   have hj':j < n:=by lia
   refine h2 j hj' ((iB hp hn (by lia) (by lia)).mpr ?_)
   rw [<- e]
   congr 1
   exact jw (by rw [List.getElem_take];exact List.getElem?_eq_getElem (by lia))
  ·rintro ⟨h1,_,h3⟩
   refine ⟨h1,fun e he hm=>h3 (aS (rw1 rss e)) ?_ (aS (rw1 rss n)) (by simp) ((iB hp hn (by lia) (by lia)).mp hm)⟩
   refine List.mem_map.mpr ⟨_,List.mem_of_getElem? (i:=e) ?_,rfl⟩
   rw [List.getElem?_take,if_pos he]
   exact cr (by lia)
theorem yw {a:List (List Int)} {dx dy:Int} (ha:∀m∈a,Pr m) (na:a≠[]):mvb a (a.map (mv dx dy))=[dx,dy]/\mvd a (a.map (mv dx dy))=mv dx dy:=by
 match a,na with
 | c::a,_=>
  obtain ⟨x,y,rfl⟩:=ha c List.mem_cons_self
  have h1:x+dx-x=dx:=by lia
  have h2:y+dy-y=dy:=by lia
  constructor
  ·show [x+dx-x,y+dy-y]=_
   rw [h1,h2]
  ·show mv (x+dx-x) (y+dy-y)=_
   rw [h1,h2]
theorem CC {ys:Rw} {z:List (List Int)} (hp:Pcs (ys++[z])) (hy:∀r∈ys++[z],r≠[]) (hl:(ys.map aS).Nodup) {i:Nat} (hi:i < ys.length) (hm:Mvs (ys++[z]) ys.length i):∀e,e < ys.length->Mvs (ys++[z]) ys.length e->e=i:=fun e he hme=>by
 have h1:=(iB hp hy (by simp) (by simp;lia)).mp hm
 have h2:=(iB hp hy (by simp) (by simp;lia)).mp hme
 have q:∀j,j < ys.length->(ys.map aS)[j]?=some (aS (rw1 (ys++[z]) j)):=fun j hj=>by
  have:=cr (rss:=ys++[z]) (i:=j) (by simp;lia)
  rw [List.getElem?_append_left hj] at this
  rw [List.getElem?_map,this]
  rfl
 have e1:=q e he
 rw [h2,<- h1] at e1
 exact (List.getElem?_inj (by simpa using he) hl).mp (e1.trans (q i hi).symm)
theorem yx {ys:Rw} {z:List (List Int)} (hp:Pcs (ys++[z])) (hy:∀r∈ys++[z],r≠[]) {m n dx dy:Int} (h0:¬(m < 0)) (h1:¬(n < 1)) (h2:m+n=(ys.length:Int)) :
  prs (ys++[z]) (ys++[z]).length=[(m,(ys.length:Int),[dx,dy])]↔Ends ys z (.comes m n [dx,dy]):=by
 have hL:(ys++[z]).length=ys.length+1:=by simp
 rw [hL,gb]
 have ez:rw1 (ys++[z]) ys.length=z:=jw (by simp)
 have ea:∀{j a},ys[j]?=some a->rw1 (ys++[z]) j=a:=fun {j a} h=>jw (by rw [List.getElem?_append_left (List.getElem?_eq_some_iff.mp h).1];exact h)
 have tk:(ys++[z]).take ys.length=ys:=by simp
 have hn0:=lE hp hy ys.length (by simp)
 rw [tk] at hn0
 have hm:m.toNat < ys.length:=by lia
 constructor
 ·intro h
  have hA:prs (ys++[z]) ys.length=[]:=by
   cases hc:prs (ys++[z]) ys.length with
   | nil=>rfl
   | cons x r=>
    rw [hc] at h
    obtain ⟨⟨e,l,q1,q2,q3,q4⟩,_⟩:=pM (rss:=ys++[z]) (n:=ys.length) (x:=x) (by rw [hc];exact List.mem_cons_self)
    have hx:x=(m,(ys.length:Int),[dx,dy]):=(List.cons.inj h).1
    rw [hx] at q4
    have:(ys.length:Int)=(l:Int):=q4
    lia
  rw [hA,List.nil_append] at h
  have hmem:(m,(ys.length:Int),[dx,dy])∈prI (ys++[z]) ys.length ys.length:=by rw [h];exact List.mem_cons_self
  obtain ⟨e,he,hme,hxe⟩:=iC.mp hmem
  have g1:m=(e:Int):=congrArg (·.1) hxe
  have g2:[dx,dy]=mvb (rw1 (ys++[z]) e) (rw1 (ys++[z]) ys.length):=congrArg (·.2.2) hxe
  have ge:m.toNat=e:=by lia
  refine ⟨⟨h0,h1,h2⟩,⟨fun r hr=>hy r (List.mem_append_left _ hr),hn0.mp hA⟩,ys[e],by rw [ge];exact List.getElem?_eq_getElem he,?_⟩
  unfold Mvs at hme
  rw [ez,ea (List.getElem?_eq_getElem he)] at hme g2
  have g3:mvd ys[e] z=mv dx dy:=by
   unfold mvb at g2
   unfold mvd
   cases g2
   rfl
  rw [g3] at hme
  exact hme.symm
 ·rintro ⟨_,⟨hl,hnd⟩,a,ha,hz⟩
  have hm0:(m.toNat:Int)=m:=by lia
  have pa:=hp.1 a (List.mem_append_left _ (List.mem_of_getElem? ha))
  have na:=hl a (List.mem_of_getElem? ha)
  have hz':z=a.map (mv dx dy):=hz
  obtain ⟨g1,g2⟩:=yw (dx:=dx) (dy:=dy) pa.1 na
  rw [<- hz'] at g1 g2
  have hmv:Mvs (ys++[z]) ys.length m.toNat:=by
   unfold Mvs
   rw [ez,ea ha,g2]
   exact hz'.symm
  rw [hn0.mpr hnd,List.nil_append]
  have hu:=CC hp hy hnd hm hmv
  have key:∀n,n<=ys.length->m.toNat < n->prI (ys++[z]) ys.length n=[((m.toNat:Int),(ys.length:Int),mvb (rw1 (ys++[z]) m.toNat) (rw1 (ys++[z]) ys.length))]:=by
   intro n
   induction n with
   | zero=>intro _ h;lia
   | succ n ih=>
    intro hn h
    rw [jx]
    by_cases e:m.toNat=n
    ·rw [pP.mpr fun e' he' hm'=>absurd (hu e' (by lia) hm') (by lia)]
     unfold pr1
     rw [<- e,if_pos hmv]
     rfl
    ·rw [ih (by lia) (by lia)]
     unfold pr1
     rw [if_neg fun z'=>e (hu n (by lia) z').symm]
     rfl
  rw [key ys.length (Nat.le_refl _) hm,hm0,ez,ea ha,g1]
noncomputable def wo (rss:Rw) (n:Nat):List Nat:=(List.range n).filter fun i=>(rw1 rss i).isEmpty
theorem vq {rss:Rw} {n:Nat} (hn:n<=rss.length):wo rss n=[]↔∀r∈rss.take n,r≠[]:=by
 unfold wo
 rw [List.filter_eq_nil_iff]
 constructor
 ·intro h r hr e
  subst e
  obtain ⟨i,hi,e⟩:=List.getElem_of_mem hr
  rw [List.length_take] at hi
  refine h i (List.mem_range.mpr (by lia)) ?_
  rw [jw (a:=[]) (by rw [List.getElem_take] at e;rw [List.getElem?_eq_getElem (by lia),e])]
  rfl
 ·intro h i hi hr
  have hi:=List.mem_range.mp hi
  refine h (rw1 rss i) (List.mem_of_getElem? (i:=i) ?_) (List.isEmpty_iff.mp hr)
  rw [List.getElem?_take,if_pos hi]
  exact cr (by lia)
theorem yz {ys:Rw} {z:List (List Int)}:(wo (ys++[z]) (ys++[z]).length).map (fun i:Nat=>(0+(i:Int)))=[(ys.length:Int)]↔z=[]/\∀r∈ys,r≠[]:=by
 have ez:rw1 (ys++[z]) ys.length=z:=jw (by simp)
 have e1:wo (ys++[z]) (ys++[z]).length=wo (ys++[z]) ys.length++(if z=[] then [ys.length] else []):=by
  rw [show (ys++[z]).length=ys.length+1 by simp]
  unfold wo
  rw [List.range_succ,List.filter_append]
  congr 1
  by_cases hz:z=[]
  ·subst hz;rw [if_pos rfl,List.filter_cons_of_pos (by rw [ez];rfl)];rfl
  ·rw [if_neg hz];simp [ez,hz]
 have e2:=vq (rss:=ys++[z]) (n:=ys.length) (by simp)
 rw [show (ys++[z]).take ys.length=ys by simp] at e2
 rw [e1]
 constructor
 ·intro h
  have hA:wo (ys++[z]) ys.length=[]:=by
   cases hc:wo (ys++[z]) ys.length with
   | nil=>rfl
   | cons x r=>
    rw [hc] at h
    have hx:x∈wo (ys++[z]) ys.length:=by rw [hc];exact List.mem_cons_self
    have hx:=List.mem_range.mp (List.mem_filter.mp hx).1
    have:(0+(x:Int))=(ys.length:Int):=(List.cons.inj h).1
    lia
  refine ⟨?_,e2.mp hA⟩
  rw [hA] at h
  by_cases hz:z=[]
  ·exact hz
  ·rw [if_neg hz] at h
   cases h
 ·rintro ⟨hz,hy⟩
  rw [e2.mpr hy,if_pos hz]
  simp
theorem yA {ys:Rw} {z:List (List Int)} (hp:Pcs (ys++[z])) (hy:∀r∈ys++[z],r≠[]):prs (ys++[z]) (ys++[z]).length=[]↔Ends ys z .on:=by
 have h:=lE hp hy (ys++[z]).length (Nat.le_refl _)
 rw [List.take_length] at h
 rw [h]
 exact ⟨fun q=>⟨hy,q⟩,fun q=>q.2⟩
theorem qN {ys:Rw} {z:List (List Int)} {m n:Int} {v:List Int} (h:Ends ys z (.comes m n v)):∀r∈ys++[z],r≠[]:=fun r hr=>by
 obtain ⟨_,hl,a,ha,hz⟩:=h
 rcases List.mem_append.mp hr with hr | hr
 ·exact hl.1 r hr
 ·rw [List.mem_singleton.mp hr,hz]
  have:=hl.1 a (List.mem_of_getElem? ha)
  simpa using this
noncomputable def zL:List D->(D->Prop)->Prop:=fun ds R=>∃a b,ds=[eL a,eL b]/\b≠[]/\Pc a/\Pc b/\(a.map (mvd a b)=b->R (eT (mvb a b)))/\(a.map (mvd a b)≠b->R .non)
noncomputable def pPairs:List D->(D->Prop)->Prop:=fun ds R=>∃rss,ds=[eR rss]/\Pcs rss/\(∀r∈rss,r≠[])/\R (.lst ((prs rss rss.length).map eP))
end My
namespace My
open PySem L2 VL
noncomputable def eI (l:List Int):D:=.lst (l.map .int)
theorem gQ:Enc 1 eI:=dP.lst
noncomputable def ePs (l:List Tr):D:=.lst (l.map eP)
theorem eN:Enc 3 ePs:=Cy.lst
section
variable {P:Program} {w:World} {K:PySem.W.Frag} {mg:Str->Option Value} {base:Heap}
theorem Fo (S:Src K mg "_law_move" lB) (T:Txt mg):Has P w K mg base 2 "_law_move" ["_law_one","_law_other_here"] (spP K zL):=by
 refine bM S pB (by walk_at "2") (fun ds R zq1=>by obtain ⟨_,_,e,_⟩:=zq1;rw [e];rfl) fun f cdv A outer s H E hr=>⟨_,_,(ah (aQ (aD rh AC (aO (cD (K:=K) rfl) cC (by rfl) T.len_ bH (aa (ab 0 (pv 0)) af)) (aO (cD (K:=K) rfl) cC (by rfl) T.len_ bH (aa (ab 1 (pv 1)) af)) (ay _)) (ai (aw iR)) aE)
  (ah (aG (i:=2) pB.nd rfl (Or.inr rfl) (ao (aa (ak aX az (aq rfl (aq rfl (ab 1 (pv 1)) ae (fun _ _=>rfl)) ae (fun _ _=>rfl)) (aq rfl (aq rfl (ab 0 (pv 0)) ae (fun _ _=>rfl)) ae (fun _ _=>rfl))) (aa (ak aX az (aq rfl (aq rfl (ab 1 (pv 1)) ae (fun _ _=>rfl)) ae (fun _ _=>rfl)) (aq rfl (aq rfl (ab 0 (pv 0)) ae (fun _ _=>rfl)) ae (fun _ _=>rfl))) af))))
  (ah (aQ (aD (dO (K:=K) rfl hr.units) cO (aB (cz (tg:=["_law_x","_law_y"]) (cs:=["_law_move_here"]) (ix:=[2]) (aV (aj lB) ["_law_one","_law_other_here","_law_move_here"] (by decide +kernel)) rfl (cM (by decide) (by decide)) (by decide) (bE rfl (ab 0 (pv 0))) (fun _ _ _ _=>(b7 (n:=2) rfl rfl (aI (aC (aA (i:=0) (show (["_law_x","_law_y","_law_move_here"]:List Str).Nodup by decide +kernel) rfl (Or.inl rfl) (by first | exact Or.inl rfl | exact Or.inr rfl))) (aI (aC (aA (i:=1) (show (["_law_x","_law_y","_law_move_here"]:List Str).Nodup by decide +kernel) rfl (Or.inl rfl) (by first | exact Or.inl rfl | exact Or.inr rfl))) bJ)))) (fun _ _ _ _=>cW) (fun _ _ _ _=>(ao (aa (ak aJ az (ab 0 (pv 0)) (aq rfl (ab 2 (pv 2)) ae (fun _ _=>rfl))) (aa (ak aJ az (ab 1 (pv 1)) (aq rfl (ab 2 (pv 2)) ae (fun _ _=>rfl))) af)))))) (ab 1 (pv 1)) (ay _)) (ai (aw iR)) aE)
  (ai (aw (aF (ab 2 (pv 2)))))))),?_⟩
 rintro ds R ⟨a,b,rfl,hb,pa,pb,q1,q2⟩
 walk_at "sl"
 walk_at "rd"
 refine AW (fun c=>?_) (fun c=>?_)
 ·walk_at "rd"
  refine q2 fun z=>c ?_
  have:=congrArg List.length z
  rw [List.length_map] at this
  rw [List.length_map,List.length_map,this]
 ·have hab:a.length=b.length:=by rw [List.length_map,List.length_map] at c;lia
  match a,b,hb,hab,pa,pb,q1,q2 with
  | [],d::b,_,hab,_,_,_,_=>cases hab
  | c'::a,d::b,_,_,pa,pb,q1,q2=>
   obtain ⟨x,y,rfl⟩:=pa.1 c' List.mem_cons_self
   obtain ⟨u,v,rfl⟩:=pb.1 d List.mem_cons_self
   walk_at "rd"
   refine bj rfl rfl (aW (xs:=([u,v]::b).map eT) (j:=0) rfl) ?_
   walk_at "rd"
   refine bj rfl rfl (aW (xs:=([x,y]::a).map eT) (j:=0) rfl) ?_
   walk_at "rd"
   refine bj rfl rfl (aW (xs:=([u,v]::b).map eT) (j:=0) rfl) ?_
   walk_at "rd"
   refine bj rfl rfl (aW (xs:=([x,y]::a).map eT) (j:=0) rfl) ?_
   walk_at "rd"
   refine comp_map (xs:=[x,y]::a) (en:=eT) (f:=fun m=>eT (mvd ([x,y]::a) ([u,v]::b) m)) (by have:=pa.2;lia) (fun m hm A B hA=>?_) ?_
   ·obtain ⟨x',y',rfl⟩:=pa.1 m hm
    dsimp only [bA,List.replicate,List.map_cons,List.map_nil,List.cons_append,List.nil_append]
    walk_at "rd"
    exact hA _ rfl
   ·rw [show ([x,y]::a).map (fun m=>eT (mvd ([x,y]::a) ([u,v]::b) m))=(([x,y]::a).map (mvd ([x,y]::a) ([u,v]::b))).map eT by rw [List.map_map];rfl]
    walk_at "rd"
    change dN true (eL (([x,y]::a).map (mvd ([x,y]::a) ([u,v]::b)))) (eL ([u,v]::b)) _
    by_cases h2:([x,y]::a).map (mvd ([x,y]::a) ([u,v]::b))=[u,v]::b
    ·refine fI b9 h2 ?_
     walk_at "rc"
     exact q1 h2
    ·refine gX b9 h2 ?_
     walk_at "rc"
     exact q2 h2
theorem vw (S:Src K mg "_law_pairs" lC) (T:Txt mg) (e25_:Has P w K mg base 2 "_law_move" ["_law_one","_law_other_here"] (spP K zL)):Has P w K mg base 3 "_law_pairs" ["_law_rows_here"] (spP K pPairs):=by
 refine bM S eu (by walk_at "1") (fun ds R zq1=>by obtain ⟨_,e,_⟩:=zq1;rw [e];rfl) fun f cdv A outer s H E hr=>⟨_,_,(ah (eG (fun _ h=>bX (i:=1) eu.nd rfl (Or.inl rfl) h) (aP af))
  (ah (b8 PassesOwn.never rfl (bO rfl T.range (aa (aO (cD (K:=K) rfl) cC (by rfl) T.len_ bH (aa (ab 0 (pv 0)) af)) af)) (aC (aA (i:=2) eu.nd rfl (Or.inl rfl) (Or.inl rfl))) (ai (b8 PassesOwn.never rfl (bO rfl T.range (aa (ab 2 (pv 2)) af)) (aC (aA (i:=3) eu.nd rfl (Or.inl rfl) (Or.inl rfl))) (ah (aG (i:=4) eu.nd rfl (Or.inl rfl) (bz e25_ hr (aa (aq rfl (ab 0 (pv 0)) (ab 3 (pv 3)) (fun _ _=>rfl)) (aa (aq rfl (ab 0 (pv 0)) (ab 2 (pv 2)) (fun _ _=>rfl)) af))))
  (ai (aQ (aD vL AE (ab 4 (pv 4)) iR (ay _)) (ai (dI (kJ 1 rfl (pv 1) (ao (aa (aF (ab 3 (pv 3))) (aa (aF (ab 2 (pv 2))) (aa (aF (ab 4 (pv 4))) af))))))) aE))))))
  (ai (aw (aF (ab 1 (pv 1))))))),?_⟩
 rintro ds R ⟨rss,rfl,hp,hn,q⟩
 have hl:=hp.2
 walk_at "sl"
 unfold eR
 walk_at "rd"
 rw [List.length_map]
 walk_at "rd"
 refine dR (fun i S=>∃u v x,S=[.val (.lst (rss.map eL)),.own ((prs rss i).map eP),u,v,x]) ⟨_,_,_,rfl⟩ ?_ ?_
 ·rintro i S2 hi ⟨u,v,x,rfl⟩
  have hi':i < rss.length:=by lia
  have pl:=pO rss i 900 (by lia)
  have pl2:i*900<=900*900:=Nat.mul_le_mul_right _ (by lia)
  walk_at "rd"
  rw [Int.zero_add]
  walk_at "rd"
  refine dR (fun j S=>∃v x,S=[.val (.lst (rss.map eL)),.own ((prs rss i++prI rss i j).map eP),.val (.int i),v,x]) ⟨_,_,by rw [show prI rss i 0=[] from rfl,List.append_nil]⟩ ?_ ?_
  ·rintro j S3 hj ⟨v,x,rfl⟩
   have hj':j < i:=by lia
   have pl3:=pN rss i j
   have hb:((rss.map eL))[i]?=some (eL (rw1 rss i)):=by rw [List.getElem?_map,cr hi'];rfl
   have ha:((rss.map eL))[j]?=some (eL (rw1 rss j)):=by rw [List.getElem?_map,cr (show j < rss.length by lia)];rfl
   have mb:=List.mem_of_getElem? (cr hi')
   have ma:=List.mem_of_getElem? (cr (show j < rss.length by lia))
   walk_at "rd"
   rw [Int.zero_add]
   refine bj rfl rfl (aW (j:=j) ha) ?_
   walk_at "rd"
   refine bj rfl rfl (aW (j:=i) hb) ?_
   walk_at "rd"
   refine ⟨rw1 rss j,rw1 rss i,rfl,hn _ mb,hp.1 _ ma,hp.1 _ mb,fun h=>?_,fun h=>?_⟩
   ·walk_at "rc"
    refine ⟨.val (.int j),.val (eT (mvb (rw1 rss j) (rw1 rss i))),?_⟩
    rw [jx]
    unfold pr1
    rw [if_pos (show Mvs rss i j from h),Option.toList_some,<- List.append_assoc,List.map_append (l₁:=prs rss i++prI rss i j)]
    rfl
   ·walk_at "rc"
    refine ⟨.val (.int j),.val .non,?_⟩
    rw [jx]
    unfold pr1
    rw [if_neg (show ¬Mvs rss i j from h),Option.toList_none,List.append_nil]
  ·rintro S3 ⟨v,x,rfl⟩
   exact ⟨_,_,_,by rw [gb,Int.toNat_natCast]⟩
 ·rintro S2 ⟨u,v,x,rfl⟩
  walk_at "rd"
  exact q
theorem CD (S:Src K mg "_law_due" pC) (T:Txt mg) (e1_:Has P w K mg base 2 "_law_next" ["_law_told","_law_live"] (spP K ju)) (e4_:Has P w K mg base 3 "_law_pairs" ["_law_rows_here"] (spP K pPairs)):Has P w K mg base 4 "_law_due" ["_law_told","_law_rows_here","_law_due_here"] (spP K jv):=by
 refine bM S jr (by walk_at "3") (fun ds R zq1=>by obtain ⟨_,_,_,_,_,_,e,_⟩:=zq1;rw [e];rfl) fun f cdv A outer s H E hr=>⟨_,_,(ah (b8 PassesOwn.never rfl (jR rfl T.range (aa ae (aa (aO (cD (K:=K) rfl) cC (by rfl) T.len_ bH (aa (ab 1 (pv 1)) af)) af))) (aC (aA (i:=3) jr.nd rfl (Or.inl rfl) (Or.inl rfl))) (ai (aQ (aD (dO (K:=K) rfl hr.units) cO (bz e1_ hr (aa (ab 0 (pv 0)) (aa (aq rfl (ab 1 (pv 1)) (ak aX az (ab 3 (pv 3)) ae) (fun _ _=>rfl)) af))) (aq rfl (ab 1 (pv 1)) (ab 3 (pv 3)) (fun _ _=>rfl)) (ay _)) (ai (aw eU)) aE)))
  (ah (aG (i:=4) jr.nd rfl (Or.inl rfl) (ak aX az (aO (cD (K:=K) rfl) cC (by rfl) T.len_ bH (aa (ab 1 (pv 1)) af)) ae))
  (ah (fG (ii:=5) (tg:=["_law_at"]) (cs:=["_law_rows_here"]) (ix:=[1]) jr.nd rfl (Or.inl rfl) (Or.inl rfl) (aV (aj pC) ["_law_told","_law_rows_here","_law_due_here","_law_at","_law_last","_law_without","_law_pairs_here"] (by decide +kernel)) rfl (bD (by decide)) (by decide) (bO rfl T.range (aa (aO (cD (K:=K) rfl) cC (by rfl) T.len_ bH (aa (ab 1 (pv 1)) af)) af)) (fun _ _ _ _=>(aC (aA (i:=0) (show (["_law_at","_law_rows_here"]:List Str).Nodup by decide +kernel) rfl (Or.inl rfl) (by first | exact Or.inl rfl | exact Or.inr rfl)))) (fun _ _ _ _=>(dJ (aD (gC (K:=K) rfl hr.units) cO (aq rfl (ab 1 (pv 1)) (ab 0 (pv 0)) (fun _ _=>rfl)) (aB (aP af)) (ay _)))) (fun _ _ _ _=>(aF (ab 0 (pv 0)))))
  (ah (aQ (aD bg bT (aq rfl (ab 2 (pv 2)) ae (fun _ _=>rfl)) bw (ay _)) (ai (aw (gA (cN (gC (K:=K) rfl hr.units) cO (ab 5 (pv 5)) (aB (aP (aa (aF (ab 4 (pv 4))) af))) (ay _)) (iU (cN bg bT (aq rfl (ab 2 (pv 2)) ae (fun _ _=>rfl)) (ab 4 (pv 4)) (ay _)))))) aE)
  (ah (aQ (aD (dO (K:=K) rfl hr.units) cO (ab 5 (pv 5)) (aB (aP af)) (ay _)) (ai (aw eU)) aE)
  (ah (aG (i:=6) jr.nd rfl (Or.inl rfl) (bz e4_ hr (aa (ab 1 (pv 1)) af)))
  (ah (aQ (aD bg bT (aq rfl (ab 2 (pv 2)) ae (fun _ _=>rfl)) bw (ay _)) (ai (aw (cN (gC (K:=K) rfl hr.units) cO (ab 6 (pv 6)) (aB (aP af)) (ay _)))) aE)
  (ah (aQ (gV (gU (aD iE az (aq rfl (ab 2 (pv 2)) ae (fun _ _=>rfl)) ae (ay _)) (gU (aD iE az (aq rfl (ab 2 (pv 2)) ae (fun _ _=>rfl)) ae (ay _)) (iT (aD rh AC (ak aJ az (aq rfl (ab 2 (pv 2)) ae (fun _ _=>rfl)) (aq rfl (ab 2 (pv 2)) ae (fun _ _=>rfl))) (ab 4 (pv 4)) (ay _)))))) (ai (aw eU)) aE)
  (ai (aw (cN (gC (K:=K) rfl hr.units) cO (ab 6 (pv 6)) (aB (aP (aa (ao (aa (aF (aq rfl (ab 2 (pv 2)) ae (fun _ _=>rfl))) (aa (aF (ab 4 (pv 4))) (aa (aF (aq rfl (ab 2 (pv 2)) ae (fun _ _=>rfl))) af)))) af))) (ay _)))))))))))),?_⟩
 rintro ds R ⟨k,bo,st,ys,z,x,rfl,hk,h0,hx,hp,q1,q2⟩
 have hl:ys.length<=900:=by have:=hp.2;simp at this;lia
 have el:(((ys++[z]).map eL).length:Int)-1=(ys.length:Int):=by simp
 walk_at "sl"
 unfold eR
 walk_at "rd"
 refine dR (fun i S2=>(∀j,j < i->∀a b,(ys++[z])[j]?=some a->(ys++[z])[j+1]?=some b->nx k bo st a=b)/\∃v,S2=[.val (rl k bo st),.val (.lst ((ys++[z]).map eL)),.val (fE x),v,.no,.no,.no]) ⟨fun j hj=>absurd hj (Nat.not_lt_zero j),_,rfl⟩ (fun i S2 hi ⟨hI,v,e⟩=>?_) (fun S2 ⟨hI,v,e⟩=>?_)
 ·subst e
  have hi':i < ys.length:=by rw [el] at hi;lia
  have hb:=cr (rss:=ys++[z]) (i:=i+1) (by simp;lia)
  have ha:=cr (rss:=ys++[z]) (i:=i) (by simp;lia)
  have pa:=hp.1 _ (List.mem_of_getElem? ha)
  generalize rw1 (ys++[z]) (i+1)=b at hb
  generalize rw1 (ys++[z]) i=a at ha pa
  walk_at "rd"
  refine bj rfl rfl (i:=1+(i:Int)-1) (by rw [show 1+(i:Int)-1=(i:Int) by lia];exact aW (j:=i) (by rw [List.getElem?_map,ha];rfl)) ?_
  walk_at "rd"
  refine ⟨k,bo,st,a,rfl,hk,pa.1,by have:=pa.2;lia,?_⟩
  walk_at "rd"
  refine bj rfl rfl (i:=1+(i:Int)) (by rw [show 1+(i:Int)=((i+1:Nat):Int) by lia];exact aW (j:=i+1) (by rw [List.getElem?_map,hb];rfl)) ?_
  walk_at "rd"
  by_cases he:nx k bo st a=b
  ·refine fI b9 he ?_
   walk_at "rc"
   refine ⟨fun j hj a' b' h1 h2=>?_,_,rfl⟩
   by_cases hji:j=i
   ·subst hji
    rw [ha] at h1
    rw [hb] at h2
    cases h1;cases h2
    exact he
   ·exact hI j (by lia) a' b' h1 h2
  ·refine gX b9 he ?_
   walk_at "rc"
   exact q2 fun t=>he (t.1 i a b ha hb)
 ·subst e
  have ht:Tn k bo st (ys++[z]):=fun j a b h1 h2=>hI j (by have:=(List.getElem?_eq_some_iff.mp h2).1;rw [el];simp at this;lia) a b h1 h2
  walk_at "rd"
  rw [el,Int.toNat_natCast,List.length_map]
  refine cE (xs:=List.range (ys++[z]).length) (en:=fun i:Nat=>.int (0+(i:Int))) (f:=fun i:Nat=>.int (0+(i:Int))) (p:=fun i=>(rw1 (ys++[z]) i).isEmpty) (by rw [List.length_range];have:=hp.2;lia) (fun i hi A B hA hB=>?_) ?_
  ·dsimp only [bA,List.replicate,List.map_cons,List.map_nil,List.cons_append,List.nil_append]
   have ha:=cr (List.mem_range.mp hi)
   walk_at "rd"
   refine bj rfl rfl (i:=0+(i:Int)) (by rw [Int.zero_add];exact aW (j:=i) (by rw [List.getElem?_map,ha];rfl)) ?_
   walk_at "rd"
   change dN false (eL (rw1 (ys++[z]) i)) (eL []) _
   by_cases he:rw1 (ys++[z]) i=[]
   ·refine jW b9 he ?_
    walk_at "rc"
    exact hA _ rfl (by rw [he];rfl)
   ·refine jX b9 he ?_
    walk_at "rc"
    exact hB _ rfl (by rw [List.isEmpty_eq_false_iff];exact he)
  have e5:((List.range (ys++[z]).length).filter fun i=>(rw1 (ys++[z]) i).isEmpty).map (fun i:Nat=>D.int (0+(i:Int)))=((wo (ys++[z]) (ys++[z]).length).map (fun i:Nat=>(0+(i:Int)))).map D.int:=by rw [List.map_map];rfl
  rw [e5]
  have hW:=yz (ys:=ys) (z:=z)
  have hE:(wo (ys++[z]) (ys++[z]).length).map (fun i:Nat=>(0+(i:Int)))=[]↔∀r∈ys++[z],r≠[]:=by
   have:=vq (rss:=ys++[z]) (Nat.le_refl _)
   rw [List.take_length] at this
   rw [List.map_eq_nil_iff]
   exact this
  generalize (wo (ys++[z]) (ys++[z]).length).map (fun i:Nat=>(0+(i:Int)))=W at hW hE
  cases x with
  | on=>
   dsimp only [fE]
   walk_at "rc"
   change dN true (eI W) (eI []) _
   by_cases hw:W=[]
   ·refine fI gQ hw ?_
    walk_at "rc"
    refine ⟨ys++[z],rfl,hp,hE.mp hw,?_⟩
    walk_at "rc"
    change dN false (ePs (prs (ys++[z]) (ys++[z]).length)) (ePs []) _
    have ho:=yA hp (hE.mp hw)
    by_cases hq:prs (ys++[z]) (ys++[z]).length=[]
    ·refine jW eN hq ?_
     walk_at "rc"
     exact q1 ⟨ht,ho.mp hq⟩
    ·refine jX eN hq ?_
     walk_at "rc"
     exact q2 fun e=>hq (ho.mpr e.2)
   ·refine gX gQ hw ?_
    walk_at "rc"
    exact q2 fun e=>hw (hE.mpr e.2.1)
  | gone t=>
   dsimp only [fE]
   walk_at "rc"
   change dN false (eI W) (eI [(ys.length:Int)]) _
   by_cases hw:W=[(ys.length:Int)]
   ·refine jW gQ hw ?_
    walk_at "rc"
    by_cases h1:t=(ys.length:Int)
    ·rw [decide_eq_true h1]
     exact q1 ⟨ht,h1,hW.mp hw⟩
    ·rw [decide_eq_false h1]
     exact q2 fun e=>h1 e.2.1
   ·refine jX gQ hw ?_
    walk_at "rc"
    exact q2 fun e=>hw (hW.mpr e.2.2)
  | comes m n v=>
   obtain ⟨dx,dy,rfl⟩:=hx
   dsimp only [fE]
   walk_at "rc"
   change dN true (eI W) (eI []) _
   by_cases hw:W=[]
   ·refine fI gQ hw ?_
    walk_at "rc"
    refine ⟨ys++[z],rfl,hp,hE.mp hw,?_⟩
    walk_at "rc"
    by_cases h1:m < 0
    ·rw [decide_eq_true h1]
     walk_at "rc"
     exact q2 fun z=>z.2.1.1 h1
    ·rw [decide_eq_false h1]
     walk_at "rc"
     by_cases h2:n < 1
     ·rw [decide_eq_true h2]
      walk_at "rc"
      exact q2 fun z=>z.2.1.2.1 h2
     ·rw [decide_eq_false h2]
      walk_at "rc"
      by_cases h3:m+n=(ys.length:Int)
      ·rw [decide_eq_true h3]
       walk_at "rc"
       change dN false (ePs (prs (ys++[z]) (ys++[z]).length)) (ePs [(m,(ys.length:Int),[dx,dy])]) _
       have ho:=yx (dx:=dx) (dy:=dy) hp (hE.mp hw) h1 h2 h3
       by_cases hq:prs (ys++[z]) (ys++[z]).length=[(m,(ys.length:Int),[dx,dy])]
       ·refine jW eN hq ?_
        walk_at "rc"
        exact q1 ⟨ht,ho.mp hq⟩
       ·refine jX eN hq ?_
        walk_at "rc"
        exact q2 fun e=>hq (ho.mpr e.2)
      ·rw [decide_eq_false h3]
       walk_at "rc"
       exact q2 fun z=>h3 z.2.1.2.2
   ·refine gX gQ hw ?_
    walk_at "rc"
    exact q2 fun e=>hw (hE.mpr (qN e.2))
end
end My
namespace My
open PySem L2 VL
noncomputable def Rs (rss:Rw):Prop:=(∀r∈rss,(∀p∈r,Pr p)/\r.length<=60)/\rss.length<=12
theorem Rs.pcs {rss:Rw} (h:Rs rss):Pcs rss:=⟨fun r hr=>⟨(h.1 r hr).1,by have:=(h.1 r hr).2;lia⟩,by have:=h.2;lia⟩
noncomputable def zM:List D->(D->Prop)->Prop:=fun ds R=>∃k bo st xs,∃n:Int,ds=[rl k bo st,eL xs,.int n]/\Kd k/\0<=n/\n<=8/\(∀p∈xs,Pr p)/\xs.length<=60/\∀ys z x,Rs (ys++[z])->Fok x->R (.tup [eR (ys++[z]),fE x])
noncomputable def pQ:List Int->List D->(D->List Int->Prop)->Prop:=fun pn ds R=>∃(b:Nat) (k:Int) (bo st:List Int) (ys:Rw) (z:List (List Int)),ds=[rl k bo st,eR (ys++[z])]/\Kd k/\Rs (ys++[z])/\Pn b pn/\b<=1000/\∀us pn',us≠[]->Pcs us->Pn (b+4) pn'->R (eR us) pn'
noncomputable def vy:List Int->List D->(D->List Int->Prop)->Prop:=fun pn ds R=>∃(b:Nat) (x:Ft),ds=[fE x]/\Fok x/\Pn b pn/\b<=1000/\∀x' pn',Fok x'->Pn (b+6) pn'->R (fE x') pn'
theorem gc (rss:Rw) (j:Nat):cutD (rss.map eL) none (some (j:Int))=(rss.take j).map eL:=by
 unfold cutD
 rw [HT.iL,HT.h9,List.map_take]
 simp
theorem gg (rss:Rw) (j:Nat):cutD (rss.map eL) (some (j:Int)) none=(rss.drop j).map eL:=by
 unfold cutD
 rw [HT.iL,HT.h9,List.map_drop]
 by_cases h:j<=(rss.map eL).length
 ·rw [Nat.min_eq_left h,List.take_of_length_le (by simp)]
 ·rw [Nat.min_eq_right (by lia),List.drop_of_length_le (show (rss.map eL).length<=j by lia),List.drop_length]
  simp
theorem yB (rss:Rw) (i j:Nat):∃ts:Rw,cutD (rss.map eL) (some (i:Int)) (some (j:Int))=ts.map eL/\ts.Sublist rss:=by
 unfold cutD
 rw [HT.h9,HT.h9,<- List.map_drop,<- List.map_take]
 exact ⟨_,rfl,(List.take_sublist _ _).trans (List.drop_sublist _ _)⟩
theorem yC {α:Type} [DecidableEq α] {n:Nat} {f:α->D} {x y:α} {Q:D->Prop} (e:Enc n f) (h:Q (.bl (decide (x≠y)))) (hn:n<=40:=by decide):dN true (f x) (f y) Q:=by
 by_cases he:x=y
 ·refine fI e he ?_ hn
  rw [decide_eq_false fun z=>z he] at h
  exact h
 ·refine gX e he ?_ hn
  rw [decide_eq_true he] at h
  exact h
section
variable {P:Program} {w:World} {K:PySem.W.Frag} {mg:Str->Option Value} {base:Heap}
theorem yD (S:Src K mg "_law_rows" n5) (T:Txt mg) (e4_:Has P w K mg base 3 "_law_pairs" ["_law_rows_here"] (spP K pPairs)) (e1_:Has P w K mg base 2 "_law_next" ["_law_told","_law_live"] (spP K ju)):Has P w K mg base 4 "_law_rows" ["_law_told","_law_live","_law_many"] (spG K zM):=by
 refine ET S fX (by walk_at "3") (fun ds R zq1=>by obtain ⟨_,_,_,_,_,e,_⟩:=zq1;rw [e];rfl) fun f cdv A outer s H E hr=>⟨_,_,(ah (eG (fun _ h=>bX (i:=3) fX.nd rfl (Or.inl rfl) h) (aP (aa (aT 1 (pv 1)) af)))
  (ah (b8 PassesOwn.never rfl (bO rfl T.range (aa (ak aJ az (ab 2 (pv 2)) ae) af)) (aC (aA (i:=4) fX.nd rfl (Or.inl rfl) (Or.inl rfl))) (ah (aQ (aD (gC (K:=K) rfl hr.units) cO (aq rfl (ab 3 (pv 3)) (b6 bC ae) (fun _ _=>rfl)) (aB (aP af)) (ay _)) (ai (iw 3 (aw (ao (aa (aT 3 (pv 3)) (aa (ao (aa bw (aa (aF (ab 4 (pv 4))) af))) af)))))) aE)
  (ah (aG (i:=5) fX.nd rfl (Or.inl rfl) (bz e4_ hr (aa (ab 3 (pv 3)) af)))
  (ah (aQ (aD (dO (K:=K) rfl hr.units) cO (ab 5 (pv 5)) (aB (aP af)) (ay _)) (ai (iw 3 (aw (ao (aa (aT 3 (pv 3)) (aa (ao (aa bw (aa (aF (aq rfl (aq rfl (ab 5 (pv 5)) ae (fun _ _=>rfl)) ae (fun _ _=>rfl))) (aa (ak aX az (ab 4 (pv 4)) (aq rfl (aq rfl (ab 5 (pv 5)) ae (fun _ _=>rfl)) ae (fun _ _=>rfl))) (aa (aF (aq rfl (aq rfl (ab 5 (pv 5)) ae (fun _ _=>rfl)) ae (fun _ _=>rfl))) af))))) af)))))) aE)
  (ah (kW (i:=6) fX.nd rfl (Or.inl rfl) (bz e1_ hr (aa (ab 0 (pv 0)) (aa (aq rfl (ab 3 (pv 3)) (b6 bC ae) (fun _ _=>rfl)) af))))
  (ah (aQ (gV (gU (aD bg bT (ab 4 (pv 4)) (ab 2 (pv 2)) (ay _)) (iT (aD iF az (aO (cD (K:=K) rfl) cC (by rfl) T.len_ bH (aa (ab 6 (pv 6)) af)) ae (ay _))))) (ai (iw 3 (aw (ao (aa (aT 3 (pv 3)) (aa (ao (aa bw af)) af)))))) aE)
  (ai (dI (kJ 3 rfl (pv 3) (aT 6 (pv 6)))))))))))
  (ai (iw 3 (aw (ao (aa (aT 3 (pv 3)) (aa (ao (aa bw af)) af)))))))),?_⟩
 rintro ds R ⟨k,bo,st,xs,n,rfl,hk,n0,n8,hp,hx,q⟩
 show wq _ _ _ [.fre (rl k bo st),.fre (eL xs),.fre (.int n),.no,.no,.no,.no]
 walk_at "rd"
 refine dR (fun i S=>∃(ys:Rw) (z:List (List Int)) (u v x:Sl),Rs (ys++[z])/\(∀r∈ys,r≠[])/\ys.length<=i/\S=[.fre (rl k bo st),.fre (eL xs),.fre (.int n),.own ((ys++[z]).map eL),u,v,x]) ⟨[],xs,_,_,_,⟨fun r hr=>by rw [List.mem_singleton.mp hr];exact ⟨hp,hx⟩,by simp⟩,fun r hr=>absurd hr List.not_mem_nil,Nat.zero_le _,rfl⟩ (fun i S2 hi hI=>?_) (fun S2 hI=>?_)
 ·obtain ⟨ys,z,u,v,x,rs,hy,hl,rfl⟩:=hI
  have hi8:i < 9:=by lia
  have pz:=rs.1 z (List.mem_append_right _ List.mem_cons_self)
  walk_at "rd"
  refine bj rfl rfl (kn ys z) ?_
  walk_at "rd"
  change dN false (eL z) (eL []) _
  by_cases h0:z=[]
  ·refine jW b9 h0 ?_
   walk_at "rc"
   exact q ys z (.gone (0+(i:Int))) rs trivial
  ·have hne:∀r∈ys++[z],r≠[]:=fun r hr=>by
    rcases List.mem_append.mp hr with hr | hr
    ·exact hy r hr
    ·rw [List.mem_singleton.mp hr];exact h0
   refine jX b9 h0 ?_
   walk_at "rc"
   refine ⟨ys++[z],rfl,rs.pcs,hne,?_⟩
   walk_at "rd"
   change dN true (ePs (prs (ys++[z]) (ys++[z]).length)) (ePs []) _
   by_cases hq:prs (ys++[z]) (ys++[z]).length=[]
   ·refine fI eN hq ?_
    walk_at "rc"
    refine bj rfl rfl (kn ys z) ?_
    walk_at "rd"
    refine ⟨k,bo,st,z,rfl,hk,pz.1,by have:=pz.2;lia,?_⟩
    walk_at "rd"
    refine kU (Nat.le_of_ble_eq_true rfl) ?_
    dsimp only [List.set]
    walk_at "rd"
    by_cases h1:0+(i:Int)=n
    ·rw [decide_eq_true h1]
     walk_at "rc"
     exact q ys z .on rs trivial
    ·rw [decide_eq_false h1]
     walk_at "rc"
     refine bf (fun c=>?_) (fun c=>?_)
     ·walk_at "rd"
      exact q ys z .on rs trivial
     ·walk_at "rd"
      have hr:(nx k bo st z).length<=60:=by rw [List.length_map] at c;lia
      refine ⟨ys++[z],My.nx k bo st z,.val (.int (0+(i:Int))),.val (ePs (prs (ys++[z]) (ys++[z]).length)),.fre (eL (My.nx k bo st z)),⟨fun r hm=>?_,by simp;lia⟩,hne,by simp;lia,?_⟩
      ·rcases List.mem_append.mp hm with hm | hm
       ·exact rs.1 r hm
       ·rw [List.mem_singleton.mp hm];exact ⟨uY hk pz.1,hr⟩
      ·rw [List.map_append (l₁:=ys++[z])];rfl
   ·refine gX eN hq ?_
    have hm:∀x∈prs (ys++[z]) (ys++[z]).length,Pr x.2.2:=fun x hx=>(pM hx).2
    generalize prs (ys++[z]) (ys++[z]).length=ps at hq hm
    match ps,hq,hm with
    | x::r,_,hm=>
     have hx:=hm x List.mem_cons_self
     obtain ⟨m,l,v'⟩:=x
     walk_at "rc"
     refine bj rfl rfl (aW (xs:=List.map eP ((m,l,v')::r)) (j:=0) rfl) ?_
     walk_at "rc"
     refine bj rfl rfl (aW (xs:=List.map eP ((m,l,v')::r)) (j:=0) rfl) ?_
     walk_at "rc"
     refine bj rfl rfl (aW (xs:=List.map eP ((m,l,v')::r)) (j:=0) rfl) ?_
     walk_at "rc"
     exact q ys z (.comes m (0+(i:Int)-m) v') rs hx
 ·obtain ⟨ys,z,u,v,x,rs,hy,hl,rfl⟩:=hI
  walk_at "rd"
  exact q ys z .on rs trivial
theorem qO (S:Src K mg "_law_spoilt" fY) (T:Txt mg) (e0_:Has P w K mg base 1 "_law_draw" ["_law_pen_here","_law_many"] (spI K 0 fZ)) (e1_:Has P w K mg base 2 "_law_next" ["_law_told","_law_live"] (spP K ju)):Has P w K mg base 3 "_law_spoilt" ["_law_pen_here","_law_told","_law_rows_here"] (spH K pQ):=by
 refine E3 S bS (by walk_at "3") (fun ns ds R zq1=>by obtain ⟨_,_,_,_,_,_,e,_⟩:=zq1;rw [e];rfl) fun f cdv A outer s H E hr=>⟨_,_,(ah (aG (i:=3) bS.nd rfl (Or.inl rfl) (aM e0_ hr (aa (ab 0 (pv 0)) (aa ae af))))
  (ah (aG (i:=4) bS.nd rfl (Or.inl rfl) (aM e0_ hr (aa (ab 0 (pv 0)) (aa (aO (cD (K:=K) rfl) cC (by rfl) T.len_ bH (aa (ab 2 (pv 2)) af)) af))))
  (ah (aQ (gV (ng (aD bg bT (ab 3 (pv 3)) ae (ay _)) (kG (aD iF az (aO (cD (K:=K) rfl) cC (by rfl) T.len_ bH (aa (ab 2 (pv 2)) af)) ae (ay _))))) (ai (aw (aB (cn rfl (aB (dU rfl (aT 2 (pv 2)) cf (bP (ab 4 (pv 4))))) (aB (dU rfl (aT 2 (pv 2)) (bP (ak aJ az (ab 4 (pv 4)) ae)) cf)))))) aE)
  (ah (aQ (aD bg bT (ab 3 (pv 3)) ae (ay _)) (ai (aw (aB (cn rfl (aB (cn rfl (aB (dU rfl (aT 2 (pv 2)) cf (bP (ab 4 (pv 4))))) (aB (aP (aa (nU rfl (aT 2 (pv 2)) (ab 4 (pv 4)) (fun _ _=>rfl)) af))))) (aB (dU rfl (aT 2 (pv 2)) (bP (ab 4 (pv 4))) cf)))))) aE)
  (ah (aQ (gV (ng (aD bg bT (ab 3 (pv 3)) ae (ay _)) (kG (aD iE az (aO (cD (K:=K) rfl) cC (by rfl) T.len_ bH (aa (aq rfl (ab 2 (pv 2)) (b6 bC ae) (fun _ _=>rfl)) af)) ae (ay _))))) (ai (aw (aB (cn rfl (aT 2 (pv 2)) (aB (aP (aa (bz e1_ hr (aa (ab 1 (pv 1)) (aa (aq rfl (ab 2 (pv 2)) (b6 bC ae) (fun _ _=>rfl)) af))) af))))))) aE)
  (ah (aQ (aD bg bT (ab 3 (pv 3)) ae (ay _)) (ai (aw (aB (cn rfl (aT 2 (pv 2)) (aB (aP (aa (nU rfl (aT 2 (pv 2)) (ab 4 (pv 4)) (fun _ _=>rfl)) af))))))) aE)
  (ah (aQ (aD bg bT (ab 3 (pv 3)) ae (ay _)) (ah (kW (i:=5) bS.nd rfl (Or.inl rfl) (aB (cn rfl (aB (dU rfl (aT 2 (pv 2)) (bP (ak aJ az (ab 4 (pv 4)) ae)) (bP (ak aJ az (ab 4 (pv 4)) ae)))) (aB (aP (aa (nU rfl (aT 2 (pv 2)) (ab 4 (pv 4)) (fun _ _=>rfl)) af))))))
  (ai (aw (aB (cn rfl (aB (cn rfl (aB (dU rfl (aT 2 (pv 2)) cf (bP (ab 4 (pv 4))))) (aT 5 (pv 5)))) (aB (dU rfl (aT 2 (pv 2)) (bP (ak aJ az (ab 4 (pv 4)) ae)) cf))))))) aE)
  (ah (aQ (aD bg bT (ab 3 (pv 3)) ae (ay _)) (ah (aG (i:=6) bS.nd rfl (Or.inr rfl) (ao (aa (ak aX az (aM e0_ hr (aa (ab 0 (pv 0)) (aa ae af))) ae) (aa (ak aX az (aM e0_ hr (aa (ab 0 (pv 0)) (aa ae af))) ae) af))))
  (ah (aQ (aD (dO (K:=K) rfl hr.units) cO (aq rfl (ab 2 (pv 2)) (ab 4 (pv 4)) (fun _ _=>rfl)) (aB (aP af)) (ay _)) (ah (kI (aq rfl (aq rfl (ab 2 (pv 2)) (ab 4 (pv 4)) (fun _ _=>rfl)) ae (fun _ _=>rfl)) (b7 (n:=2) rfl rfl (aI (aC (aA (i:=7) bS.nd rfl (Or.inl rfl) (Or.inl rfl))) (aI (aC (aA (i:=8) bS.nd rfl (Or.inl rfl) (Or.inl rfl))) bJ))))
  (ai (aG (i:=6) bS.nd rfl (Or.inr rfl) (ao (aa (ak aJ az (ak aJ az (ab 7 (pv 7)) (aq rfl (ab 6 (pv 6)) ae (fun _ _=>rfl))) ae) (aa (ak aJ az (ab 8 (pv 8)) (aq rfl (ab 6 (pv 6)) ae (fun _ _=>rfl))) af)))))) aE)
  (ah (rZ (ii:=9) (tg:=["_law_one"]) (cs:=["_law_cell"]) (ix:=[6]) bS.nd rfl (Or.inl rfl) (Or.inl rfl) (aV (aj fY) ["_law_pen_here","_law_told","_law_rows_here","_law_way","_law_at","_law_two","_law_cell","_law_x","_law_y","_law_some"] (by decide +kernel)) rfl (bD (by decide)) (by decide) (bE rfl (aq rfl (ab 2 (pv 2)) (ab 4 (pv 4)) (fun _ _=>rfl))) (fun _ _ _ _=>(aC (aA (i:=0) (show (["_law_one","_law_cell"]:List Str).Nodup by decide +kernel) rfl (Or.inl rfl) (by first | exact Or.inl rfl | exact Or.inr rfl)))) (fun _ _ _ _=>(dJ (aD (dO (K:=K) rfl hr.units) cO (ab 0 (pv 0)) (ab 1 (pv 1)) (ay _)))) (fun _ _ _ _=>(aF (ab 0 (pv 0)))))
  (ah (aQ (aD bg bT (aO (cD (K:=K) rfl) cC (by rfl) T.len_ bH (aa (ab 9 (pv 9)) af)) (aO (cD (K:=K) rfl) cC (by rfl) T.len_ bH (aa (aq rfl (ab 2 (pv 2)) (ab 4 (pv 4)) (fun _ _=>rfl)) af)) (ay _)) (ai (dI (kJ 9 rfl (pv 9) (aF (ab 6 (pv 6)))))) aE)
  (ai (aw (aB (cn rfl (aB (cn rfl (aB (dU rfl (aT 2 (pv 2)) cf (bP (ab 4 (pv 4))))) (aB (aP (aa (aB (fQ rfl rfl (by rfl) T.sorted_ eH (aa (ab 9 (pv 9)) af))) af))))) (aB (dU rfl (aT 2 (pv 2)) (bP (ak aJ az (ab 4 (pv 4)) ae)) cf)))))))))) aE)
  (ai (aw (aT 2 (pv 2)))))))))))),?_⟩
 rintro a pn ds R ⟨b,k,bo,st,ys,z,rfl,hk,rs,hpn,hb,q⟩
 show wq _ _ _ [.pen (some a) pn,.fre (rl k bo st),.fre (.lst ((ys++[z]).map eL)),.no,.no,.no,.no,.no,.no,.no]
 have hL:0 < ((ys++[z]).map eL).length:=by simp
 have hL2:((ys++[z]).map eL).length<=12:=by rw [List.length_map];exact rs.2
 have pz:=rs.1 z (List.mem_append_right _ List.mem_cons_self)
 walk_at "rd"
 refine ⟨b,10,rfl,hpn,by lia,by decide,by decide,fun pn1 w h1 w0 w1=>?_⟩
 walk_at "rd"
 refine ⟨_,_,rfl,h1,by lia,by lia,by lia,fun pn2 t h2 t0 t1=>?_⟩
 obtain ⟨j,rfl⟩:=Int.eq_ofNat_of_zero_le t0
 have hj:j < (ys++[z]).length:=by rw [List.length_map] at t1;lia
 have hja:=cr hj
 have hjm:=List.mem_of_getElem? hja
 have hja':((ys++[z]).map eL)[j]?=some (eL (rw1 (ys++[z]) j)):=by rw [List.getElem?_map,hja];rfl
 have al:=kn ys z
 have hne0:ys++[z]≠[]:=by simp
 generalize rw1 (ys++[z]) j=rj at hja hjm hja'
 walk_at "rd"
 generalize ys++[z]=rss at *
 have hl:=rs.2
 have e1:(j:Int)+1=((j+1:Nat):Int):=by lia
 have e2:(j:Int)+2=((j+2:Nat):Int):=by lia
 have mt:∀r∈rss.take j,r∈rss\/Pc r:=fun r hr=>.inl (List.mem_of_mem_take hr)
 have md:∀n,∀r∈rss.drop n,r∈rss\/Pc r:=fun n r hr=>.inl (List.mem_of_mem_drop hr)
 have m1:∀r∈[rj],r∈rss\/Pc r:=fun r hr=>.inl (by rw [List.mem_singleton.mp hr];exact hjm)
 have fin:∀(us:Rw) pn',us≠[]->us.length<=900->(∀r∈us,r∈rss\/Pc r)->Pn (b+4) pn'->R (eR us) pn':=fun us pn' h1 h2 h3 h4=>q us pn' h1 ⟨fun r hr=>(h3 r hr).elim (rs.pcs.1 r) id,h2⟩ h4
 have lt:=List.length_take_le j rss
 have ld:=fun n=>List.length_drop (i:=n) (l:=rss)
 rcases (by lia:w=0\/w=1\/w=2\/w=3\/w=4\/w=5\/6<=w) with rfl | rfl | rfl | rfl | rfl | rfl | hw
 ·walk_at "rc"
  refine bf (fun c=>?_) (fun c=>?_)
  ·walk_at "rc"
   rw [e1,gc,gg]
   refine cR (by rw [List.length_map,List.length_map,ld];lia) ?_
   rw [<- List.map_append]
   walk_at "rc"
   refine ⟨_,rfl,fin _ _ (fun e=>?_) (by rw [List.length_append,ld];lia) (fun r hr=>(List.mem_append.mp hr).elim (mt r) (md _ r)) (h2.le (by lia))⟩
   have:=congrArg List.length e
   rw [List.length_append,ld,List.length_take] at this
   rw [List.length_map] at c
   rw [List.length_nil] at this
   lia
  ·walk_at "rc"
   exact ⟨_,rfl,fin rss _ hne0 (by lia) (fun r hr=>.inl hr) (h2.le (by lia))⟩
 ·walk_at "rc"
  refine lj (aW (j:=j) hja') ?_
  walk_at "rc"
  rw [gc]
  refine cR (ds:=(rss.take j).map eL) (es:=[eL rj]) (by rw [List.length_map,List.length_singleton];lia) ?_
  rw [show (rss.take j).map eL++[eL rj]=(rss.take j++[rj]).map eL by rw [List.map_append];rfl]
  walk_at "rc"
  rw [gg]
  refine cR (by rw [List.length_map,List.length_map,ld,List.length_append,List.length_singleton];lia) ?_
  rw [<- List.map_append]
  walk_at "rc"
  exact ⟨_,rfl,fin _ _ (by simp) (by rw [List.length_append,ld,List.length_append,List.length_singleton];lia) (fun r hr=>(List.mem_append.mp hr).elim (fun hr=>(List.mem_append.mp hr).elim (mt r) (m1 r)) (md _ r)) (h2.le (by lia))⟩
 ·walk_at "rc"
  refine bj rfl rfl al ?_
  walk_at "rc"
  refine bf (fun c=>?_) (fun c=>?_)
  ·walk_at "rc"
   refine bj rfl rfl al ?_
   walk_at "rc"
   refine ⟨k,bo,st,z,rfl,hk,pz.1,by have:=pz.2;lia,?_⟩
   walk_at "rc"
   refine cR (ds:=rss.map eL) (es:=[eL (nx k bo st z)]) (by rw [List.length_map,List.length_singleton];lia) ?_
   rw [show rss.map eL++[eL (nx k bo st z)]=(rss++[nx k bo st z]).map eL by rw [List.map_append];rfl]
   walk_at "rc"
   refine ⟨_,rfl,fin _ _ (by simp) (by rw [List.length_append,List.length_singleton];lia) (fun r hr=>(List.mem_append.mp hr).elim .inl fun hr=>.inr ?_) (h2.le (by lia))⟩
   rw [List.mem_singleton.mp hr]
   exact ⟨uY hk pz.1,by have:=uX (bo:=bo) (st:=st) hk z;have:=pz.2;lia⟩
  ·walk_at "rc"
   exact ⟨_,rfl,fin rss _ hne0 (by lia) (fun r hr=>.inl hr) (h2.le (by lia))⟩
 ·walk_at "rc"
  refine lj (aW (j:=j) hja') ?_
  walk_at "rc"
  refine cR (ds:=rss.map eL) (es:=[eL rj]) (by rw [List.length_map,List.length_singleton];lia) ?_
  rw [show rss.map eL++[eL rj]=(rss++[rj]).map eL by rw [List.map_append];rfl]
  walk_at "rc"
  exact ⟨_,rfl,fin _ _ (by simp) (by rw [List.length_append,List.length_singleton];lia) (fun r hr=>(List.mem_append.mp hr).elim .inl (m1 r)) (h2.le (by lia))⟩
 ·walk_at "rc"
  refine lj (aW (j:=j) hja') ?_
  obtain ⟨tt,et,hts⟩:=yB rss (j+1) (j+2)
  have ltt:=hts.length_le
  walk_at "rc"
  rw [e1,e2,et]
  refine cR (ds:=tt.map eL) (es:=[eL rj]) (by rw [List.length_map,List.length_singleton];lia) ?_
  rw [show tt.map eL++[eL rj]=(tt++[rj]).map eL by rw [List.map_append];rfl]
  walk_at "rc"
  refine kU (Nat.le_of_ble_eq_true rfl) ?_
  dsimp only [List.set]
  walk_at "rc"
  rw [gc]
  refine cR (by rw [List.length_map,List.length_map,List.length_append,List.length_singleton];lia) ?_
  rw [<- List.map_append]
  walk_at "rc"
  rw [e2,gg]
  refine cR (by rw [List.length_map,List.length_map,ld,List.length_append,List.length_append,List.length_singleton];lia) ?_
  rw [<- List.map_append]
  walk_at "rc"
  exact ⟨_,rfl,fin _ _ (by simp) (by rw [List.length_append,ld,List.length_append,List.length_append,List.length_singleton];lia) (fun r hr=>(List.mem_append.mp hr).elim (fun hr=>(List.mem_append.mp hr).elim (mt r) fun hr=>(List.mem_append.mp hr).elim (fun hr=>.inl (hts.mem hr)) (m1 r)) (md _ r)) (h2.le (by lia))⟩
 ·walk_at "rc"
  refine ⟨_,7,rfl,h2,by lia,by decide,by decide,fun pn3 r3 h3 _ _=>?_⟩
  walk_at "rc"
  refine ⟨_,7,rfl,h3,by lia,by decide,by decide,fun pn4 r4 h4 _ _=>?_⟩
  walk_at "rc"
  refine bj rfl rfl (aW (j:=j) hja') ?_
  walk_at "rc"
  change dN true (eL rj) (eL []) _
  refine yC b9 ?_
  walk_at "rc"
  refine oN (fun S'=>∃cx cy v7 v8,S'=[.pen (some a) pn4,.fre (rl k bo st),.fre (.lst (rss.map eL)),.val (.int 5),.val (.int j),.no,.val (eT [cx,cy]),v7,v8,.no]) ?_ ?_ ?_
  ·rintro S' ⟨cx,cy,v7,v8,rfl⟩
   walk_at "rc"
   refine bj rfl rfl (aW (j:=j) hja') ?_
   walk_at "rc"
   have pj:=rs.1 rj hjm
   refine cE (xs:=rj) (en:=eT) (f:=eT) (p:=fun m=>decide (m≠[cx,cy])) (by have:=pj.2;lia) (fun m hm A B hA hB=>?_) ?_
   ·dsimp only [bA,List.replicate,List.map_cons,List.map_nil,List.cons_append,List.nil_append]
    walk_at "rd"
    by_cases he:m=[cx,cy]
    ·refine fI dQ he ?_
     walk_at "rc"
     exact hB _ rfl (decide_eq_false fun z=>z he)
    ·refine gX dQ he ?_
     walk_at "rc"
     exact hA _ rfl (decide_eq_true he)
   have hfl:=List.length_filter_le (fun m=>decide (m≠[cx,cy])) rj
   have hfp:∀m∈rj.filter fun m=>decide (m≠[cx,cy]),Pr m:=fun m hm=>pj.1 m (List.mem_filter.mp hm).1
   generalize rj.filter (fun m=>decide (m≠[cx,cy]))=ms at hfl hfp
   walk_at "rc"
   refine bj rfl rfl (aW (j:=j) hja') ?_
   walk_at "rc"
   refine oN (fun S'=>∃ms:List (List Int),S'=[.pen (some a) pn4,.fre (rl k bo st),.fre (.lst (rss.map eL)),.val (.int 5),.val (.int j),.no,.val (eT [cx,cy]),v7,v8,.own (ms.map eT)]/\ms.length<=61/\∀m∈ms,Pr m) ?_ ?_ ?_
   ·rintro S' ⟨ms,rfl,hl1,hp1⟩
    walk_at "rc"
    refine fR (mss:=ms) rfl (fun m hm=>by obtain ⟨x,y,rfl⟩:=hp1 m hm;simp) ?_
    walk_at "rc"
    have hsr:∀r∈[srt ms],r∈rss\/Pc r:=fun r hr=>.inr (by rw [List.mem_singleton.mp hr];exact ⟨fun p hp=>hp1 p ((cB _).mem_iff.mp hp),by rw [(cB _).length_eq];lia⟩)
    rw [gc]
    refine cR (ds:=(rss.take j).map eL) (es:=[eL (srt ms)]) (by rw [List.length_map,List.length_singleton];lia) ?_
    rw [show (rss.take j).map eL++[eL (srt ms)]=(rss.take j++[srt ms]).map eL by rw [List.map_append];rfl]
    walk_at "rc"
    rw [e1,gg]
    refine cR (by rw [List.length_map,List.length_map,ld,List.length_append,List.length_singleton];lia) ?_
    rw [<- List.map_append]
    walk_at "rc"
    exact ⟨_,rfl,fin _ _ (by simp) (by rw [List.length_append,ld,List.length_append,List.length_singleton];lia) (fun r hr=>(List.mem_append.mp hr).elim (fun hr=>(List.mem_append.mp hr).elim (mt r) (hsr r)) (md _ r)) (h4.le (by lia))⟩
   ·intro nxk hn hc
    walk_at "rc"
    refine hn _ ⟨ms++[[cx,cy]],by rw [List.map_append];rfl,by rw [List.length_append,List.length_singleton];have:=pj.2;lia,fun m hm=>?_⟩
    rcases List.mem_append.mp hm with hm | hm
    ·exact hfp m hm
    ·rw [List.mem_singleton.mp hm];exact ⟨_,_,rfl⟩
   ·intro nxk hn hc
    walk_at "rc"
    exact hn _ ⟨ms,rfl,by have:=pj.2;lia,hfp⟩
  ·intro nxk hn hr
   obtain ⟨c,r',rfl⟩:=List.exists_cons_of_ne_nil hr
   have hpr:Pr c:=(rs.pcs.1 _ hjm).1 c List.mem_cons_self
   obtain ⟨x,y,rfl⟩:=hpr
   walk_at "rc"
   refine bj rfl rfl (aW (j:=j) hja') ?_
   walk_at "rc"
   refine bj rfl rfl (aW (xs:=List.map eT ([x,y]::r')) (j:=0) rfl) ?_
   walk_at "rc"
   exact hn _ ⟨_,_,_,_,rfl⟩
  ·intro nxk hn hr
   walk_at "rc"
   exact hn _ ⟨_,_,_,_,rfl⟩
 ·rw [decide_eq_false (show ¬w=0 by lia)]
  walk_at "rc"
  rw [decide_eq_false (show ¬w=1 by lia)]
  walk_at "rc"
  rw [decide_eq_false (show ¬w=2 by lia)]
  walk_at "rc"
  rw [decide_eq_false (show ¬w=3 by lia)]
  walk_at "rc"
  rw [decide_eq_false (show ¬w=4 by lia)]
  walk_at "rc"
  rw [decide_eq_false (show ¬w=5 by lia)]
  walk_at "rc"
  exact ⟨_,rfl,fin rss _ hne0 (by lia) (fun r hr=>.inl hr) (h2.le (by lia))⟩
theorem vz (S:Src K mg "_law_other" lD) (T:Txt mg) (e0_:Has P w K mg base 1 "_law_draw" ["_law_pen_here","_law_many"] (spI K 0 fZ)):Has P w K mg base 2 "_law_other" ["_law_pen_here","_law_due_here"] (spI K 0 vy):=by
 refine jT 0 S eE (by walk_at "2") (fun ns ds R zq1=>by obtain ⟨_,_,e,_⟩:=zq1;rw [e];rfl) fun f cdv A outer s H E hr=>⟨_,_,(ah (aG (i:=2) eE.nd rfl (Or.inl rfl) (aM e0_ hr (aa (ab 0 (pv 0)) (aa ae af))))
  (ah (aG (i:=3) eE.nd rfl (Or.inl rfl) (ak aX az (aM e0_ hr (aa (ab 0 (pv 0)) (aa ae af))) ae))
  (ah (aQ (aD bg bT (ab 2 (pv 2)) ae (ay _)) (ai (aw (ao (aa bw af)))) aE)
  (ah (aQ (aD bg bT (ab 2 (pv 2)) ae (ay _)) (ai (aw (ao (aa bw (aa (ak aX az (aM e0_ hr (aa (ab 0 (pv 0)) (aa ae af))) ae) af))))) aE)
  (ah (aQ (aD bg bT (ab 2 (pv 2)) ae (ay _)) (ah (aG (i:=4) eE.nd rfl (Or.inl rfl) (ao (aa (ak aX az (aM e0_ hr (aa (ab 0 (pv 0)) (aa ae af))) ae) (aa (ak aX az (aM e0_ hr (aa (ab 0 (pv 0)) (aa ae af))) ae) af))))
  (ai (aw (ao (aa bw (aa (ak aX az (aM e0_ hr (aa (ab 0 (pv 0)) (aa ae af))) ae) (aa (aM e0_ hr (aa (ab 0 (pv 0)) (aa ae af))) (aa (aF (ab 4 (pv 4))) af)))))))) aE)
  (ah (aQ (gV (gU (aD bg bT (aq rfl (ab 1 (pv 1)) ae (fun _ _=>rfl)) bw (ay _)) (iT (aD iF az (ab 2 (pv 2)) ae (ay _))))) (ai (aw (aF (ab 1 (pv 1))))) aE)
  (ah (aQ (aD bg bT (aq rfl (ab 1 (pv 1)) ae (fun _ _=>rfl)) bw (ay _)) (ai (aw (ao (aa bw (aa (ak aJ az (aq rfl (ab 1 (pv 1)) ae (fun _ _=>rfl)) (aq rfl (aB (aP (aa (aF (ab 3 (pv 3))) (aa (ak aX az (ak gm cu ae ae) ae) (aa (ak aX az (b6 bC ae) (aq rfl (ab 1 (pv 1)) ae (fun _ _=>rfl))) af))))) (aM e0_ hr (aa (ab 0 (pv 0)) (aa ae af))) (fun _ _=>rfl))) af))))) aE)
  (ah (aQ (aD bg bT (ab 2 (pv 2)) ae (ay _)) (ai (aw (ao (aa bw (aa (ak aJ az (aq rfl (ab 1 (pv 1)) ae (fun _ _=>rfl)) (ab 3 (pv 3))) (aa (ak aX az (aq rfl (ab 1 (pv 1)) ae (fun _ _=>rfl)) (ab 3 (pv 3))) (aa (aF (aq rfl (ab 1 (pv 1)) ae (fun _ _=>rfl))) af))))))) aE)
  (ah (aQ (aD bg bT (ab 2 (pv 2)) ae (ay _)) (ai (aw (ao (aa bw (aa (ak aX az (b6 bC ae) (aM e0_ hr (aa (ab 0 (pv 0)) (aa ae af)))) (aa (ak aJ az (ak aJ az (ak aJ az (aq rfl (ab 1 (pv 1)) ae (fun _ _=>rfl)) (aq rfl (ab 1 (pv 1)) ae (fun _ _=>rfl))) ae) (aM e0_ hr (aa (ab 0 (pv 0)) (aa ae af)))) (aa (aF (aq rfl (ab 1 (pv 1)) ae (fun _ _=>rfl))) af))))))) aE)
  (ah (aQ (aD bg bT (ab 2 (pv 2)) ae (ay _)) (ai (aw (ao (aa bw (aa (ak aJ az (ak aJ az (aq rfl (ab 1 (pv 1)) ae (fun _ _=>rfl)) (aq rfl (ab 1 (pv 1)) ae (fun _ _=>rfl))) (aM e0_ hr (aa (ab 0 (pv 0)) (aa ae af)))) (aa (ak aX az ae (aM e0_ hr (aa (ab 0 (pv 0)) (aa ae af)))) (aa (ao (aa ae (aa ae af))) af))))))) aE)
  (ah (aG (i:=5) eE.nd rfl (Or.inl rfl) (ak aX az (ak aJ az (aq rfl (aq rfl (ab 1 (pv 1)) ae (fun _ _=>rfl)) ae (fun _ _=>rfl)) (aM e0_ hr (aa (ab 0 (pv 0)) (aa ae af)))) ae))
  (ai (aw (ao (aa bw (aa (aF (aq rfl (ab 1 (pv 1)) ae (fun _ _=>rfl))) (aa (ak aJ az (aq rfl (ab 1 (pv 1)) ae (fun _ _=>rfl)) (ab 3 (pv 3))) (aa (ao (aa (aF (ab 5 (pv 5))) (aa (ak aJ az (aq rfl (aq rfl (ab 1 (pv 1)) ae (fun _ _=>rfl)) ae (fun _ _=>rfl)) (aM e0_ hr (aa (ab 0 (pv 0)) (aa ae af)))) af))) af)))))))))))))))))),?_⟩
 rintro a pn ds es R hl ⟨b,x,e,hx,hpn,hb,q⟩
 obtain rfl:ds=[]:=List.eq_nil_of_length_eq_zero hl
 obtain rfl:es=[fE x]:=e
 walk_at "sl"
 walk_at "rd"
 refine ⟨b,8,rfl,hpn,by lia,by decide,by decide,fun pn1 w h1 w0 w1=>?_⟩
 walk_at "rd"
 refine ⟨_,3,rfl,h1,by lia,by decide,by decide,fun pn2 o h2 o0 o1=>?_⟩
 walk_at "rd"
 refine bf (fun c=>?_) (fun c=>?_)
 ·walk_at "rd"
  exact ⟨_,rfl,q .on _ trivial (h2.le (by lia))⟩
 walk_at "rd"
 refine bf (fun c=>?_) (fun c=>?_)
 ·walk_at "rd"
  refine ⟨_,13,rfl,h2,by lia,by decide,by decide,fun pn3 r h3 _ _=>?_⟩
  walk_at "rd"
  exact ⟨_,rfl,q (.gone (r-2)) _ trivial (h3.le (by lia))⟩
 walk_at "rd"
 refine bf (fun c=>?_) (fun c=>?_)
 ·walk_at "rd"
  refine ⟨_,3,rfl,h2,by lia,by decide,by decide,fun pn3 r3 h3 _ _=>?_⟩
  walk_at "rd"
  refine ⟨_,3,rfl,h3,by lia,by decide,by decide,fun pn4 r4 h4 _ _=>?_⟩
  walk_at "rd"
  refine ⟨_,12,rfl,h4,by lia,by decide,by decide,fun pn5 r5 h5 _ _=>?_⟩
  walk_at "rd"
  refine ⟨_,6,rfl,h5,by lia,by decide,by decide,fun pn6 r6 h6 _ _=>?_⟩
  walk_at "rd"
  exact ⟨_,rfl,q (.comes (r5-1) r6 [r3-1,r4-1]) _ ⟨_,_,rfl⟩ (h6.le (by lia))⟩
 cases x with
 | on=>
  dsimp only [fE]
  walk_at "rc"
  exact ⟨_,rfl,q .on _ trivial (h2.le (by lia))⟩
 | gone t=>
  dsimp only [fE]
  walk_at "rc"
  refine bf (fun c=>?_) (fun c=>?_)
  ·walk_at "rc"
   exact ⟨_,rfl,q (.gone t) _ trivial (h2.le (by lia))⟩
  walk_at "rc"
  refine ⟨_,3,rfl,h2,by lia,by decide,by decide,fun pn3 r h3 r0 r3=>?_⟩
  walk_at "rc"
  obtain ⟨u,hu⟩:∃u:Int,atI [D.int (o-1),D.int (10 ^ 60-99),D.int (-1-t)] r=some (.int u):=by
   rcases (by lia:r=0\/r=1\/r=2) with rfl | rfl | rfl
   ·exact ⟨_,rfl⟩
   ·exact ⟨_,rfl⟩
   ·exact ⟨_,rfl⟩
  refine bj rfl rfl hu ?_
  walk_at "rc"
  exact ⟨_,rfl,q (.gone (t+u)) _ trivial (h3.le (by lia))⟩
 | comes m n v=>
  obtain ⟨dx,dy,rfl⟩:=hx
  dsimp only [fE]
  walk_at "rc"
  refine bf (fun c=>?_) (fun c=>?_)
  ·walk_at "rc"
   exact ⟨_,rfl,q (.comes m n [dx,dy]) _ ⟨_,_,rfl⟩ (h2.le (by lia))⟩
  walk_at "rc"
  refine bf (fun c=>?_) (fun c=>?_)
  ·walk_at "rc"
   exact ⟨_,rfl,q (.comes (m+(o-1)) (n-(o-1)) [dx,dy]) _ ⟨_,_,rfl⟩ (h2.le (by lia))⟩
  walk_at "rc"
  refine bf (fun c=>?_) (fun c=>?_)
  ·walk_at "rc"
   refine ⟨_,2,rfl,h2,by lia,by decide,by decide,fun pn3 r3 h3 _ _=>?_⟩
   walk_at "rc"
   refine ⟨_,2,rfl,h3,by lia,by decide,by decide,fun pn4 r4 h4 _ _=>?_⟩
   walk_at "rc"
   exact ⟨_,rfl,q (.comes (-1-r3) (m+n+1+r4) [dx,dy]) _ ⟨_,_,rfl⟩ (h4.le (by lia))⟩
  walk_at "rc"
  refine bf (fun c=>?_) (fun c=>?_)
  ·walk_at "rc"
   refine ⟨_,2,rfl,h2,by lia,by decide,by decide,fun pn3 r3 h3 _ _=>?_⟩
   walk_at "rc"
   refine ⟨_,2,rfl,h3,by lia,by decide,by decide,fun pn4 r4 h4 _ _=>?_⟩
   walk_at "rc"
   exact ⟨_,rfl,q (.comes (m+n+r3) (0-r4) [0,0]) _ ⟨_,_,rfl⟩ (h4.le (by lia))⟩
  walk_at "rc"
  refine ⟨_,3,rfl,h2,by lia,by decide,by decide,fun pn3 r3 h3 _ _=>?_⟩
  walk_at "rc"
  refine ⟨_,2,rfl,h3,by lia,by decide,by decide,fun pn4 r4 h4 _ _=>?_⟩
  walk_at "rc"
  exact ⟨_,rfl,q (.comes m (n+(o-1)) [dx+r3-1,dy+r4]) _ ⟨_,_,rfl⟩ (h4.le (by lia))⟩
end
end My
namespace My
open PySem L2 VL
theorem pR (k:Int) (bo sy:List Int):flat (rl k bo sy)=true:=by
 show (true&&(flats (bo.map .int)&&(flats (sy.map .int)&&true)))=true
 rw [bu,bu]
 rfl
theorem FW (b:Bool):(if true=true then !(pd (D.bl b)).eqv (pd (D.bl b)) else (pd (D.bl b)).eqv (pd (D.bl b)))=false:=by cases b <;> rfl
theorem yE {t:VTS} {W:bh} (P:List Sl->Prop) (fin:∀S',P S'->W.nx S') (h:∀nx,(∀S',P S'->nx S')->t ⟨nx,W.rt,W.bk,W.ct⟩ S):t W S:=h W.nx fin
section
variable {P:Program} {w:World} {K:PySem.W.Frag} {mg:Str->Option Value} {base:Heap}
theorem CF (S:Src K mg "law" yn) (T:Txt mg) (e24_:Has P w K mg base 1 "_law_pen" ["_law_script","_law_k"] (spP K E6)) (e8_:Has P w K mg base 2 "_law_rule" ["_law_pen_here"] (spI K 0 zI)) (e15_:Has P w K mg base 3 "_law_picture" ["_law_pen_here"] (spI K 0 Fd)) (e0_:Has P w K mg base 1 "_law_draw" ["_law_pen_here","_law_many"] (spI K 0 fZ)) (e19_:Has P w K mg base 4 "_law_rows" ["_law_told","_law_live","_law_many"] (spG K zM)) (e22_:Has P w K mg base 3 "_law_spoilt" ["_law_pen_here","_law_told","_law_rows_here"] (spH K pQ)) (e17_:Has P w K mg base 2 "_law_other" ["_law_pen_here","_law_due_here"] (spI K 0 vy)) (e1_:Has P w K mg base 2 "_law_next" ["_law_told","_law_live"] (spP K ju)) (e9_:Has P w K mg base 6 "bears_out" ["rule","rows","told"] (spP K jv)) (e29_:Has P w K mg base 4 "_law_due" ["_law_told","_law_rows_here","_law_due_here"] (spP K jv)):Has P w K mg base 7 "law" ["_law_script"] (spP K yo):=by
 refine bM S dC (by walk_at "1") (fun ds R zq1=>by obtain ⟨_,e,_⟩:=zq1;rw [e];rfl) fun f cdv A outer s H E hr=>⟨_,_,(ah (b8 PassesOwn.never rfl (bO rfl T.range (aa ae af)) (aC (aA (i:=1) dC.nd rfl (Or.inl rfl) (Or.inl rfl))) (ah (wt (fun _ h=>bX (i:=2) dC.nd rfl (Or.inl rfl) h) (Di e24_ hr (aa (ab 0 (pv 0)) (aa (ab 1 (pv 1)) af))))
  (ah (aG (i:=3) dC.nd rfl (Or.inl rfl) (aM e8_ hr (aa (ab 2 (pv 2)) af)))
  (ah (yf (i:=4) (j:=5) (Cf e19_ hr (aa (aF (ab 3 (pv 3))) (aa (aM e15_ hr (aa (ab 2 (pv 2)) af)) (aa (aM e0_ hr (aa (ab 2 (pv 2)) (aa ae af))) af)))) (b7 (n:=2) rfl rfl (aI (aC (aA (i:=4) dC.nd rfl (Or.inl rfl) (Or.inl rfl))) (aI (aC (aA (i:=5) dC.nd rfl (Or.inl rfl) (Or.inl rfl))) bJ))))
  (ai (b8 PassesOwn.never rfl (bO rfl T.range (aa ae af)) (aC (aA (i:=6) dC.nd rfl (Or.inl rfl) (Or.inl rfl))) (ah (aG (i:=7) dC.nd rfl (Or.inl rfl) (Cs 2 e22_ hr (pv 2) (aa (aF (ab 3 (pv 3))) (aa (aT 4 (pv 4)) af))))
  (ah (aG (i:=8) dC.nd rfl (Or.inl rfl) (aM e17_ hr (aa (ab 2 (pv 2)) (aa (ab 5 (pv 5)) af))))
  (ah (aQ (gV (ng (aD bg bT (aq rfl (ab 5 (pv 5)) ae (fun _ _=>rfl)) bw (ay _)) (kG (aD bg bT (aM e0_ hr (aa (ab 2 (pv 2)) (aa ae af))) ae (ay _))))) (ah (aG (i:=7) dC.nd rfl (Or.inl rfl) (aB (cn rfl (aT 4 (pv 4)) (aB (aP (aa (bz e1_ hr (aa (ab 3 (pv 3)) (aa (aq rfl (ab 4 (pv 4)) (b6 bC ae) (fun _ _=>rfl)) af))) af))))))
  (ai (aG (i:=8) dC.nd rfl (Or.inl rfl) (ao (aa bw (aa (ak aJ az (aq rfl (ab 5 (pv 5)) ae (fun _ _=>rfl)) ae) (aa (aq rfl (ab 5 (pv 5)) ae (fun _ _=>rfl)) (aa (aq rfl (ab 5 (pv 5)) ae (fun _ _=>rfl)) af)))))))) aE)
  (ah (fG (ii:=9) (tg:=["_law_row"]) (cs:=[]) (ix:=[]) dC.nd rfl (Or.inl rfl) (Or.inl rfl) (aV (aj yn) ["_law_script","_law_k","_law_pen_here","_law_told","_law_rows_here","_law_shown","_law_turn","_law_some","_law_other_here","_law_handed","_law_found"] (by decide +kernel)) rfl (bD (by decide)) (by decide) (bE rfl (ab 7 (pv 7))) (fun _ _ _ _=>(aC (aA (i:=0) (show (["_law_row"]:List Str).Nodup by decide +kernel) rfl (Or.inl rfl) (by first | exact Or.inl rfl | exact Or.inr rfl)))) (fun _ _ _ _=>cW) (fun _ _ _ _=>(aB (oB rfl (by rfl) T.list_ (aa (ab 0 (pv 0)) af)))))
  (ah (aG (i:=10) dC.nd rfl (Or.inl rfl) (bz e9_ hr (aa (ab 3 (pv 3)) (aa (ab 9 (pv 9)) (aa (ab 8 (pv 8)) af)))))
  (ai (aQ (gV (gU (nh (kF (aO (Ds (K:=K) rfl) Dg (by rfl) T.isinstance_ jB (aa (ab 10 (pv 10)) (aa (C6 (vD (v:=.ty "bool") (by rfl) T.bool_ vU rfl) (fun _ _=>.ty _)) af))))) (gU (aD (dO (K:=K) rfl hr.units) cO (ab 10 (pv 10)) (bz e29_ hr (aa (ab 3 (pv 3)) (aa (ab 7 (pv 7)) (aa (ab 8 (pv 8)) af)))) (ay _)) (iT (aD (dO (K:=K) rfl hr.units) cO (ab 9 (pv 9)) (ab 7 (pv 7)) (ay _)))))) (ai (aw eU)) aE)))))))))))))
  (ai (aw eU))),?_⟩
 rintro ds R ⟨ns,rfl,hn,q⟩
 walk_at "sl"
 walk_at "rd"
 refine dR (fun i S=>∃v1 v2 v3 v4 v5 v6 v7 v8 v9 v10,S=[.val (.lst (ns.map .int)),v1,v2,v3,v4,v5,v6,v7,v8,v9,v10]) ⟨_,_,_,_,_,_,_,_,_,_,rfl⟩ ?_ ?_
 ·rintro i S2 hi ⟨v1,v2,v3,v4,v5,v6,v7,v8,v9,v10,rfl⟩
  have hi':i < 2:=hi
  walk_at "rd"
  rw [Int.zero_add]
  refine ⟨ns,i,rfl,by lia,fun x y=>⟨_,rfl,rfl,?_⟩⟩
  refine oE (ns:=[x,y,0]) rfl ?_
  walk_at "rd"
  refine ⟨0,rfl,⟨x,y,0,rfl,by lia,by lia⟩,by lia,fun k bo sy pn1 hk h0 hbo h1=>?_⟩
  walk_at "rd"
  refine cZ (pR k bo sy) ?_
  walk_at "rd"
  refine ⟨_,rfl,h1,by lia,fun xs pn2 hp hl h2=>?_⟩
  walk_at "rd"
  refine ⟨_,8,rfl,h2,by lia,by decide,by decide,fun pn3 r h3 r0 r8=>?_⟩
  walk_at "rd"
  refine ⟨k,bo,sy,xs,r,rfl,hk,r0,by lia,hp,by lia,fun ys z x rs hx=>?_⟩
  walk_at "rd"
  refine dR (fun j S=>∃pn v6 v7 v8 v9 v10,S=[.val (.lst (ns.map .int)),.val (.int i),.pen none pn,.val (rl k bo sy),.fre (eR (ys++[z])),.fre (fE x),v6,v7,v8,v9,v10]/\Pn (121+11*j) pn) ⟨_,_,_,_,_,_,rfl,h3.le (by lia)⟩ ?_ ?_
  ·rintro j S3 hj ⟨pn,v6,v7,v8,v9,v10,rfl,g1⟩
   have hj':j < 5:=hj
   walk_at "rd"
   refine cZ (pR k bo sy) ?_
   walk_at "rd"
   refine ⟨_,k,bo,sy,ys,z,rfl,hk,rs,g1,by lia,fun us pn4 u0 hus h4=>?_⟩
   walk_at "rd"
   refine ⟨_,x,rfl,hx,h4,by lia,fun x' pn5 hx' h5=>?_⟩
   walk_at "rd1"
   walk_at "rd1"
   walk_at "rd1"
   walk_at "rd1"
   refine yE (fun S'=>∃us x' pn,us≠[]/\Pcs us/\Fok x'/\Pn (121+11*(j+1)) pn/\S'=[.val (.lst (ns.map .int)),.val (.int i),.pen none pn,.val (rl k bo sy),.fre (eR (ys++[z])),.fre (fE x),.val (.int (0+(j:Int))),.val (eR us),.val (fE x'),v9,v10]) ?_ fun nxk hn=>?_
   ·rintro S' ⟨us,x',pn,u0,hus,hx',g5,rfl⟩
    obtain ⟨ts,t,rfl⟩:∃ts t,us=ts++[t]:=⟨us.dropLast,us.getLast u0,(List.dropLast_concat_getLast u0).symm⟩
    unfold eR
    walk_at "rd"
    refine comp_map (xs:=ts++[t]) (en:=eL) (f:=eL) (by have:=hus.2;lia) (fun m hm A B hA=>?_) ?_
    ·dsimp only [bA,List.replicate,List.map_cons,List.map_nil,List.cons_append,List.nil_append]
     walk_at "rd"
     refine sO rfl (d0 _) ?_
     walk_at "rd"
     exact hA _ rfl
    walk_at "rd"
    refine pB1 hk h0 hx' hus ?_
    walk_at "rc"
    refine pB1 hk h0 hx' hus ?_
    walk_at "rc"
    rw [FW]
    walk_at "rc"
    refine fI b9.lst (x:=ts++[t]) (y:=ts++[t]) rfl ?_
    walk_at "rc"
    exact ⟨_,_,_,_,_,_,rfl,g5⟩
   ·cases x with
    | on=>
     dsimp only [fE]
     walk_at "rc"
     exact hn _ ⟨us,x',_,u0,hus,hx',h5.le (by lia),rfl⟩
    | gone t=>
     dsimp only [fE]
     walk_at "rc"
     exact hn _ ⟨us,x',_,u0,hus,hx',h5.le (by lia),rfl⟩
    | comes m n v=>
     dsimp only [fE]
     walk_at "rc"
     refine ⟨_,8,rfl,h5,by lia,by decide,by decide,fun pn6 r6 h6 _ _=>?_⟩
     walk_at "rc"
     refine bf (fun c=>?_) (fun c=>?_)
     ·have pz:=rs.1 z (List.mem_append_right _ List.mem_cons_self)
      walk_at "rc"
      refine bj rfl rfl (kn ys z) ?_
      walk_at "rc"
      refine ⟨k,bo,sy,z,rfl,hk,pz.1,by have:=pz.2;lia,?_⟩
      walk_at "rc"
      refine cR (ds:=(ys++[z]).map eL) (es:=[eL (nx k bo sy z)]) (by rw [List.length_map,List.length_singleton];have:=rs.2;lia) ?_
      rw [show (ys++[z]).map eL++[eL (nx k bo sy z)]=((ys++[z])++[nx k bo sy z]).map eL by rw [List.map_append (l₁:=ys++[z])];rfl]
      walk_at "rc"
      refine hn _ ⟨(ys++[z])++[nx k bo sy z],.comes (m+1) n v,_,by simp,⟨fun r hr=>?_,by have:=rs.2;rw [List.length_append,List.length_singleton];lia⟩,hx,h6.le (by lia),rfl⟩
      rcases List.mem_append.mp hr with hr | hr
      ·exact rs.pcs.1 r hr
      ·rw [List.mem_singleton.mp hr]
       exact ⟨uY hk pz.1,by have:=uX (bo:=bo) (st:=sy) hk z;have:=pz.2;lia⟩
     ·walk_at "rc"
      exact hn _ ⟨us,x',_,u0,hus,hx',h6.le (by lia),rfl⟩
  ·rintro S3 ⟨pn,v6,v7,v8,v9,v10,rfl,g1⟩
   exact ⟨_,_,_,_,_,_,_,_,_,_,rfl⟩
 ·rintro S2 ⟨v1,v2,v3,v4,v5,v6,v7,v8,v9,v10,rfl⟩
  walk_at "rd"
  exact q
end
end My
namespace My
open PySem L2 VL
theorem CG {l:PySem.W.OpenLaw} {w:World} {h:Heap} {mg:Str->Option Value} {fa:Addr} {a_OFFSETS:Addr} (X:K.In h) (G:h.Ns mainGlobals mg) (hfa:mg "law"=some (.ref fa))
  (S0:Src K mg "_law_pen" uL) (S1:Src K mg "_law_draw" nZ) (S2:Src K mg "offsets" jk) (S3:Src K mg "comes" nV) (S4:Src K mg "is_quiet" jm) (S5:Src K mg "refuse_loud" ef) (S6:Src K mg "counts" lw) (S7:Src K mg "watched" jn) (S8:Src K mg "living_next" cG) (S9:Src K mg "next_turn" gM) (S10:Src K mg "moved" lq) (S11:Src K mg "box_of" jh) (S12:Src K mg "at_nought" gK) (S13:Src K mg "key_of" nX) (S14:Src K mg "are_turns" gN) (S15:Src K mg "all_live_unlike" cq) (S16:Src K mg "ends_as_told" eh) (S17:Src K mg "bears_out" gO) (S18:Src K mg "_law_number" jo) (S19:Src K mg "_law_rule" jq) (S20:Src K mg "_law_cells" iA) (S21:Src K mg "_law_picture" eJ) (S22:Src K mg "_law_steps" lz) (S23:Src K mg "_law_next" lA) (S24:Src K mg "_law_move" lB) (S25:Src K mg "_law_pairs" lC) (S26:Src K mg "_law_due" pC) (S27:Src K mg "_law_rows" n5) (S28:Src K mg "_law_spoilt" fY) (S29:Src K mg "_law_other" lD) (S30:Src K mg "law" yn)
  (n_OFFSETS:PySem.W.nsIn K mainGlobals "OFFSETS"=some (some (.ref a_OFFSETS))) (k_OFFSETS:okD K a_OFFSETS rows=true)
  (z0:PySem.W.nsIn K mainGlobals "len"=some none) (z1:PySem.W.nsIn K mainGlobals "range"=some none) (z2:PySem.W.nsIn K mainGlobals "abs"=some none) (z3:PySem.W.nsIn K mainGlobals "isinstance"=some none) (z4:PySem.W.nsIn K mainGlobals "int"=some none) (z5:PySem.W.nsIn K mainGlobals "bool"=some none) (z6:PySem.W.nsIn K mainGlobals "list"=some none) (z7:PySem.W.nsIn K mainGlobals "tuple"=some none) (z8:PySem.W.nsIn K mainGlobals "sorted"=some none) (z9:PySem.W.nsIn K mainGlobals "max"=some none) (z10:PySem.W.nsIn K mainGlobals "min"=some none) (z11:PySem.W.nsIn K mainGlobals "all"=some none) (z12:PySem.W.nsIn K mainGlobals "any"=some none) (z13:PySem.W.nsIn K mainGlobals "set"=some none) (z14:PySem.W.nsIn K mainGlobals "sum"=some none) (z15:PySem.W.nsIn K mainGlobals "str"=some none) (z16:PySem.W.nsIn K mainGlobals "dict"=some none) (z17:PySem.W.nsIn K mainGlobals "zip"=some none) :
  ∃fd:FuncData,(∀(s:Shared) (v:Value),BindsTo s fd ⟨[v],[]⟩ [("_law_script",v)])/\∀base:Heap,K.In base->base.Ns mainGlobals mg->jy l.prog w K mg base CX0 7 fa fd ["_law_script"] (spP K yo):=by
 have no:=fun {n:Str} (z:PySem.W.nsIn K mainGlobals n=some none)=>PySem.W.mg_none_of X G z
 have T:Txt mg:=⟨no z0,no z1,no z2,no z3,no z4,no z5,no z6,no z7,no z8,no z9,no z10,no z11,no z12,no z13,no z14,no z15,no z16,no z17⟩
 refine vW S30 hfa (fun _ _ _ _ _ _ _=>rfl) fun base=>?_
 have e24_:=Ct (P:=l.prog) (w:=w) (base:=base) S0 T
 have e0_:=yp (P:=l.prog) (w:=w) (base:=base) S1 T
 have e14_:=Cu (P:=l.prog) (w:=w) (base:=base) S2 T  (PySem.W.mg_of X G n_OFFSETS) k_OFFSETS
 have e26_:=uT (P:=l.prog) (w:=w) (base:=base) S3 T
 have e16_:=uU (P:=l.prog) (w:=w) (base:=base) S4 T
 have e3_:=yq (P:=l.prog) (w:=w) (base:=base) S5 T e16_
 have e21_:=qG (P:=l.prog) (w:=w) (base:=base) S6 T e14_
 have e10_:=oe (P:=l.prog) (w:=w) (base:=base) S7 T e21_
 have e11_:=E9 (P:=l.prog) (w:=w) (base:=base) S8 T e26_
 have e27_:=Fb (P:=l.prog) (w:=w) (base:=base) S9 T e3_ e11_ e10_
 have e2_:=vj (P:=l.prog) (w:=w) (base:=base) S10 T
 have e7_:=Cz (P:=l.prog) (w:=w) (base:=base) S11 T
 have e12_:=qK (P:=l.prog) (w:=w) (base:=base) S12 T e7_ e2_
 have e23_:=CA (P:=l.prog) (w:=w) (base:=base) S13 T e12_
 have e18_:=Fh (P:=l.prog) (w:=w) (base:=base) S14 T e27_
 have e6_:=Fi (P:=l.prog) (w:=w) (base:=base) S15 T e23_
 have e28_:=Fk (P:=l.prog) (w:=w) (base:=base) S16 T e6_ e2_
 have e9_:=Fj (P:=l.prog) (w:=w) (base:=base) S17 T e3_ e28_ e18_
 have e5_:=qJ (P:=l.prog) (w:=w) (base:=base) S18 T e0_
 have e8_:=yu (P:=l.prog) (w:=w) (base:=base) S19 T e0_
 have e13_:=u6 (P:=l.prog) (w:=w) (base:=base) S20 T e0_
 have e15_:=Cw (P:=l.prog) (w:=w) (base:=base) S21 T e13_ e5_
 have e20_:=u7 (P:=l.prog) (w:=w) (base:=base) S22 T
 have e1_:=u9 (P:=l.prog) (w:=w) (base:=base) S23 T e20_
 have e25_:=Fo (P:=l.prog) (w:=w) (base:=base) S24 T
 have e4_:=vw (P:=l.prog) (w:=w) (base:=base) S25 T e25_
 have e29_:=CD (P:=l.prog) (w:=w) (base:=base) S26 T e1_ e4_
 have e19_:=yD (P:=l.prog) (w:=w) (base:=base) S27 T e4_ e1_
 have e22_:=qO (P:=l.prog) (w:=w) (base:=base) S28 T e0_ e1_
 have e17_:=vz (P:=l.prog) (w:=w) (base:=base) S29 T e0_
 exact CF (P:=l.prog) (w:=w) (base:=base) S30 T e24_ e8_ e15_ e0_ e19_ e22_ e17_ e1_ e9_ e29_
theorem walk {l:PySem.W.OpenLaw} {q:Program} {loose:List Str} {XP:(Str->Option Value)->Heap->Prop} {YP:World->Heap->Prop} {d:DefRec} {K:Params->PySem.W.Frag} (hn:l.most=some 63) (hdf:d.params.defaults=[])
  (hY:∀(w:World) (h:Heap),YP w h->(K w.params).In h)
  (F:∀(w:World) (mg:Str->Option Value) (fa:Addr) (h:Heap),(K w.params).In h->h.Ns mainGlobals mg->mg d.name=some (.ref fa) ->
   ∃fd:FuncData,(∀(s:Shared) (u:Value),BindsTo s fd ⟨[u],[]⟩ [("_law_script",u)])/\∀base:Heap,(K w.params).In base->base.Ns mainGlobals mg->jy l.prog w (K w.params) mg base CX0 7 fa fd ["_law_script"] (spP (K w.params) yo)) :
  PySem.W.WalkO q loose XP YP l.row.toRowW d [] (fun f vs=>PySem.call f vs):=
 L2.vT (n:=63) (k:=7) (x:="_law_script") (CX:=fun _=>CX0) (sp:=fun w=>spP (K w.params) yo) hn (by decide) hdf ⟨rfl,by decide,by decide,rfl⟩ hY F
  (fun _ _ a ns hl _ hS=>⟨_,fun d=>d=.bl true,.cons (Rep.of_sqL hS trivial (fun _=>trivial) Reps.ints) .nil,⟨ns,rfl,hl,rfl⟩,fun d v H' e _ r=>by subst e;cases r;rfl⟩) fun _ _ _ _ _ z=>z
end My
def PySem.W.Fast.tw10895301255205306833:Unit:=()
def PySem.W.Fast.tw13810730471573047445:Unit:=()
def PySem.W.Fast.tw8363075189532049184:Unit:=()
def PySem.W.Fast.tw3404672050479322924:Unit:=()
def PySem.W.Fast.tw13784673076521190885:Unit:=()
def PySem.W.Fast.tw15818787776966389280:Unit:=()
def PySem.W.Fast.tw2373426335628772943:Unit:=()
def PySem.W.Fast.tw4561316286405311343:Unit:=()
def PySem.W.Fast.tw2424080954236351765:Unit:=()
def PySem.W.Fast.tw13212570915445706553:Unit:=()
def PySem.W.Fast.tw10510899046079672539:Unit:=()
open PySem PySem.W PyProof.Rows
set_option maxRecDepth 100000 in
set_option maxHeartbeats 0 in
theorem PySem.Challenge.cw_cellships_k22_papers_refused_holds : PySem.Challenge.rw_cellships_k22_papers_refused.Holds := by
 w_on;o_law;k_head;(case hw=>w_witness2)
 k_fill
 refine My.walk (l:=PySem.Challenge.rw_cellships_k22_papers_refused) rfl rfl (fun w h Y=>PySem.W.kIn_of Y) ?F
 case F=>
  intro w mg fa h KX G hmg
  refine' My.CG KX G hmg (L2.aU KX G ?a0 ?l0 ?c0 ?k0) (L2.aU KX G ?a1 ?l1 ?c1 ?k1) (L2.aU KX G ?a2 ?l2 ?c2 ?k2) (L2.aU KX G ?a3 ?l3 ?c3 ?k3) (L2.aU KX G ?a4 ?l4 ?c4 ?k4) (L2.aU KX G ?a5 ?l5 ?c5 ?k5) (L2.aU KX G ?a6 ?l6 ?c6 ?k6) (L2.aU KX G ?a7 ?l7 ?c7 ?k7) (L2.aU KX G ?a8 ?l8 ?c8 ?k8) (L2.aU KX G ?a9 ?l9 ?c9 ?k9) (L2.aU KX G ?a10 ?l10 ?c10 ?k10) (L2.aU KX G ?a11 ?l11 ?c11 ?k11) (L2.aU KX G ?a12 ?l12 ?c12 ?k12) (L2.aU KX G ?a13 ?l13 ?c13 ?k13) (L2.aU KX G ?a14 ?l14 ?c14 ?k14) (L2.aU KX G ?a15 ?l15 ?c15 ?k15) (L2.aU KX G ?a16 ?l16 ?c16 ?k16) (L2.aU KX G ?a17 ?l17 ?c17 ?k17) (L2.aU KX G ?a18 ?l18 ?c18 ?k18) (L2.aU KX G ?a19 ?l19 ?c19 ?k19) (L2.aU KX G ?a20 ?l20 ?c20 ?k20) (L2.aU KX G ?a21 ?l21 ?c21 ?k21) (L2.aU KX G ?a22 ?l22 ?c22 ?k22) (L2.aU KX G ?a23 ?l23 ?c23 ?k23) (L2.aU KX G ?a24 ?l24 ?c24 ?k24) (L2.aU KX G ?a25 ?l25 ?c25 ?k25) (L2.aU KX G ?a26 ?l26 ?c26 ?k26) (L2.aU KX G ?a27 ?l27 ?c27 ?k27) (L2.aU KX G ?a28 ?l28 ?c28 ?k28) (L2.aU KX G ?a29 ?l29 ?c29 ?k29) (L2.aU KX G ?a30 ?l30 ?c30 ?k30) ?n0 ?m0 ?z0 ?z1 ?z2 ?z3 ?z4 ?z5 ?z6 ?z7 ?z8 ?z9 ?z10 ?z11 ?z12 ?z13 ?z14 ?z15 ?z16 ?z17
  (case a0 | l0 | c0 | k0 | a1 | l1 | c1 | k1 | a2 | l2 | c2 | k2 | a3 | l3 | c3 | k3 | a4 | l4 | c4 | k4 | a5 | l5 | c5 | k5 | a6 | l6 | c6 | k6 | a7 | l7 | c7 | k7 | a8 | l8 | c8 | k8 | a9 | l9 | c9 | k9 | a10 | l10 | c10 | k10 | a11 | l11 | c11 | k11 | a12 | l12 | c12 | k12 | a13 | l13 | c13 | k13 | a14 | l14 | c14 | k14 | a15 | l15 | c15 | k15 | a16 | l16 | c16 | k16 | a17 | l17 | c17 | k17 | a18 | l18 | c18 | k18 | a19 | l19 | c19 | k19 | a20 | l20 | c20 | k20 | a21 | l21 | c21 | k21 | a22 | l22 | c22 | k22 | a23 | l23 | c23 | k23 | a24 | l24 | c24 | k24 | a25 | l25 | c25 | k25 | a26 | l26 | c26 | k26 | a27 | l27 | c27 | k27 | a28 | l28 | c28 | k28 | a29 | l29 | c29 | k29 | a30 | l30 | c30 | k30 | n0=>k_is)
  (case m0=>kernel_rfl)
  (case z0 | z1 | z2 | z3 | z4 | z5 | z6 | z7 | z8 | z9 | z10 | z11 | z12 | z13 | z14 | z15 | z16 | z17=>k_is)
#print axioms PySem.Challenge.cw_cellships_k22_papers_refused_holds
