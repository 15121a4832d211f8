import PyProof.Rows.All
import Wide.All
import OpenK.AllK
import Wide.FinOn
import Lean
import PyProof.EqAt
import PyProof.EqKinds
import PyProof.TupleCall
import PyProof.NeData
import PyProof.P3In
import PyProof.ListRange
import PyProof.TupleOfStr
import PyProof.Rows.SumAny
import PyProof.Rows.Range3
import PyProof.StrCalls
import PyProof.Rows.SetFrom
import PyProof.WalksMore
import PyProof.TupleOfSeq
import KE.KRevSl
import KE.KLam
import KE.KSortKey
import KE.KNestM
import OpenK.KOwn
import KE.KIsNot
import KE.KTryMore
import PyProof.DictTable
import PyProof.Rows.TupDisplay
import PyProof.ReprLen
import PyProof.ReprRoads
import KE.KDictOf
import PyProof.AttrMissHeap
import PyProof.NeKinds
import PyProof.ZipIter
import PyProof.DictCompW
import PyProof.DictItems
import PyProof.DictWalks
import PyProof.DictDisplay
import PyProof.ExcAttrAll.ValueError
import PyProof.TupleKey
import PyProof.IsRules
import KE.KDictList
import KE.KDictSum
import PyProof.FactsAll.set_1
import PyProof.FactsAll.set_2
import PySem.Challenge.RW_cellships_k23_whole_fates
open PySem renaming wpAny_bind → II, wpAny_pure → IK, Shared → IM, Value → IP, starEach → Jf, Program → Jp, sizeLine → JA, wpAny → JB, mainGlobals → JC, model → JD, World → JQ, wpAny_newObj_type → JX, Around → JY, bootBuiltins → J1, wpAny_holding → J5, sizeLine_eq → J7, wpAny_call_entry → J8, wpAny_mono → J9, mem_of_lookup → Ke, foldedSetIterable → Kh, compareOp → Kz, wpAny_standAt → KR, wpAny_callSpecial?_slot → KS, sysModules → KW, wpAny_dictEntries → K0, backTo → K8, assignEach → K9, wpAny_rule → La, NameKind → Lb, wpAny_setField_rec → Lc, wpAny_passesOwn → Lj, DictEntry → Ll, wpAny_setState_of → Lq, cLine → Lu, attributeBase → Lw, tupleKind_room_in1 → LB, intKind → LF, wpAny_dictEpoch → LH, wpAny_truthy_bool → LJ, behindInMarks → LL, FuncData → LN, ofAClassStatement → LQ, swapsWith → LW, wpAny_forIn_list → LY, codeAny → L0, wpAny_comprehension_free → L6, wpAny_Call_method_late → Mj, wpAny_isOneOf_itemiter → Mm, standAt → Mp, wpAny_field → Mq, sliceBounds → Ms, IsItemIter → Mx, wpAny_seqItems → MD, tupleKind → MF, wpAny_notOrdered_dict → ML, Scope → MO, wpAny_newFunctionEnv → MS, swapsWithSole → MT, swappedStores → MU, binaryOp → MV, compEnvC → MW, wpAny_attempt → MZ, HeapKind → M5, wpAny_execs_nil → M7, letOwnedTupleGo → M8, keywordEach → Nb, Keyword → Nc, wpAny_Call_Name_kw → Nr, atKey → NH, wpAny_fieldsOf → NK, firstArgMember → NL, wpAny_truthy_list → NS, wpAny_pyIter_slot → NZ, holding → N5, bindArgs → N7, wpAny_newList → Oa, hashByValue → Od, assign → Oe, pyNext → Of, wpAny_isInstance → Oj, wpAny_pyNext_range_end → Om, wpAny_pyIter_rangeiter → On, wpAny_Assign_Subscript → Ot, codeAny_mono → Oy, theTreesLotGoes → OC, scanBound → OE, codeAny_builtin → OF, wpAny_isOneOf_keyiter → OI, wpAny_isSame_ref_self → OM, wpAny_specialOf → OO, intKind_is → OQ, wpAny_newTuple → O3, evalPairs_cons → O5, IsRangeIter → O6, wpAny_raiseNew_none → Pf, assignInOrder → Pg, wpAny_pyIter_range → Ph, backToKw → Po, wpAny_setItem_heap → Pq, wpAny_getItem_heap → Pt, setSearchFrom → Pw, eqIsQuiet → Py, wpAny_assign_Name → PH, wpAny_pyIter_list → PK, BindsTo → PL, list_append → PN, callerA → PP, valueAt → PQ, searchCouldBeSeen → P6, wpAny_storeSet_of → P8, wpAny_typeOf → Qd, seqIndex_neg → Qe, codeAny_loop → Qf, isTrue → Qh, getItem → Qi, PassesOwn → Qj, IsPart → Qk, seqIndex_of → Ql, noteFrame → Qm, wpAny_noted → Qn, wpAny_mkInt → Qp, builtinsNs → Qs, wpAny_Name → Qt, pyIter → Qu, call → Qx, reduceHash → Qy, hashInt → Qz, Model → QB, setItem → QC, bindName → QE, compPost → QH, compTurn → QI, truthy → QJ, bindL → QK, bindC → QL
open PySem.W renaming Frag → IJ, nsIn → J2, kia_one → Ka, fnOf → KC, keepIn → MA, kitOne → ND, codeIn → NF, methodObj → NQ, kitx_list → NT, kitx_dict → NU, cellsFrom_some → Oq, instObj → Ov, OpenLaw → OA, lookIn → O0, kitx_tuple → Pi
open List renaming getElem?_eq_getElem → IL, mem_cons_self → IQ, length_map → IR, mem_append_right → IU, mem_cons_of_mem → IZ, size_toArray → Jb, map_append → Jc, map_cons → Jd, getElem?_map → Jh, length_append → Ji, getElem?_append_left → Jj, append_assoc → Jm, getElem?_append_right → Jq, map_map → Jt, take_append_drop → Ju, mem_of_getElem? → Jy, find?_cons → JH, getElem?_set_self → JJ, map_congr_left → JL, set_cons_zero → JM, set_cons_succ → JN, getElem?_set_ne → JO, replicate → JP, range → JS, cons_append → JU, map_nil → JW, length_cons → JZ, mem_append_left → J3, nil_append → J6, length_singleton → Kc, length_take → Kf, eq_nil_of_length_eq_zero → Kg, length_range → Kj, not_mem_nil → Ko, getElem?_cons_succ → Kq, filterMap_cons → Ks, mem_cons → KA, drop_eq_nil_of_le → KG, drop_eq_getElem_cons → KI, append_nil → KL, perm_append_comm → KN, mem_append → KO, mem_singleton → KP, take_length → KQ, pairwise_map → KZ, length → K4, getElem_of_mem → K5, pairwise_iff_getElem → Lh, pairwise_append → Li, ext_getElem? → Lo, nodup_append → Lr, nodup_nil → Lz, length_replicate → LG, getD_eq_getElem?_getD → LR, mem_of_mem_take → LU, mem_of_mem_drop → LV, all_eq_true → LZ, eq_of_mem_replicate → L8, getElem?_replicate → Md, length_nil → Mh, take_of_length_le → Ml, pairwise_lt_range → Mn, length_filter_le → MM, dropLast_concat_getLast → M6, length_set → Na, nodup_cons → Nd, foldl_cons → Nf, count_cons → Ni, range_succ → Nj, perm_ext_iff_of_nodup → Np, pairwise_cons → Nu, filter_append → Nv, mem_map → NA, getElem_range → NC, extract_eq_take_drop → NI, drop_zero → NJ, getElem?_zip_eq_some → NN, length_erase_of_mem → N0, flatMap_cons → N1, count_append → N2, getElem?_cons_zero → Oc, length_drop → Og, length_pos_of_mem → Ou, of_mem_zip → Oz, forIn_cons → OB, getElem?_eq_none → ON, mem_filter → OP, getElem?_of_mem → OR, getElem?_append → OU, mem_erase_of_ne → OY, take_succ_cons → O9, filterMap_map → Pj, zip_cons_cons → Pp, all_cons → Pz, take_sublist → PM, take_add_one → PV, foldl_append → P0, getElem_take → P1, getElem_drop → P3, getElem?_set → P5, filter_congr → Qa, idxOf? → Qo, map → QG
open PySem.Heap renaming get?_push_of_some → IN, get?_push_size → Je, lt_size → Jg, get?_update_other → K6, SameBut → L5, size_push → MB, get?_update_self → MG
open Nat renaming le_refl → IS, le_of_ble_eq_true → Jn, lt_of_lt_of_le → Js, ne_of_lt → JG, zero_le → Kk, not_lt_zero → Kn, lt_irrefl → Kp, le_trans → KB, lt_trichotomy → LO, zero_add → L7, pow_succ → Ma, lt_or_ge → Mb, add_assoc → Mg, le_succ → Mt, mod_lt → Mz, mul_le_mul → ME, le_of_eq → MJ, mod_eq_of_lt → MQ, add_zero → Ny, lt_succ_self → Oh, le_of_lt → Ox, min_eq_left → OG, succ_pos → OJ, div_lt_of_lt_mul → OW, eq_or_lt_of_le → Pu, ble → PU, lt_succ_of_lt → PZ, ne_of_gt → Qb, add_mod → Qr
open Bool renaming false_ne_true → IT, false_eq_true → Jk, and_eq_true → JF, eq_iff_iff → Ky, not_true → Lx, and_self → Px
open PyProof.Rows renaming wpS_bind → IV, arrOf → IY, wpS_pure → Ja, Keyed → Jo, pendingOf → Jv, wpS_forRange → JV, wpS_modify → Ki, callWith_type1 → Kx, reverseSlice'_eq → KD, wpS_mono → KE, SortSt → KF, mirror → Ly, failedOf → LC, envOfC → L3, slot_tuple_getitem → Mr, SortKind → MC, seqObj → MK, wpS_get → MP, firstMet → MX, assignInOrder_cons → Nq, setArr → Nw, KeyOrd → NX, AllBare → N4, listUpdate_at → N9, wpS_lift → Ob, subscriptTail_builtinR → Os, IntsAre → O7, seqEpoch_at → O8, getElem?_mirror_all → Pd, subscriptTail → Pk, tail_any → Pm, assignInOrder_nil → PJ, setPending → P4, boot_range → Qv, Subscript_ → Qw
open Or renaming inl → IW, inr → Kr
open Array renaming length_toList → Jl, getElem?_eq_getElem → Jw, getElem?_toList → JI, toList_append → JT, getElem?_setIfInBounds → Ku, getElem?_eq_none → K7, forIn_toList → Ld, getD → L9, replicate → Mi, toList_push → Mw, getD_eq_getD_getElem? → Ng, getElem?_eq_some_iff → Nn, size_empty → Ol, reverse_reverse → OH, toList_extract → OS, reverse_append → OT, getElem_toList → OX
open PySem.Builtin.Range renaming rangeSize → Jr
open Option.some renaming inj → Jx, injEq → NR
open PySem.Value renaming ref → Jz, none → JR, int → LD, bool → NO, isInt → N3, isInt_shape → PD, type → PF
open Classical renaming byContradiction → JE
open PyProof.Rows.KeyOrd renaming kle_trans → JK, kle_of_klt → J4, kle_refl → Ln, klt_of_kle_of_klt → NY
open PySem.NameKind renaming free → J0, cell → N8
open PySem.PassesOwn renaming never → Kb
open PySem.PyData renaming eqv → Kl, canLay0 → Kv, eqvAll → KJ, canLayAll0 → KY, depthAll → Lm, depth → Ls
open PySem.Heap.SameBut renaming update → Km
open List.Pairwise renaming imp_of_mem → Kt, nil → NV
open PySem.Paired renaming length → Kw, snoc → Qq
open PySem.Obj renaming mapSeq → KH, data_mapDictKeys → OV, putSet → P7
open List.Perm renaming append_left → KM, append_right → Mk, refl → O4
open PySem.Builtin.Dict_items renaming ownsTuple → KU, ownedTupleFields → L4
open PySem.Builtin.Slice renaming slicePlaces → Le, sliceAdjust → LX, sliceApplied → Nl
open PySem.Builtin.Tuple renaming tupleHashOf → Lg, tupleExact → Lk, tupleItemsOf → Nm
open Int renaming toNat_natCast → Lp, toNat → MN, emod_lt_of_pos → Nz, emod_nonneg → OL, zero_add → Qg
open PySem.Calls renaming callWith_builtin → LA, evalArgs_plain → MR, Name_function_global → Nk, call_function_entry → NG
open PySem.Builtin.Dict renaming showsAll → LI
open False renaming elim → LK
open True renaming intro → LM
open Function renaming comp → LP, comp_def → NW
open Ne renaming symm → LS
open Option renaming map_some → Mc, isSome_map → Mu, getD_some → Oi
open ForInStep renaming yield → Me
open PySem.F renaming plainAttrs_dict → Mf
open List.cons renaming inj → MY, injEq → OD
open PySem.Data renaming cell → M9, fields → N6, seq → QF
open Array.Perm renaming refl → Nh
open PySem.Str renaming ofString → Nt
open PyProof renaming noPylong_small → Oo
open PySem.Around renaming under_plainId → OZ
open Prod.mk renaming inj → Pe
open PySem.SetTable renaming fill → Pv
open Sum renaming inl → PB, inr → PC
open PyProof.Rows.SortSt renaming mk' → PR
open PySem.IsTupleKey renaming typeIs → P9
set_option Elab.async false
set_option linter.all false
set_option bootstrap.genMatcherCode false
set_option genSizeOf false
set_option maxRecDepth 100000
set_option maxHeartbeats 4000000
namespace L2
open PySem PySem.Spec PyProof.Rows
abbrev Key:=Sum Int Str
def Ah:Key->IP->Bool
 | .inl k,v=>N3 k v
 | .inr x,v=>Value.isStrOf x v
def HZ (w:JQ):Key->Int
 | .inl k=>Qz k
 | .inr x=>hashStr w x
theorem br:∀{k:Key} {v:IP},Ah k v=true->(∃i t,k=PB i/\v=LD i t)\/(∃x t,k=PC x/\v=Value.str x t)
 | .inl i,v,h=>by
  obtain ⟨t,e⟩:=PD (k:=i) (v:=v) h
  exact .inl ⟨i,t,rfl,e⟩
 | .inr x,v,h=>by
  obtain ⟨t,e⟩:=Value.isStrOf_shape (x:=x) (v:=v) h
  exact .inr ⟨x,t,rfl,e⟩
theorem BF (a b:Int):decide ((PB a:Key)=PB b)=(a==b):=by
 by_cases e:a=b
 ·subst e;simp
 ·have h:¬ (PB a:Key)=PB b:=fun q=>e (Sum.inl.inj q)
  rw [decide_eq_false h]
  exact (beq_eq_false_iff_ne.mpr e).symm
theorem BG (a b:Str):decide ((PC a:Key)=PC b)=decide (a=b):=by
 by_cases e:a=b
 ·subst e;simp
 ·have h:¬ (PC a:Key)=PC b:=fun q=>e (Sum.inr.inj q)
  rw [decide_eq_false h,decide_eq_false e]
theorem BH (a:Int) (b:Str):decide ((PB a:Key)=PC b)=false:=decide_eq_false (fun q=>nomatch q)
theorem BI (a:Str) (b:Int):decide ((PC a:Key)=PB b)=false:=decide_eq_false (fun q=>nomatch q)
def kX (prog:Jp) (w:JQ):PySem.KeyKind prog w Key where
 is:=Ah
 hash:=HZ w
 inj:=fun v a b ha hb=>by
  rcases br ha with ⟨i,t,rfl,rfl⟩ | ⟨x,t,rfl,rfl⟩
  ·rcases br hb with ⟨j,u,rfl,e⟩ | ⟨y,u,rfl,e⟩
   ·injection e with e1 _;rw [e1]
   ·exact nomatch e
  ·rcases br hb with ⟨j,u,rfl,e⟩ | ⟨y,u,rfl,e⟩
   ·exact nomatch e
   ·injection e with e1 _;rw [e1]
 byValue:=fun k v h=>by
  rcases br h with ⟨i,t,rfl,rfl⟩ | ⟨x,t,rfl,rfl⟩ <;> rfl
 pyHash:=fun hv h=>by
  rcases br hv with ⟨i,t,rfl,rfl⟩ | ⟨x,t,rfl,rfl⟩
  ·exact wpAny_pyHash_int h
  ·exact wpAny_pyHash_str h
 eqBool:=fun hu hv h=>by
  rcases br hu with ⟨i,t,rfl,rfl⟩ | ⟨x,t,rfl,rfl⟩
  ·rcases br hv with ⟨j,u,rfl,rfl⟩ | ⟨y,u,rfl,rfl⟩
   ·rw [BF] at h;exact wpAny_eqBool_int h
   ·rw [BH] at h;exact SeqAt.EqAt.int_str i t y u _ _ _ _ h
  ·rcases br hv with ⟨j,u,rfl,rfl⟩ | ⟨y,u,rfl,rfl⟩
   ·rw [BI] at h;exact SeqAt.EqAt.str_int x t j u _ _ _ _ h
   ·rw [BG] at h;exact wpAny_eqBool_str h
 «strs»:=fun k x t v h=>by
  rcases br h with ⟨i,u,rfl,e⟩ | ⟨y,u,rfl,e⟩
  ·exact nomatch e
  ·injection e with e1 _
   subst e1
   cases v <;> rfl
end L2
namespace L2
open PySem PySem.Spec PyProof.Rows
inductive V where
 | non | bl (b:Bool) | int (i:Int) | str (x:Str) | byt (b:Array UInt8) | flt (b:UInt64) | ref (a:Addr) | ty (n:String)
 deriving DecidableEq
def RelV:V->IP->Prop
 | .non,u=>u=JR
 | .bl b,u=>u=NO b
 | .int i,u=>∃t,u=LD i t
 | .str x,u=>∃t,u=Value.str x t
 | .byt b,u=>∃t,u=Value.bytes b t
 | .flt b,u=>∃t,u=Value.float b t
 | .ref a,u=>u=Jz a
 | .ty n,u=>u=PF n
abbrev Vals:List V->List IP->Prop:=Paired RelV
theorem Vals.length {xs:List V} {us:List IP} (r:Vals xs us):xs.length=us.length:=Kw r
theorem Vals.get:∀{xs:List V} {us:List IP} {i:Nat} {x:V},Vals xs us->xs[i]?=some x->∃u,us[i]?=some u/\RelV x u
 | _,_,_,_,.nil,e=>by simp at e
 | _,_,0,_,.cons r _,e=>by simp at e;subst e;exact ⟨_,rfl,r⟩
 | _,_,i+1,x,.cons _ t,e=>by
  obtain ⟨u,h1,h2⟩:=Vals.get (i:=i) (x:=x) t (by simpa using e)
  exact ⟨u,by simpa using h1,h2⟩
theorem Vals.set {x:V} {u:IP} (r:RelV x u):∀{xs:List V} {us:List IP} (i:Nat),Vals xs us->Vals (xs.set i x) (us.set i u)
 | _,_,_,.nil=>.nil
 | _,_,0,.cons _ t=>.cons r t
 | _,_,i+1,.cons q t=>.cons q (Vals.set r i t)
theorem Vals.append:∀{xs ys:List V} {us ws:List IP},Vals xs us->Vals ys ws->Vals (xs++ys) (us++ws)
 | _,_,_,_,.nil,s=>s
 | _,_,_,_,.cons r t,s=>.cons r (Vals.append t s)
theorem Vals.take:∀{xs:List V} {us:List IP} (n:Nat),Vals xs us->Vals (xs.take n) (us.take n)
 | _,_,0,_=>.nil
 | _,_,_+1,.nil=>.nil
 | _,_,n+1,.cons r t=>.cons r (Vals.take n t)
theorem Vals.drop:∀{xs:List V} {us:List IP} (n:Nat),Vals xs us->Vals (xs.drop n) (us.drop n)
 | _,_,0,r=>r
 | _,_,_+1,.nil=>.nil
 | _,_,n+1,.cons _ t=>Vals.drop n t
def RelO:Option V->Option IP->Prop
 | some v,some u=>RelV v u
 | none,none=>True
 | _,_=>False
def KV {κ:Type}:List (κ×V)->List (κ×IP)->Prop:=Paired fun (p:κ×V) (q:κ×IP)=>p.1=q.1/\RelV p.2 q.2
def kV:Key->V
 | .inl i=>.int i
 | .inr x=>.str x
inductive HO where
 /-- a list -/
 | lst (xs:List V)
 /-- a tuple (never changes) -/
 | tup (xs:List V)
 /-- a dict whose keys are ints and texts;one whose keys are tuples of ints and texts (the empty one is both) -/
 | dK (kvs:List (Key×V)) | dT (kvs:List (List Key×V))
 /-- a set of ints: its members,its size -/
 | set (S:Int->Bool) (n:Nat)
 /-- an instance of the class at C,its dict at dx,its attributes -/
 | ins (C dx:Addr) (fs:List (Str×V))
 /-- the dict of the instance at x -/
 | own (x:Addr)
 /-- the dict of an exception -/
 | xd (fs:List (Str×V))
 /-- a bound method,f of x -/
 | met (f x:Addr)
 /-- a range object lo,lo+1,.. below hi -/
 | rng (lo hi:Int)
 /-- a thing that is known to the object (the script;a dict while a loop walks it): read,never written while it is so -/
 | frz (o:Obj) (u:HO)
 /-- a code object's table -/
 | tbl (ps:Array IP)
 /-- any other thing,by what is true of its one object (a def of one's own: nW a S n:=HO.ext fun h=>..) -/
 | ext (φ:Heap->Prop)
abbrev Hp:=Addr->Option HO
def upd (H:Hp) (a:Addr) (o:HO):Hp:=fun b=>if b=a then some o else H b
theorem aJ {H:Hp} {a:Addr} {o:HO}:upd H a o a=some o:=by unfold upd;rw [if_pos rfl]
theorem aL {H:Hp} {a b:Addr} {o:HO} (h:b≠a):upd H a o b=H b:=by unfold upd;rw [if_neg h]
theorem bg {H:Hp} {a b:Addr} {o:HO} (h:H a=some o) (h':H b=none):a≠b:=by
 intro e;subst e;rw [h] at h';cases h'
section
variable (P:Jp) (w:JQ)
def bt (H:Hp) (h:Heap) (a:Addr):HO->Prop
 | .lst xs=>xs.length<=JA/\∃(its:List IP) (n:Nat),Vals xs its/\h.get? a=some { cls:=.type "list",data:=.seq its.toArray n }
 | .tup xs=>xs.length<=JA/\∃its:List IP,Vals xs its/\IsTup h a its.toArray
 | .dK kvs=>kvs.length<=JA/\(a==KW)=false/\∃vs,KV kvs vs/\h.DictOf (kX P w) a vs
 | .dT kvs=>kvs.length<=JA/\(a==KW)=false/\∃xs:List (List Key×Addr×IP),
   Paired (fun (p:List Key×V) (q:List Key×Addr×IP)=>p.1=q.1/\H q.2.1=some (.tup (p.1.map kV))/\RelV p.2 q.2.2) kvs xs /\
   ∃o es ep,h.get? a=some o/\o.ExactDict/\o.data=.dict es ep/\es.toList=xs.map (entryOfKey (MF (kX P w)))/\(xs.map (·.1)).Nodup
 | .set S n=>h.SetOf (LF P w) a S n
 | .ins C dx fs=>H dx=some (.own a)/\fs.length<=1000/\dx≠a/\h.get? a=some (Ov C dx) /\
   ∃mA,h.Ns1 dx mA/\(∀f,RelO (fs.lookup f) (mA f))/\PySem.Within mA (fs.map (·.1))
 | .own _=>∃o,h.get? a=some o
 | .xd fs=>∃mA,h.Ns1 a mA/\∀f,RelO (fs.lookup f) (mA f)
 | .rng lo hi=>∃t u v,h.get? a=some { cls:=.type "range",data:=.fields #[.int lo t,.int hi u,.int 1 v] }
 | .frz o u=>h.get? a=some o/\bt H h a u
 | .tbl ps=>∃qs,h.get? a=some { cls:=.none,data:=.fields qs }/\TriplesOk qs.toList/\∀pos cv,codeAmong pos qs.toList=some cv->∃c q t,cv=.ref c/\H c=some (.own a)/\ps[0]?=some (.str q t)/\h.CodeRec cv q
 | .met f x=>h.get? a=some (NQ (.ref f) (.ref x))
 | .ext φ=>φ h/\(∃o,h.get? a=some o)/\∀h1 h2:Heap,φ h1->(∀o,h1.get? a=some o->h2.get? a=some o)->φ h2
def HOk (H:Hp) (h:Heap):Prop:=∀a o,H a=some o->bt P w H h a o
end
section
variable {P:Jp} {w:JQ} {H H':Hp} {h h':Heap} {a:Addr} {o:HO}
theorem bt.lt (x:bt P w H h a o):a < h.objs.size:=by
 cases o with
 | lst xs=>obtain ⟨_,_,_,_,e⟩:=x;exact Jg e
 | tup xs=>obtain ⟨_,_,_,p⟩:=x;exact p.lt
 | dK kvs=>obtain ⟨_,_,_,_,o,_,_,e,_⟩:=x;exact Jg e
 | dT kvs=>obtain ⟨_,_,_,_,o,_,_,e,_⟩:=x;exact Jg e
 | set S n=>obtain ⟨o,_,_,_,e,_⟩:=x;exact Jg e
 | ins C dx fs=>obtain ⟨_,_,_,e,_⟩:=x;exact Jg e
 | own y=>obtain ⟨_,e⟩:=x;exact Jg e
 | xd fs=>obtain ⟨_,⟨_,_,_,e,_⟩,_⟩:=x;exact Jg e
 | rng lo hi=>obtain ⟨_,_,_,e⟩:=x;exact Jg e
 | frz ob u=>obtain ⟨e,_⟩:=x;exact Jg e
 | tbl ps=>obtain ⟨_,e,_⟩:=x;exact Jg e
 | met f y=>exact Jg (show h.get? a=some _ from x)
 | ext φ=>obtain ⟨_,⟨_,e⟩,_⟩:=x;exact Jg e
theorem Paired.mapP {α β:Type} {F G:α->β->Prop}:∀{l₁:List α} {l₂:List β},Paired F l₁ l₂->(∀a b,F a b->G a b)->Paired G l₁ l₂
 | _,_,.nil,_=>.nil
 | _,_,.cons r t,f=>.cons (f _ _ r) (Paired.mapP t f)
theorem bt.stay (x:bt P w H h a o) (k:∀b u,(b=a\/H b=some (.own a))->h.get? b=some u->h'.get? b=some u)
  (ho:∀b,H b=some (.own a)->H' b=some (.own a)) (ht:∀b xs,H b=some (.tup xs)->H' b=some (.tup xs)):bt P w H' h' a o:=by
 induction o with
 | lst xs=>obtain ⟨z,its,n,r,e⟩:=x;exact ⟨z,its,n,r,k _ _ (.inl rfl) e⟩
 | tup xs=>obtain ⟨z,its,r,ob,e,c⟩:=x;exact ⟨z,its,r,ob,k _ _ (.inl rfl) e,c⟩
 | dK kvs=>obtain ⟨z,y,vs,r,ob,es,ep,e,c⟩:=x;exact ⟨z,y,vs,r,ob,es,ep,k _ _ (.inl rfl) e,c⟩
 | dT kvs=>
  obtain ⟨z,y,xs,r,ob,es,ep,e,c⟩:=x
  exact ⟨z,y,xs,Paired.mapP r fun p q z=>⟨z.1,ht _ _ z.2.1,z.2.2⟩,ob,es,ep,k _ _ (.inl rfl) e,c⟩
 | set S n=>obtain ⟨ob,es,ep,t,e,c⟩:=x;exact ⟨ob,es,ep,t,k _ _ (.inl rfl) e,c⟩
 | ins C dx fs=>
  obtain ⟨d,z,ne,e,mA,⟨od,es,ep,e2,c⟩,r⟩:=x
  exact ⟨ho _ d,z,ne,k _ _ (.inl rfl) e,mA,⟨od,es,ep,k _ _ (.inr d) e2,c⟩,r⟩
 | own y=>obtain ⟨ob,e⟩:=x;exact ⟨ob,k _ _ (.inl rfl) e⟩
 | xd fs=>obtain ⟨mA,⟨od,es,ep,e,c⟩,r⟩:=x;exact ⟨mA,⟨od,es,ep,k _ _ (.inl rfl) e,c⟩,r⟩
 | rng lo hi=>obtain ⟨t,u,v,e⟩:=x;exact ⟨t,u,v,k _ _ (.inl rfl) e⟩
 | frz ob u ih=>obtain ⟨e,q⟩:=x;exact ⟨k _ _ (.inl rfl) e,ih q⟩
 | tbl ps=>
  obtain ⟨qs,e,t,f⟩:=x
  refine ⟨qs,k _ _ (.inl rfl) e,t,fun pos cv hc=>?_⟩
  obtain ⟨c,q,tk,rfl,ho',hq,c2,oc,vs,tq,ec,e1,r⟩:=f pos cv hc
  cases ec
  exact ⟨c,q,tk,rfl,ho _ ho',hq,c,oc,vs,tq,rfl,k _ _ (.inr ho') e1,r⟩
 | met f y=>
  have e:h.get? a=some (NQ (.ref f) (.ref y)):=x
  show h'.get? a=some (NQ (.ref f) (.ref y))
  exact k a _ (.inl rfl) e
 | ext φ=>obtain ⟨p,⟨o,e⟩,st⟩:=x;exact ⟨st _ _ p fun o q=>k _ _ (.inl rfl) q,⟨o,k _ _ (.inl rfl) e⟩,st⟩
theorem HOk.lt (x:HOk P w H h) (e:H a=some o):a < h.objs.size:=(x a o e).lt
theorem HOk.fresh (x:HOk P w H h) (e:h.objs.size<=a):H a=none:=by
 cases q:H a with
 | none=>rfl
 | some u=>exact absurd (Js (x.lt q) e) (Kp _)
theorem HOk.kept (x:HOk P w H h) (k:∀b u,h.get? b=some u->h'.get? b=some u):HOk P w H h':=fun a o e=>
 (x a o e).stay (fun b u _ q=>k b u q) (fun _ q=>q) fun _ _ q=>q
theorem HOk.laid (x:HOk P w H h) (k:∀b u,h.get? b=some u->h'.get? b=some u) (hp:h.objs.size<=a) (new:bt P w (upd H a o) h' a o):HOk P w (upd H a o) h':=fun b u e=>by
 have hn:=x.fresh hp
 by_cases hb:b=a
 ·subst hb;rw [aJ] at e;cases e;exact new
 ·rw [aL hb] at e
  exact (x b u e).stay (fun c v _ q=>k c v q) (fun c q=>by rw [aL (bg q hn)];exact q) fun c xs q=>by rw [aL (bg q hn)];exact q
end
def Rd (H:Hp) (a:Addr) (u:HO):Prop:=H a=some u\/∃o,H a=some (.frz o u)
theorem Rd.ok {P:Jp} {w:JQ} {H:Hp} {h:Heap} {a:Addr} {u:HO} (r:Rd H a u) (x:HOk P w H h):bt P w H h a u:=by
 rcases r with r | ⟨o,r⟩
 ·exact x a u r
 ·obtain ⟨_,q⟩:=x a _ r
  exact q
def Mut:Option HO->Prop
 | some (.lst _)=>True
 | some (.dK _)=>True
 | some (.dT _)=>True
 | some (.set _ _)=>True
 | some (.ins _ _ _)=>True
 | some (.ext _)=>True
 | _=>False
section
variable {P:Jp} {w:JQ} {H:Hp} {h h':Heap} {x e:Addr} {o':HO}
theorem HOk.write (ok:HOk P w H h) (mu:Mut (H x)) (he:e=x\/H e=some (.own x)) (k:∀b u,b≠e->h.get? b=some u->h'.get? b=some u) (heo:∃u,h'.get? e=some u)
  (new:bt P w (upd H x o') h' x o'):HOk P w (upd H x o') h':=fun b u q=>by
 have nown:∀c y,H c=some (.own y)->c≠x:=fun c y r z=>by subst z;rw [r] at mu;exact mu
 have ntup:∀c xs,H c=some (.tup xs)->c≠x:=fun c xs r z=>by subst z;rw [r] at mu;exact mu
 by_cases hb:b=x
 ·subst hb;rw [aJ] at q;cases q;exact new
 ·rw [aL hb] at q
  by_cases hbe:b=e
  ·have q':H b=some (.own x):=by
    rcases he with z | z
    ·exact absurd (hbe.trans z) hb
    ·rw [hbe];exact z
   rw [q] at q';cases q'
   obtain ⟨v,hv⟩:=heo
   exact ⟨v,by rw [hbe];exact hv⟩
  ·refine (ok b u q).stay (fun c v hc r=>k c v ?_ r) (fun c r=>by rw [aL (nown c b r)];exact r) fun c xs r=>by rw [aL (ntup c xs r)];exact r
   rcases hc with rfl | hc
   ·exact hbe
   ·rintro rfl
    rcases he with z | z
    ·exact nown c b hc z
    ·rw [hc] at z;cases z;exact hb rfl
end
structure Un (fs ex:List Addr) (H H':Hp) (h h':Heap):Prop where
 keep:∀b o,h.get? b=some o->H b=none->b∉fs->b∉ex->h'.get? b=some o
 slot:∀b o,h.get? b=some o->H b=none->b∈fs->b∉ex->∃sl,h'.get? b=some { o with slots:=sl }
 free:∀b o,h.get? b=some o->H b=none->b∉ex->H' b=none
 there:∀b o,h.get? b=some o->b∉ex->∃o',h'.get? b=some o'
 tups:∀b xs,H b=some (.tup xs)->H' b=some (.tup xs)
 frzs:∀b o u,H b=some (.frz o u)->H' b=some (.frz o u)
 tbls:∀b ps,H b=some (.tbl ps)->∃more,H' b=some (.tbl (ps++more))
section
variable {fs fs' ex ex':List Addr} {H H1 H2:Hp} {h h1 h2 h':Heap} {a x e:Addr} {o:HO}
theorem Un.any (u:Un fs ex H H1 h h1) {b:Addr} {ob:Obj} (q:h.get? b=some ob) (n:H b=none) (hx:b∉ex):∃sl,h1.get? b=some { ob with slots:=sl }:=by
 by_cases hb:b∈fs
 ·exact u.slot b ob q n hb hx
 ·exact ⟨ob.slots,u.keep b ob q n hb hx⟩
theorem Un.kept (k:∀b u,h.get? b=some u->h'.get? b=some u):Un fs ex H H h h':=
 ⟨fun b ob q _ _ _=>k b ob q,fun b ob q _ _ _=>⟨ob.slots,k b ob q⟩,fun _ _ _ n _=>n,fun b ob q _=>⟨ob,k b ob q⟩,fun _ _ q=>q,fun _ _ _ q=>q,fun _ ps q=>⟨#[],by rw [q];simp⟩⟩
theorem Un.refl:Un fs ex H H h h:=Un.kept fun _ _ q=>q
theorem Un.laid (k:∀b u,h.get? b=some u->h'.get? b=some u) (hp:h.objs.size<=a) (hn:H a=none):Un fs ex H (upd H a o) h h' where
 keep:=fun b u q _ _ _=>k b u q
 slot:=fun b u q _ _ _=>⟨u.slots,k b u q⟩
 free:=fun b u q n _=>by rw [aL (JG (Js (Jg q) hp))];exact n
 there:=fun b u q _=>⟨u,k b u q⟩
 tups:=fun b xs q=>by rw [aL (bg q hn)];exact q
 frzs:=fun b u xs q=>by rw [aL (bg q hn)];exact q
 tbls:=fun b ps q=>⟨#[],by rw [aL (bg q hn),q];simp⟩
theorem Un.write (mu:Mut (H x)) (he:e=x\/H e=some (.own x)) (k:∀b u,b≠e->h.get? b=some u->h'.get? b=some u) (heo:∃u,h'.get? e=some u):Un fs ex H (upd H x o) h h':=by
 have hx:∀b,H b=none->b≠x:=fun b n z=>by subst z;rw [n] at mu;exact mu
 have hb:∀b,H b=none->b≠e:=fun b n z=>by
  subst z
  rcases he with r | r
  ·exact hx b n r
  ·rw [n] at r;cases r
 have hm:∀b u,H b=some u->¬ Mut (some u)->b≠x:=fun b u q nm z=>by subst z;rw [q] at mu;exact nm mu
 refine ⟨fun b u q n _ _=>k b u (hb b n) q,fun b u q n _ _=>⟨u.slots,k b u (hb b n) q⟩,fun b u q n _=>by rw [aL (hx b n)];exact n,fun b u q _=>?_,
  fun b xs q=>by rw [aL (hm b _ q fun z=>z)];exact q,fun b u xs q=>by rw [aL (hm b _ q fun z=>z)];exact q,fun b ps q=>⟨#[],by rw [aL (hm b _ q fun z=>z),q];simp⟩⟩
 by_cases hbe:b=e
 ·subst hbe;exact heo
 ·exact ⟨u,k b u hbe q⟩
end
def trk (h:Heap) (H:Hp):List Addr:=(JS h.objs.size).filter fun a=>(H a).isSome
def kY (h:Heap) (H:Hp):Heap:=PySem.W.hideAll h (trk h H)
theorem qS (h:Heap) (H:Hp):(kY h H).objs.size=h.objs.size:=PySem.W.hideAll_size _ _
theorem sI {h:Heap} {H:Hp} {b:Addr} {o:Obj} (e:h.get? b=some o) (n:H b=none):(kY h H).get? b=some o:=
 PySem.W.hideAll_get _ e fun hm=>by
  have q:(H b).isSome=true:=(List.mem_filter.mp hm).2
  rw [n] at q;simp at q
theorem xm {h:Heap} {H:Hp} {b:Addr} {o:Obj} (e:(kY h H).get? b=some o):h.get? b=some o/\H b=none:=by
 have e':h.get? b=some o:=PySem.W.of_hideAll (trk h H) e
 refine ⟨e',?_⟩
 cases q:H b with
 | none=>rfl
 | some x=>
  have hm:b∈trk h H:=List.mem_filter.mpr ⟨List.mem_range.mpr (Jg e'),by simp [q]⟩
  have z:(kY h H).get? b=none:=PySem.W.hideAll_none (trk h H) hm
  rw [z] at e;cases e
def fQ (g h:Heap) (L:Addr):List (Addr×Obj):=(JS h.objs.size).filterMap fun a=>if a=L\/(g.get? a).isSome=true then none else (h.get? a).map fun o=>(a,o)
theorem mw {g h:Heap} {L a:Addr} {o:Obj} (h1:a≠L) (h2:g.get? a=none) (h3:h.get? a=some o):(a,o)∈fQ g h L:=
 List.mem_filterMap.mpr ⟨a,List.mem_range.mpr (Jg h3),by simp [h1,h2,h3]⟩
theorem i3 {g h:Heap} {L:Addr} {p:Addr×Obj} (hp:p∈fQ g h L):p.1≠L/\g.get? p.1=none/\h.get? p.1=some p.2:=by
 obtain ⟨b,_,e⟩:=List.mem_filterMap.mp hp
 split at e
 ·cases e
 ·rename_i hn
  cases q:h.get? b with
  | none=>rw [q] at e;simp at e
  | some u=>
   rw [q] at e
   simp only [Mc,NR] at e
   subst e
   refine ⟨fun z=>hn (.inl z),?_,q⟩
   show g.get? b=none
   cases r:g.get? b with
   | none=>rfl
   | some v=>exact (hn (.inr (by simp [r]))).elim
theorem mx {g h:Heap} {L:Addr}:News g L h (fQ g h L):=fun p hp=>let ⟨a,b,c⟩:=i3 hp;⟨c,a,b⟩
end L2
namespace L2
open PySem PySem.Spec PyProof.Rows
structure Mod (K:IJ) (mg:Str->Option IP) (base:Heap):Prop where
 kin:K.In base
 glob:base.Ns JC mg
 blt:∃mb,base.Ns Qs mb/\∀x:Str,x≠"__name__"->mb x=J1 x
 nolimit:base.NoLimit
structure Cx where
 prog:Jp
 w:JQ
 K:IJ
 mg:Str->Option IP
 base:Heap
 A:JY
 N:List Str
 s₀:IM
 H₀:Hp
 env:Env
 outer:List Env
 stack:List Env
 ex:List Addr
 fn:Str->Bool
 calm:Bool
 pn:List (Addr×Obj)
 xe:IP->IM->Prop
def frs (l:List Env):List Addr:=l.filterMap (·.frame)
abbrev Cx.fs (X:Cx):List Addr:=frs X.outer
def Vis (sc:MO) (x:Str):Prop:=sc.names.lookup x=some .local\/sc.names.lookup x=some .cell\/sc.names.lookup x=some .free
def Loc (sc:MO) (x:Str):Prop:=sc.names.lookup x=some .local\/sc.names.lookup x=some .cell
def Look (env:Env) (h:Heap) (m:Str->Option IP) (x:Str) (u:IP):Prop:=
 (env.kindOf x=some .local/\m x=some u)\/((env.kindOf x=some .cell\/env.kindOf x=some .free)/\∃c,env.cells.lookup x=some c/\h.IsCell c (some u))
structure Cx.Ok (X:Cx):Prop where
 mod:Mod X.K X.mg X.base
 kind:X.env.scope.kind=.function
 glob:X.env.globals=JC
 blt:X.env.builtins=Qs
 above:X.s₀.heap.objs.size<=X.env.locals
 inj:∀x y c,X.env.cells.lookup x=some c->X.env.cells.lookup y=some c->x=y
 has:∀x,(X.env.kindOf x=some .cell\/X.env.kindOf x=some .free)->∃c,X.env.cells.lookup x=some c
 cab:∀x c,X.fn x=true->X.env.cells.lookup x=some c->X.s₀.heap.objs.size<=c
 hd:X.calm=true->X.A.handled=none
 frames:X.A.frames=some X.stack
 stk:X.stack=X.outer\/(X.stack=X.env::X.outer/\X.env.frame=some X.env.locals)
 exf:∀b∈X.ex,b≠X.env.locals/\∀x c,X.env.cells.lookup x=some c->c≠b
 bs:∀b o,X.base.get? b=some o->X.s₀.heap.get? b=some o/\X.H₀ b=none
 bsz:X.base.objs.size<=X.s₀.heap.objs.size
 noex:∀b o,X.base.get? b=some o->b∉X.ex
 exfs:∀b∈X.ex,b∉X.fs
 funs:X.s₀.heap.FunFrames X.base X.outer
 frf:∀b∈X.fs,X.H₀ b=none
structure Inv (X:Cx) (pins:List (Addr×Obj)) (U:List (Option V)) (H:Hp) (s:IM):Prop where
 ok:X.Ok
 os:s.os=X.s₀.os
 bare:N4 s.gens
 base:Un X.fs X.ex X.H₀ H X.s₀.heap s.heap
 loc:∃m,s.heap.Ns X.env.locals m/\∀(i:Nat) (x:Str) (v:V),X.N[i]?=some x->U[i]?=some (some v)->Vis X.env.scope x->∃u,RelV v u/\Look X.env s.heap m x u
 cell:∀x c,X.env.cells.lookup x=some c->∃v,s.heap.IsCell c v
 free:H X.env.locals=none
 freeC:∀x c,X.env.cells.lookup x=some c->H c=none
 pin:∀p∈X.pn++pins,s.heap.get? p.1=some p.2/\H p.1=none/\p.1≠X.env.locals/\p.1∉X.fs/\∀v,p.2.data≠.cell v
 hok:HOk X.prog X.w H s.heap
 len:U.length=X.N.length
section
variable {X:Cx} {pins:List (Addr×Obj)} {U:List (Option V)} {H H':Hp} {s:IM} {h':Heap}
theorem Cx.Ok.nofr (ok:X.Ok) {b:Addr} {o:Obj} (e:X.base.get? b=some o):b∉X.fs:=fun hb=>by
 have:=(ok.funs.mem hb).1
 rw [e] at this;cases this
theorem Inv.bs (I:Inv X pins U H s):∀b o,X.base.get? b=some o->s.heap.get? b=some o/\H b=none:=fun b o e=>
 ⟨I.base.keep b o (I.ok.bs b o e).1 (I.ok.bs b o e).2 (I.ok.nofr e) (I.ok.noex b o e),I.base.free b o (I.ok.bs b o e).1 (I.ok.bs b o e).2 (I.ok.noex b o e)⟩
theorem Inv.bk (I:Inv X pins U H s):∀b o,X.base.get? b=some o->s.heap.get? b=some o:=fun b o e=>(I.bs b o e).1
theorem Inv.mod (I:Inv X pins U H s):Mod X.K X.mg X.base:=I.ok.mod
theorem Inv.kIn (I:Inv X pins U H s):X.K.In s.heap:=I.ok.mod.kin.keeps I.bk
theorem Inv.fr (I:Inv X pins U H s):∃m,Fr X.base X.env.locals s.heap m:=
 let ⟨m,hn,_⟩:=I.loc
 ⟨m,hn,I.bk,KB I.ok.bsz I.ok.above⟩
theorem Inv.lt (I:Inv X pins U H s):X.env.locals < s.heap.objs.size:=let ⟨_,hn,_⟩:=I.loc;hn.lt
theorem Inv.sz (I:Inv X pins U H s):X.s₀.heap.objs.size<=s.heap.objs.size:=KB I.ok.above (Ox I.lt)
theorem Inv.nofs (I:Inv X pins U H s) {a:Addr} (h:s.heap.objs.size<=a):a∉X.fs:=fun hb=>by
 obtain ⟨_,o,ho,_⟩:=I.ok.funs.mem hb
 exact absurd (Js (Jg ho) (KB I.sz h)) (Kp _)
theorem Inv.cne (I:Inv X pins U H s):∀x c,X.env.cells.lookup x=some c->c≠X.env.locals:=fun x c e z=>by
 obtain ⟨v,o,ho,hd⟩:=I.cell x c e
 obtain ⟨m,⟨o',es,ep,ho',hd',_⟩,_⟩:=I.loc
 rw [z,ho'] at ho;cases ho;rw [hd'] at hd;cases hd
theorem Inv.funs (I:Inv X pins U H s):s.heap.FunFrames X.base X.outer:=by
 have all:∀(l:List Env),(∀b∈frs l,b∈X.fs)->X.s₀.heap.FunFrames X.base l->s.heap.FunFrames X.base l:=by
  intro l
  induction l with
  | nil=>intro _ _;trivial
  | cons env r ih=>
   intro hs hl
   obtain ⟨hk,⟨L,o,hf,hn,ho,hd⟩,hr⟩:=hl
   have hL:L∈X.fs:=hs L (by unfold frs;rw [Ks,hf];exact IQ)
   obtain ⟨sl,e⟩:=I.base.slot L o ho (I.ok.frf L hL) hL fun z=>I.ok.exfs L z hL
   exact ⟨hk,⟨L,_,hf,hn,e,hd⟩,ih (fun b hb=>hs b (by unfold frs;rw [Ks,hf];exact IZ _ hb)) hr⟩
 exact all X.outer (fun _ hb=>hb) I.ok.funs
theorem Inv.stack (I:Inv X pins U H s):s.heap.FunFrames X.base X.stack:=by
 rcases I.ok.stk with e | ⟨e,hf⟩
 ·rw [e];exact I.funs
 ·rw [e]
  obtain ⟨m,hn,_⟩:=I.loc
  refine .cons (by rw [I.ok.kind];decide) hf hn ?_ I.funs
  exact Heap.get?_none_of_le (KB I.ok.bsz I.ok.above)
theorem Inv.stkSub (I:Inv X pins U H s):∀b∈frs X.stack,b∈X.env.locals::X.fs:=fun b hb=>by
 rcases I.ok.stk with e | ⟨e,hf⟩
 ·rw [e] at hb;exact IZ _ hb
 ·rw [e] at hb
  unfold frs at hb
  rw [Ks,hf] at hb
  exact hb
theorem Inv.stkFree (I:Inv X pins U H s):∀b∈frs X.stack,H b=none:=fun b hb=>by
 rcases List.mem_cons.mp (I.stkSub b hb) with e | hb
 ·rw [e];exact I.free
 ·obtain ⟨_,o,ho,_⟩:=I.ok.funs.mem hb
  exact I.base.free b o ho (I.ok.frf b hb) fun z=>I.ok.exfs b z hb
theorem Inv.step {g':Array GenState} {t':Nat} {d':Drawn} {ch:List Addr} (I:Inv X pins U H s)
  (hch:∀b∈ch,(b∈X.ex\/X.s₀.heap.objs.size<=b)/\b≠X.env.locals/\(∀x c,X.env.cells.lookup x=some c->c≠b)/\∀p∈X.pn++pins,p.1≠b)
  (keep:∀b o,b≠X.env.locals->b∉X.fs->b∉ch->s.heap.get? b=some o->H b=none->h'.get? b=some o)
  (slot:∀b o,b≠X.env.locals->b∈X.fs->b∉ch->s.heap.get? b=some o->H b=none->∃sl,h'.get? b=some { o with slots:=sl }) (free:∀b o,b∉ch->s.heap.get? b=some o->H b=none->H' b=none)
  (there:∀b o,b∉ch->s.heap.get? b=some o->∃o',h'.get? b=some o')
  (tups:∀b xs,H b=some (.tup xs)->H' b=some (.tup xs)) (frzs:∀b o u,H b=some (.frz o u)->H' b=some (.frz o u)) (tbls:∀b ps,H b=some (.tbl ps)->∃more,H' b=some (.tbl (ps++more)))
  (ns:∀m,s.heap.Ns X.env.locals m->h'.Ns X.env.locals m) (hok:HOk X.prog X.w H' h') (hg:N4 g') :
  Inv X pins U H' { s with heap:=h',gens:=g',drawn:=d',toks:=t' }:=by
 have neL:∀b o,X.s₀.heap.get? b=some o->b≠X.env.locals:=fun b o e=>JG (Js (Jg e) I.ok.above)
 have neC:∀b o,X.s₀.heap.get? b=some o->b∉X.ex->b∉ch:=fun b o e hx hb=>by
  rcases (hch b hb).1 with z | z
  ·exact hx z
  ·exact absurd (Js (Jg e) z) (Kp _)
 have cellK:∀x c,X.env.cells.lookup x=some c->∀v,s.heap.IsCell c v->h'.IsCell c v:=fun x c e v ⟨o,ho,hd⟩=>by
  have nch:c∉ch:=fun z=>(hch c z).2.2.1 x c e rfl
  by_cases hc:c∈X.fs
  ·obtain ⟨sl,q⟩:=slot c o (I.cne x c e) hc nch ho (I.freeC x c e)
   exact ⟨_,q,hd⟩
  ·exact ⟨o,keep c o (I.cne x c e) hc nch ho (I.freeC x c e),hd⟩
 refine ⟨I.ok,I.os,hg,⟨fun b o e n hb hx=>?_,fun b o e n hb hx=>?_,fun b o e n hx=>?_,fun b o e hx=>?_,fun b xs e=>tups b xs (I.base.tups b xs e),fun b o xs e=>frzs b o xs (I.base.frzs b o xs e),fun b ps e=>?_⟩,?_,fun x c e=>?_,?_,fun x c e=>?_,fun p hp=>?_,hok,I.len⟩
 ·exact keep b o (neL b o e) hb (neC b o e hx) (I.base.keep b o e n hb hx) (I.base.free b o e n hx)
 ·obtain ⟨sl,e1⟩:=I.base.slot b o e n hb hx
  obtain ⟨sl',e2⟩:=slot b _ (neL b o e) hb (neC b o e hx) e1 (I.base.free b o e n hx)
  exact ⟨sl',e2⟩
 ·obtain ⟨o',e1⟩:=I.base.there b o e hx
  exact free b o' (neC b o e hx) e1 (I.base.free b o e n hx)
 ·obtain ⟨o',e1⟩:=I.base.there b o e hx
  exact there b o' (neC b o e hx) e1
 ·obtain ⟨m1,e1⟩:=I.base.tbls b ps e
  obtain ⟨m2,e2⟩:=tbls b _ e1
  exact ⟨m1++m2,by rw [e2,Array.append_assoc]⟩
 ·obtain ⟨m,hn,hl⟩:=I.loc
  refine ⟨m,ns m hn,fun i x v e1 e2 e3=>?_⟩
  obtain ⟨u,r,l⟩:=hl i x v e1 e2 e3
  refine ⟨u,r,?_⟩
  rcases l with l | ⟨k,c,e,z⟩
  ·exact .inl l
  ·exact .inr ⟨k,c,e,cellK x c e _ z⟩
 ·obtain ⟨v,z⟩:=I.cell x c e
  exact ⟨v,cellK x c e v z⟩
 ·obtain ⟨m,⟨o,_,_,ho,_⟩,_⟩:=I.loc
  exact free _ o (fun z=>(hch _ z).2.1 rfl) ho I.free
 ·obtain ⟨v,o,ho,hd⟩:=I.cell x c e
  exact free c o (fun z=>(hch c z).2.2.1 x c e rfl) ho (I.freeC x c e)
 ·obtain ⟨e,n,ne,nf,d⟩:=I.pin p hp
  have nch:p.1∉ch:=fun z=>(hch p.1 z).2.2.2 p hp rfl
  exact ⟨keep p.1 p.2 ne nf nch e n,free p.1 p.2 nch e n,ne,nf,d⟩
theorem Inv.un {t':Nat} (I:Inv X pins U H s) (u:Un X.fs [] H H' s.heap h') (hok:HOk X.prog X.w H' h'):Inv X pins U H' { s with heap:=h',toks:=t' }:=by
 obtain ⟨m,⟨o,es,ep,ho,r⟩,_⟩:=id I.loc
 obtain ⟨sl,hL⟩:=u.any ho I.free (by simp)
 exact I.step (g':=s.gens) (d':=s.drawn) (ch:=[]) (fun _ z=>nomatch z) (fun b o _ hb _ e n=>u.keep b o e n hb (by simp)) (fun b o _ hb _ e n=>u.slot b o e n hb (by simp)) (fun b o _ e n=>u.free b o e n (by simp)) (fun b o _ e=>u.there b o e (by simp)) u.tups u.frzs u.tbls (fun m' hm=>by
  obtain ⟨o',es',ep',ho',r'⟩:=hm
  rw [ho] at ho';cases ho'
  exact ⟨_,es',ep',hL,r'⟩) hok I.bare
theorem Inv.call {g':Array GenState} {t':Nat} {d':Drawn} {ch:List Addr} (I:Inv X pins U H s) (u:Un (frs X.stack) ch H H' s.heap h') (hok:HOk X.prog X.w H' h') (hg:N4 g')
  (hch:∀b∈ch,(b∈X.ex\/X.s₀.heap.objs.size<=b)/\b≠X.env.locals/\(∀x c,X.env.cells.lookup x=some c->c≠b)/\∀p∈X.pn++pins,p.1≠b) :
  Inv X pins U H' { s with heap:=h',gens:=g',drawn:=d',toks:=t' }:=by
 obtain ⟨m,⟨o,es,ep,ho,r⟩,_⟩:=id I.loc
 obtain ⟨sl,hL⟩:=u.any ho I.free fun z=>(hch _ z).2.1 rfl
 exact I.step (ch:=ch) hch (fun b o hL hb hc e n=>u.keep b o e n (fun z=>(List.mem_cons.mp (I.stkSub b z)).elim hL hb) hc) (fun b o _ _ hc e n=>u.any e n hc) (fun b o hc e n=>u.free b o e n hc) (fun b o hc e=>u.there b o e hc) u.tups u.frzs u.tbls (fun m' hm=>by
  obtain ⟨o',es',ep',ho',r'⟩:=hm
  rw [ho] at ho';cases ho'
  exact ⟨_,es',ep',hL,r'⟩) hok hg
theorem Inv.turned {t':Nat} {it:Addr} (I:Inv X pins U H s) (k:∀b o,b≠it->s.heap.get? b=some o->h'.get? b=some o) (hn:H it=none) (hL:it≠X.env.locals)
  (h1:it∈X.ex\/X.s₀.heap.objs.size<=it) (h2:∀x c,X.env.cells.lookup x=some c->c≠it) (h3:∀p∈X.pn++pins,p.1≠it):Inv X pins U H { s with heap:=h',toks:=t' }:=by
 have nit:∀b u,H b=some u->b≠it:=fun b u e z=>by rw [z,hn] at e;cases e
 refine I.step (g':=s.gens) (d':=s.drawn) (ch:=[it]) (fun b hb=>?_) (fun b o _ _ hc e _=>k b o (fun z=>hc (by simp [z])) e) (fun b o _ _ hc e _=>⟨o.slots,k b o (fun z=>hc (by simp [z])) e⟩) (fun _ _ _ _ n=>n)
  (fun b o hc e=>⟨o,k b o (fun z=>hc (by simp [z])) e⟩) (fun _ _ e=>e) (fun _ _ _ e=>e) (fun b ps e=>⟨#[],by rw [e];simp⟩) (fun m hm=>?_) (fun b u e=>?_) I.bare
 ·have e:b=it:=by simpa using hb
  subst e
  exact ⟨h1,hL,h2,h3⟩
 ·obtain ⟨o,es,ep,ho,r⟩:=hm
  exact ⟨o,es,ep,k _ o (LS hL) ho,r⟩
 ·refine (I.hok b u e).stay (fun c v hc q=>k c v ?_ q) (fun _ q=>q) fun _ _ q=>q
  rcases hc with z | z
  ·rw [z];exact nit b u e
  ·exact nit c _ z
theorem Inv.tok (I:Inv X pins U H s) (t:Nat):Inv X pins U H { s with toks:=t }:=I.un (h':=s.heap) (t':=t) Un.refl I.hok
theorem Inv.kept {t':Nat} (I:Inv X pins U H s) (k:∀b u,s.heap.get? b=some u->h'.get? b=some u):Inv X pins U H { s with heap:=h',toks:=t' }:=I.un (Un.kept k) (I.hok.kept k)
theorem Inv.laid {a:Addr} {o:HO} {t':Nat} (I:Inv X pins U H s) (k:∀b u,s.heap.get? b=some u->h'.get? b=some u) (hp:s.heap.objs.size<=a) (new:bt X.prog X.w (upd H a o) h' a o) :
  Inv X pins U (upd H a o) { s with heap:=h',toks:=t' }:=I.un (Un.laid k hp (I.hok.fresh hp)) (I.hok.laid k hp new)
theorem Inv.write {x e:Addr} {o:HO} {t':Nat} (I:Inv X pins U H s) (mu:Mut (H x)) (he:e=x\/H e=some (.own x)) (k:∀b u,b≠e->s.heap.get? b=some u->h'.get? b=some u) (heo:∃u,h'.get? e=some u)
  (new:bt X.prog X.w (upd H x o) h' x o):Inv X pins U (upd H x o) { s with heap:=h',toks:=t' }:=I.un (Un.write mu he k heo) (I.hok.write mu he k heo new)
theorem Inv.weak {U':List (Option V)} (I:Inv X pins U H s) (hl:U'.length=U.length) (w:∀(i:Nat) v,U'[i]?=some (some v)->U[i]?=some (some v)):Inv X pins U' H s:=
 ⟨I.ok,I.os,I.bare,I.base,let ⟨m,hn,hl'⟩:=I.loc;⟨m,hn,fun i x v e1 e2 e3=>hl' i x v e1 (w i v e2) e3⟩,I.cell,I.free,I.freeC,I.pin,I.hok,hl.trans I.len⟩
theorem Inv.pins_of {pins':List (Addr×Obj)} (I:Inv X pins U H s) (h:∀p∈pins',s.heap.get? p.1=some p.2/\H p.1=none/\p.1≠X.env.locals/\p.1∉X.fs/\∀v,p.2.data≠.cell v):Inv X pins' U H s:=
 ⟨I.ok,I.os,I.bare,I.base,I.loc,I.cell,I.free,I.freeC,fun p hp=>(List.mem_append.mp hp).elim (fun z=>I.pin p (J3 _ z)) (h p),I.hok,I.len⟩
theorem my {N:List Str} (hN:N.Nodup) {i j:Nat} {x:Str} (a:N[i]?=some x) (b:N[j]?=some x):i=j:=by
 obtain ⟨h1,e1⟩:=List.getElem?_eq_some_iff.mp a
 obtain ⟨h2,e2⟩:=List.getElem?_eq_some_iff.mp b
 exact (List.getElem_inj hN).mp (e1.trans e2.symm)
theorem kd {M:QB} {A:JY} {E:IP->IM->Prop} {i:Nat} {x:Str} {v:V} {u:IP} {Q:Unit->IM->Prop} (I:Inv X pins U H s) (hN:X.N.Nodup) (hi:X.N[i]?=some x) (hx:Loc X.env.scope x) (r:RelV v u)
  (h:∀s',Inv X pins (U.set i (some v)) H s'->(∃a,L5 a s.heap s'.heap/\(a=X.env.locals\/X.env.cells.lookup x=some a))->Q () s') (hf:X.fn x=true\/X.env.scope.names.lookup x=some .local:=by first | exact .inl rfl | exact .inr rfl | assumption):JB M A (storeName X.env x u) Q E s:=by
 obtain ⟨m,hn,hl⟩:=id I.loc
 have hcls:(X.env.scope.kind==.class||(X.env.scope.kind==.module&&X.env.locals != X.env.globals))=false:=by rw [I.ok.kind];rfl
 have hiσ:i < U.length:=by rw [I.len];exact (List.getElem?_eq_some_iff.mp hi).1
 have cne:=I.cne
 have tracked:∀{a:Addr} {h':Heap},(∃o,s.heap.get? a=some o/\H a=none)->L5 a s.heap h'->HOk X.prog X.w H h':=fun {a h'} ha hs b ob e=>by
  obtain ⟨_,_,hfree⟩:=ha
  refine (I.hok b ob e).stay (fun c w' hc q=>(hs.2 c ?_).trans q) (fun _ q=>q) fun _ _ q=>q
  rintro rfl
  rcases hc with rfl | hc
  ·rw [hfree] at e;cases e
  ·rw [hfree] at hc;cases hc
 rcases hx with hk | hk
 ·refine wpAny_storeName_local hk hn (fun h' hn' hs=>?_) hcls
  obtain ⟨oL,_,_,hoL,_⟩:=id hn
  refine h _ ⟨I.ok,I.os,I.bare,⟨fun b o e n hb hx=>?_,fun b o e n hb hx=>?_,I.base.free,fun b o e hx=>?_,I.base.tups,I.base.frzs,I.base.tbls⟩,⟨_,hn',fun j y v' e1 e2 e3=>?_⟩,fun y c e=>?_,I.free,I.freeC,fun p hp=>?_,tracked ⟨oL,hoL,I.free⟩ hs,by simpa using I.len⟩ ⟨_,hs,.inl rfl⟩
  ·exact (hs.2 b (JG (Js (Jg e) I.ok.above))).trans (I.base.keep b o e n hb hx)
  ·obtain ⟨sl,e1⟩:=I.base.slot b o e n hb hx
   exact ⟨sl,(hs.2 b (JG (Js (Jg e) I.ok.above))).trans e1⟩
  ·obtain ⟨o',e1⟩:=I.base.there b o e hx
   exact ⟨o',(hs.2 b (JG (Js (Jg e) I.ok.above))).trans e1⟩
  ·by_cases hj:j=i
   ·subst hj
    rw [hi] at e1;cases e1
    rw [JJ hiσ] at e2
    cases e2
    exact ⟨u,r,.inl ⟨hk,by simp⟩⟩
   ·rw [JO (LS hj)] at e2
    obtain ⟨u',r',q⟩:=hl j y v' e1 e2 e3
    refine ⟨u',r',?_⟩
    rcases q with ⟨k,e⟩ | ⟨k,c,e,z⟩
    ·refine .inl ⟨k,?_⟩
     have:y≠x:=fun e=>hj (my hN e1 (e▸hi))
     simp [this,e]
    ·exact .inr ⟨k,c,e,z.sameBut hs (cne y c e)⟩
  ·obtain ⟨w',z⟩:=I.cell y c e
   exact ⟨w',z.sameBut hs (cne y c e)⟩
  ·obtain ⟨e,n,ne,nf,d⟩:=I.pin p hp
   exact ⟨(hs.2 p.1 ne).trans e,n,ne,nf,d⟩
 ·have hfn:X.fn x=true:=by
   rcases hf with z | z
   ·exact z
   ·rw [z] at hk;cases hk
  obtain ⟨c,hc⟩:=I.ok.has x (.inl hk)
  obtain ⟨w',z⟩:=I.cell x c hc
  refine wpAny_storeName_cell I.ok.kind hk hc z (fun h' hc' hs=>?_)
  obtain ⟨oc,hoc,hocd⟩:=id z
  refine h { s with heap:=h' } ⟨I.ok,I.os,I.bare,⟨fun b o e n hb hx=>?_,fun b o e n hb hx=>?_,I.base.free,fun b o e hx=>?_,I.base.tups,I.base.frzs,I.base.tbls⟩,⟨m,hn.sameBut hs (LS (cne x c hc)),fun j y v' e1 e2 e3=>?_⟩,fun y c' e=>?_,I.free,I.freeC,fun p hp=>?_,tracked ⟨oc,hoc,I.freeC x c hc⟩ hs,by simpa using I.len⟩ ⟨c,hs,.inr hc⟩
  ·exact (hs.2 b (JG (Js (Jg e) (I.ok.cab x c hfn hc)))).trans (I.base.keep b o e n hb hx)
  ·obtain ⟨sl,e1⟩:=I.base.slot b o e n hb hx
   exact ⟨sl,(hs.2 b (JG (Js (Jg e) (I.ok.cab x c hfn hc)))).trans e1⟩
  ·obtain ⟨o',e1⟩:=I.base.there b o e hx
   exact ⟨o',(hs.2 b (JG (Js (Jg e) (I.ok.cab x c hfn hc)))).trans e1⟩
  ·by_cases hj:j=i
   ·subst hj
    rw [hi] at e1;cases e1
    rw [JJ hiσ] at e2
    cases e2
    exact ⟨u,r,.inr ⟨.inl hk,c,hc,hc'⟩⟩
   ·rw [JO (LS hj)] at e2
    obtain ⟨u',r',q⟩:=hl j y v' e1 e2 e3
    refine ⟨u',r',?_⟩
    rcases q with q | ⟨k,c',e,z'⟩
    ·exact .inl q
    ·refine .inr ⟨k,c',e,z'.sameBut hs ?_⟩
     rintro rfl
     exact hj (my hN e1 (I.ok.inj _ _ _ e hc▸hi))
  ·by_cases hcc:c'=c
   ·subst hcc;exact ⟨_,hc'⟩
   ·obtain ⟨w2,z2⟩:=I.cell y c' e
    exact ⟨w2,z2.sameBut hs hcc⟩
  ·obtain ⟨e,n,ne,nf,d⟩:=I.pin p hp
   refine ⟨(hs.2 p.1 ?_).trans e,n,ne,nf,d⟩
   intro q
   rw [q,hoc] at e
   have q':oc=p.2:=Jx e
   exact d w' (by rw [<- q'];exact hocd)
theorem fR {M:QB} {A:JY} {E:IP->IM->Prop} {i:Nat} {x:Str} {v:V} {u:IP} {Q:Unit->IM->Prop} (I:Inv X pins U H s) (hN:X.N.Nodup) (hi:X.N[i]?=some x) (hx:Loc X.env.scope x) (r:RelV v u)
  (h:∀s',Inv X pins (U.set i (some v)) H s'->Q () s') (hf:X.fn x=true\/X.env.scope.names.lookup x=some .local:=by first | exact .inl rfl | exact .inr rfl | assumption):JB M A (storeName X.env x u) Q E s:=
 kd I hN hi hx r (fun s' I' _=>h s' I') hf
theorem Inv.call' {s':IM} {ch:List Addr} (I:Inv X pins U H s) (ho:s'.os=s.os) (u:Un (frs X.stack) ch H H' s.heap s'.heap) (hok:HOk X.prog X.w H' s'.heap) (hg:N4 s'.gens)
  (hch:∀b∈ch,(b∈X.ex\/X.s₀.heap.objs.size<=b)/\b≠X.env.locals/\(∀x c,X.env.cells.lookup x=some c->c≠b)/\∀p∈X.pn++pins,p.1≠b):Inv X pins U H' s':=by
 obtain ⟨h',g',d',t',o'⟩:=s'
 have e:o'=s.os:=ho
 subst e
 exact I.call (g':=g') (t':=t') (d':=d') u hok hg hch
end
abbrev XK:=IP->Option Addr->Hp->Prop
abbrev St:=List (Option V)
abbrev VK:=V->Hp->Prop
abbrev TE:=St->Hp->VK->Prop
abbrev TT:=St->Hp->(Bool->Hp->Prop)->Prop
abbrev TA:=St->Hp->(List V->Hp->Prop)->Prop
structure Ends where
 nx:St->Hp->Prop
 rt:VK
 bk:St->Hp->Prop:=fun _ _=>False
 ct:St->Hp->Prop:=fun _ _=>False
abbrev TS:=Ends->St->Hp->Prop
def EP (X:Cx) (pins:List (Addr×Obj)) (U:St) (Q:VK) (u:IP) (s':IM):Prop:=∃v H',Inv X pins U H' s'/\RelV v u/\Q v H'
def TP (X:Cx) (pins:List (Addr×Obj)) (U:St) (Q:Bool->Hp->Prop) (b:Bool) (s':IM):Prop:=∃H',Inv X pins U H' s'/\Q b H'
def AP (X:Cx) (pins:List (Addr×Obj)) (U:St) (Q:List V->Hp->Prop) (us:List IP) (s':IM):Prop:=∃vs H',Inv X pins U H' s'/\Vals vs us/\Q vs H'
def SP (X:Cx) (pins:List (Addr×Obj)) (D:Ends) (f:Flow) (s':IM):Prop:=
 match f with
 | .next=>∃ U' H',Inv X pins U' H' s'/\D.nx U' H'
 | .brk=>∃ U' H',Inv X pins U' H' s'/\D.bk U' H'
 | .cont=>∃ U' H',Inv X pins U' H' s'/\D.ct U' H'
 | .ret u=>∃v U' H',Inv X pins U' H' s'/\RelV v u/\D.rt v H'
def PE (X:Cx) (e:Expr) (t:TE):Prop:=
 ∀(pins:List (Addr×Obj)) (s:IM) (U:St) (H:Hp) (Q:VK),Inv X pins U H s->t U H Q->JB (JD X.prog X.w) X.A (eval e X.env) (EP X pins U Q) X.xe s
def PT (X:Cx) (e:Expr) (t:TT):Prop:=
 ∀(pins:List (Addr×Obj)) (s:IM) (U:St) (H:Hp) (Q:Bool->Hp->Prop),Inv X pins U H s->t U H Q->JB (JD X.prog X.w) X.A (Qh e X.env (eval e X.env)) (TP X pins U Q) X.xe s
def PW (X:Cx) (e:Expr) (t:TT):Prop:=
 ∀(whole:Sem IP) (pins:List (Addr×Obj)) (s:IM) (U:St) (H:Hp) (Q:Bool->Hp->Prop),Inv X pins U H s->t U H Q->JB (JD X.prog X.w) X.A (Qh e X.env whole) (TP X pins U Q) X.xe s
theorem PW.pt {X:Cx} {e:Expr} {t:TT} (h:PW X e t):PT X e t:=h _
def PA (X:Cx) (es:List Expr) (t:TA):Prop:=
 ∀(pos:Pos) (pins:List (Addr×Obj)) (s:IM) (U:St) (H:Hp) (Q:List V->Hp->Prop),Inv X pins U H s->t U H Q->JB (JD X.prog X.w) X.A (spliced (K8 pos (Jf es X.env))) (AP X pins U Q) X.xe s
def PS (X:Cx) (st:Stmt) (t:TS):Prop:=
 ∀(pins:List (Addr×Obj)) (s:IM) (U:St) (H:Hp) (D:Ends),Inv X pins U H s->t D U H->JB (JD X.prog X.w) X.A (exec st X.env) (SP X pins D) X.xe s
def PSs (X:Cx) (st:List Stmt) (t:TS):Prop:=
 ∀(pins:List (Addr×Obj)) (s:IM) (U:St) (H:Hp) (D:Ends),Inv X pins U H s->t D U H->JB (JD X.prog X.w) X.A (execs st X.env) (SP X pins D) X.xe s
theorem thn {α:Type} {t:Sem α} {Q Q':α->IM->Prop} {M:QB} {A:JY} {E:IP->IM->Prop} {s:IM} (h:JB M A t Q E s) (hQ:∀a s,Q a s->Q' a s):JB M A t Q' E s:=J9 h hQ fun _ _ x=>x
end L2
namespace L2
open PySem PySem.Spec PyProof.Rows
section
variable {X:Cx}
def cF (i:Nat):TE:=fun U H Q=>∃v,U[i]?=some (some v)/\Q v H
def tC (v:V):TE:=fun _ H Q=>Q v H
theorem BJ {i:Nat} {x:Str} {pos:Pos} (hN:X.N[i]?=some x) (hv:Vis X.env.scope x) (hd:(x==("__debug__":Str))=false:=by decide) (hcd:(x==("__classdict__":Str))=false:=by decide):PE X (.Name x pos) (cF i):=by
 intro pins s U H Q I h
 obtain ⟨v,e,h⟩:=h
 obtain ⟨m,hn,hl⟩:=I.loc
 obtain ⟨u,r,l⟩:=hl i x v hN e hv
 have fin:EP X pins U Q u s:=⟨v,H,I,r,h⟩
 rcases l with ⟨hk,hm⟩ | ⟨hk,c,hc,hcell⟩
 ·exact Qt (wpAny_loadName_local I.ok.kind hk hn hm fin) hd
 ·rcases hk with hk | hk
  ·exact Qt (wpAny_loadName_cell I.ok.kind hk hc hcell fin) hd
  ·exact Qt (wpAny_loadName_free I.ok.kind hk hc hcell fin hcd) hd
theorem gR {i j pos}:PE X (.Constant (.int i) j pos) (tC (.int i)):=fun _ _ _ H _ I h=>wpAny_Constant_int ⟨.int i,H,I.tok _,⟨_,rfl⟩,h⟩
theorem EJ {b j pos}:PE X (.Constant (.bool b) j pos) (tC (.bl b)):=fun _ _ _ H _ I h=>Constant_bool ⟨.bl b,H,I,rfl,h⟩
theorem BK {j pos}:PE X (.Constant .none j pos) (tC .non):=fun _ _ _ H _ I h=>Constant_none ⟨.non,H,I,rfl,h⟩
theorem BL {x j pos}:PE X (.Constant (.str x) j pos) (tC (.str x)):=fun _ _ _ H _ I h=>Calls.Constant_str ⟨.str x,H,I.tok _,⟨_,rfl⟩,h⟩
def Gl (X:Cx) (x:Str):Prop:=X.env.kindOf x=some .globalImplicit
theorem pF {E:IP->IM->Prop} {pins:List (Addr×Obj)} {s:IM} {U:St} {H:Hp} {x:Str} {u:IP} {pos:Pos} {Q:IP->IM->Prop} (I:Inv X pins U H s) (hg:Gl X x) (hm:X.mg x=some u) (h:Q u s)
  (hd:(x==("__debug__":Str))=false:=by decide):JB (JD X.prog X.w) X.A (eval (.Name x pos) X.env) Q E s:=
 Nk I.ok.kind hg (Calls.loadGlobal_global (by rw [I.ok.glob];exact I.mod.glob.keeps I.bk) hm h) hd
theorem fC {E:IP->IM->Prop} {pins:List (Addr×Obj)} {s:IM} {U:St} {H:Hp} {x:Str} {u:IP} {pos:Pos} {Q:IP->IM->Prop} (I:Inv X pins U H s) (hg:Gl X x) (hm:X.mg x=none) (hv:J1 x=some u) (h:Q u s)
  (hn:x≠"__name__":=by decide) (hd:(x==("__debug__":Str))=false:=by decide):JB (JD X.prog X.w) X.A (eval (.Name x pos) X.env) Q E s:=by
 obtain ⟨mb,h1,h2⟩:=I.mod.blt
 exact Nk I.ok.kind hg (Calls.loadGlobal_builtin (by rw [I.ok.glob];exact I.mod.glob.keeps I.bk) hm (by rw [I.ok.blt];exact h1.keeps I.bk) ((h2 x hn).trans hv) h) hd
theorem xn {x:Str} {v:V} {u:IP} {pos:Pos} (hg:Gl X x) (hm:X.mg x=some u) (r:RelV v u) (hd:(x==("__debug__":Str))=false:=by decide):PE X (.Name x pos) (tC v):=
 fun _ _ _ H _ I h=>pF I hg hm ⟨v,H,I,r,h⟩ hd
theorem iK {x:Str} {v:V} {u:IP} {pos:Pos} (hg:Gl X x) (hm:X.mg x=none) (hv:J1 x=some u) (r:RelV v u) (hn:x≠"__name__":=by decide) (hd:(x==("__debug__":Str))=false:=by decide):PE X (.Name x pos) (tC v):=
 fun _ _ _ H _ I h=>fC I hg hm hv ⟨v,H,I,r,h⟩ hn hd
variable {a b:Expr} {ta tb:TE} {pos:Pos}
def tB (t:TE):TT:=fun U H Q=>t U H fun x H1=>∃c,x=.bl c/\Q c H1
theorem BM {e:Expr} {t:TE} (h:PE X e t) (he:∀whole,Qh e X.env whole=(do let v <- whole;Mp e.pos;N5 [v] (QJ v)):=by intro _;rfl):PT X e (tB t):=by
 intro pins s U H Q I hw
 refine isTrue_plain (thn (h pins s U H _ I hw) fun v s1 zr1=>?_) (he _)
 obtain ⟨x,H1,I1,r1,q1⟩:=zr1
 obtain ⟨d,rfl,q⟩:=q1
 cases r1
 exact LJ ⟨H1,I1,q⟩
variable {tA tB':TT} {rest:List Expr}
def EK (t u:TT):TT:=fun U H Q=>t U H fun c H1=>if c=true then u U H1 Q else Q false H1
def tOr (t u:TT):TT:=fun U H Q=>t U H fun c H1=>if c=true then Q true H1 else u U H1 Q
def EL (t:TT):TT:=fun U H Q=>t U H fun c H1=>Q (!c) H1
theorem xo (ha:PT X a tA):PW X (.BoolOp .And [a] pos) tA:=by
 intro wh pins s U H Q I h
 refine isTrue_and (thn (ha pins s U H Q I h) fun c s1 e=>?_)
 cases c with
 | true=>exact isTrue_and_nil e
 | false=>exact e
theorem BN (ha:PT X a tA):PW X (.BoolOp .Or [a] pos) tA:=by
 intro wh pins s U H Q I h
 refine isTrue_or (thn (ha pins s U H Q I h) fun c s1 e=>?_)
 cases c with
 | false=>exact isTrue_or_nil e
 | true=>exact e
theorem BO (ha:PT X a tA) (hb:PW X (.BoolOp .And (b::rest) pos) tB'):PW X (.BoolOp .And (a::b::rest) pos) (EK tA tB'):=by
 intro wh pins s U H Q I h
 refine isTrue_and (thn (ha pins s U H _ I h) fun c s1 zr1=>?_)
 obtain ⟨H1,I1,q1⟩:=zr1
 cases c with
 | true=>exact hb wh pins s1 U H1 Q I1 q1
 | false=>exact ⟨H1,I1,q1⟩
theorem EM (ha:PT X a tA) (hb:PW X (.BoolOp .Or (b::rest) pos) tB'):PW X (.BoolOp .Or (a::b::rest) pos) (tOr tA tB'):=by
 intro wh pins s U H Q I h
 refine isTrue_or (thn (ha pins s U H _ I h) fun c s1 zr1=>?_)
 obtain ⟨H1,I1,q1⟩:=zr1
 cases c with
 | true=>exact ⟨H1,I1,q1⟩
 | false=>exact hb wh pins s1 U H1 Q I1 q1
theorem BP (ha:PT X a tA):PT X (.UnaryOp .Not a pos) (EL tA):=by
 intro pins s U H Q I h
 exact isTrue_not (ha pins s U H (fun c H1=>Q (!c) H1) I h)
def Ai (ta tb:TE):TE:=fun U H Q=>ta U H fun x H1=>∃c,x=.bl c/\if c=true then tb U H1 Q else Q (.bl false) H1
def EN (ta tb:TE):TE:=fun U H Q=>ta U H fun x H1=>∃c,x=.bl c/\if c=true then Q (.bl true) H1 else tb U H1 Q
theorem BQ {op} {t:TE} (h:PE X a t):PE X (.BoolOp op [a] pos) t:=fun pins s U H Q I hw=>BoolOp_one (h pins s U H Q I hw)
theorem BR (ha:PE X a ta) (hb:PE X (.BoolOp .And (b::rest) pos) tb):PE X (.BoolOp .And (a::b::rest) pos) (Ai ta tb):=by
 intro pins s U H Q I h
 refine BoolOp_and (thn (ha pins s U H _ I h) fun v s1 zr1=>?_)
 obtain ⟨x,H1,I1,r1,q1⟩:=zr1
 obtain ⟨c,rfl,q1⟩:=q1
 cases r1
 refine LJ ?_
 cases c with
 | true=>exact hb pins s1 U H1 Q I1 q1
 | false=>exact ⟨.bl false,H1,I1,rfl,q1⟩
theorem EO (ha:PE X a ta) (hb:PE X (.BoolOp .Or (b::rest) pos) tb):PE X (.BoolOp .Or (a::b::rest) pos) (EN ta tb):=by
 intro pins s U H Q I h
 refine BoolOp_or (thn (ha pins s U H _ I h) fun v s1 zr1=>?_)
 obtain ⟨x,H1,I1,r1,q1⟩:=zr1
 obtain ⟨c,rfl,q1⟩:=q1
 cases r1
 refine LJ ?_
 cases c with
 | false=>exact hb pins s1 U H1 Q I1 q1
 | true=>exact ⟨.bl true,H1,I1,rfl,q1⟩
def tIf (t:TT) (ta tb:TE):TE:=fun U H Q=>t U H fun c H1=>if c=true then ta U H1 Q else tb U H1 Q
theorem sJ {c:Expr} (hc:PT X c tA) (ha:PE X a ta) (hb:PE X b tb):PE X (.IfExp c a b pos) (tIf tA ta tb):=by
 intro pins s U H Q I h
 refine wpAny_IfExp (thn (hc pins s U H _ I h) fun d s1 zr1=>?_)
 obtain ⟨H1,I1,q1⟩:=zr1
 cases d with
 | true=>exact ha pins s1 U H1 Q I1 q1
 | false=>exact hb pins s1 U H1 Q I1 q1
end
end L2
namespace L2
open PySem PySem.Spec PyProof.Rows
def SqL (K:IJ) (H:Hp) (a:Addr) (xs:List V):Prop:=
 Rd H a (.lst xs) \/
  ∃(o:Obj) (its:Array IP) (n:Nat),K.lookup a=some o/\o.cls=.type "list"/\o.dict=none/\o.data=.seq its n/\its.size<=JA/\Vals xs its.toList
def SqT (K:IJ) (H:Hp) (a:Addr) (xs:List V):Prop:=
 Rd H a (.tup xs) \/
  ∃(o:Obj) (its:Array IP) (n:Nat),K.lookup a=some o/\o.cls=.type "tuple"/\o.data=.seq its n/\its.size<=JA/\Vals xs its.toList
def Ia:IP->Option V
 | .none=>some .non
 | .bool b=>some (.bl b)
 | .int i _=>some (.int i)
 | .str x _=>some (.str x)
 | .bytes b _=>some (.byt b)
 | .float b _=>some (.flt b)
 | .ref a=>some (.ref a)
 | .type n=>some (.ty n)
 | _=>none
theorem RelV.abs {x:V} {u:IP} (r:RelV x u):Ia u=some x:=by
 cases x with
 | non=>cases r;rfl
 | bl _=>cases r;rfl
 | int _=>obtain ⟨t,rfl⟩:=r;rfl
 | str _=>obtain ⟨t,rfl⟩:=r;rfl
 | byt _=>obtain ⟨t,rfl⟩:=r;rfl
 | flt _=>obtain ⟨t,rfl⟩:=r;rfl
 | ref _=>cases r;rfl
 | ty _=>cases r;rfl
theorem RelV.inj {x y:V} {u:IP} (r:RelV x u) (q:RelV y u):x=y:=Jx (r.abs.symm.trans q.abs)
theorem Vals.inj:∀{xs ys:List V} {us:List IP},Vals xs us->Vals ys us->xs=ys
 | _,_,_,.nil,.nil=>rfl
 | _,_,_,.cons r t,.cons r' t'=>by rw [r.inj r',Vals.inj t t']
section
variable {X:Cx} {pins:List (Addr×Obj)} {U:St} {H:Hp} {s:IM} {a:Addr} {xs ys:List V}
theorem Inv.list (I:Inv X pins U H s) (h:SqL X.K H a xs):∃its:List IP,Vals xs its/\PlainL s.heap a its.toArray/\xs.length<=JA:=by
 rcases h with h | ⟨o,its,n,hk,hc,hd,hs,hz,r⟩
 ·obtain ⟨z,its,n,r,e⟩:=h.ok I.hok
  exact ⟨its,r,⟨_,n,e,rfl,rfl,rfl⟩,z⟩
 ·refine ⟨its.toList,r,⟨o,n,I.kIn a o hk,hc,hd,by simpa using hs⟩,?_⟩
  have e:=r.length
  simp only [Jl] at e
  omega
theorem Inv.tuple (I:Inv X pins U H s) (h:SqT X.K H a xs):∃its:List IP,Vals xs its/\IsTup s.heap a its.toArray/\xs.length<=JA:=by
 rcases h with h | ⟨o,its,n,hk,hc,hs,hz,r⟩
 ·obtain ⟨z,its,r,p⟩:=h.ok I.hok
  exact ⟨its,r,p,z⟩
 ·refine ⟨its.toList,r,⟨o,I.kIn a o hk,hc,n,by simpa using hs⟩,?_⟩
  have e:=r.length
  simp only [Jl] at e
  omega
theorem Inv.list_inj (I:Inv X pins U H s) (h:SqL X.K H a xs) (h':SqL X.K H a ys):xs=ys:=by
 obtain ⟨its,r,⟨o,n,e,_,_,d⟩,_⟩:=I.list h
 obtain ⟨its',r',⟨o',n',e',_,_,d'⟩,_⟩:=I.list h'
 rw [e] at e';cases e'
 rw [d] at d'
 injection d' with d1 _
 have:its=its':=by simpa using congrArg Array.toList d1
 subst this
 exact r.inj r'
end
abbrev Cx.wish (X:Cx) (E:IP->IM->Prop):Cx:={ X with xe:=E }
abbrev Cx.nox (X:Cx):Cx:=X.wish fun _ _=>False
theorem Cx.Ok.wish {X:Cx} (ok:X.Ok) (E:IP->IM->Prop):(X.wish E).Ok:=
 ⟨ok.mod,ok.kind,ok.glob,ok.blt,ok.above,ok.inj,ok.has,ok.cab,ok.hd,ok.frames,ok.stk,ok.exf,ok.bs,ok.bsz,ok.noex,ok.exfs,ok.funs,ok.frf⟩
theorem Cx.Ok.unwish {X:Cx} {E:IP->IM->Prop} (ok:(X.wish E).Ok):X.Ok:=
 ⟨ok.mod,ok.kind,ok.glob,ok.blt,ok.above,ok.inj,ok.has,ok.cab,ok.hd,ok.frames,ok.stk,ok.exf,ok.bs,ok.bsz,ok.noex,ok.exfs,ok.funs,ok.frf⟩
section
variable {X:Cx} {pins:List (Addr×Obj)} {U:St} {H:Hp} {s:IM} {E:IP->IM->Prop}
theorem Inv.wish (I:Inv X pins U H s) (E:IP->IM->Prop):Inv (X.wish E) pins U H s:=⟨I.ok.wish E,I.os,I.bare,I.base,I.loc,I.cell,I.free,I.freeC,I.pin,I.hok,I.len⟩
theorem Inv.unwish (I:Inv (X.wish E) pins U H s):Inv X pins U H s:=⟨I.ok.unwish,I.os,I.bare,I.base,I.loc,I.cell,I.free,I.freeC,I.pin,I.hok,I.len⟩
theorem SP.unwish {D:Ends} {f:Flow} {s':IM} (h:SP (X.wish E) pins D f s'):SP X pins D f s':=by
 cases f with
 | next=>obtain ⟨U',H',I,q⟩:=h;exact ⟨U',H',I.unwish,q⟩
 | brk=>obtain ⟨U',H',I,q⟩:=h;exact ⟨U',H',I.unwish,q⟩
 | cont=>obtain ⟨U',H',I,q⟩:=h;exact ⟨U',H',I.unwish,q⟩
 | ret u=>obtain ⟨v,U',H',I,r,q⟩:=h;exact ⟨v,U',H',I.unwish,r,q⟩
theorem PSs.nox {st:List Stmt} {t:TS} (h:PSs X.nox st t):PSs X st t:=fun pins s U H D I hw=>
 J9 (h pins s U H D (I.wish _) hw) (fun _ _ q=>q.unwish) fun _ _ z=>LK z
end
section
variable {X:Cx} {st:Stmt} {rest:List Stmt} {t u:TS} {e:Expr} {te:TE} {pos:Pos}
def Aj:TS:=fun D U H=>D.nx U H
def ER (t u:TS):TS:=fun D U H=>t { D with nx:=u D } U H
theorem xp:PSs X [] Aj:=fun _ _ U H _ I h=>M7 ⟨U,H,I,h⟩
theorem sL (h1:PS X st t) (h2:PSs X rest u):PSs X (st::rest) (ER t u):=by
 intro pins s U H D I h
 refine wpAny_execs_cons (thn (h1 pins s U H { D with nx:=u D } I h) fun f s1 q=>?_)
 cases f with
 | next=>
  obtain ⟨U',H',I',q⟩:=q
  exact h2 pins s1 U' H' D I' q
 | ret v=>exact q
 | brk=>exact q
 | cont=>exact q
theorem xq (h1:PS X st t):PSs X [st] t:=by
 intro pins s U H D I h
 refine wpAny_execs_cons (thn (h1 pins s U H D I h) fun f s1 q=>?_)
 cases f with
 | next=>exact M7 q
 | ret v=>exact q
 | brk=>exact q
 | cont=>exact q
theorem Inv.quiet {pins:List (Addr×Obj)} {U:St} {H:Hp} {s:IM} (I:Inv X pins U H s):interactive X.env=false:=by simp [interactive,I.ok.kind]
def Ak (te:TE):TS:=fun D U H=>te U H fun _ H1=>D.nx U H1
theorem xr (he:PE X e te) (hs:LW e none pos.line X.env=pure false:=by rfl):PS X (.Expr e pos) (Ak te):=by
 intro pins s U H D I h
 exact wpAny_Expr_any (thn (he pins s U H _ I h) fun v s1 zt1=>by obtain ⟨x,H1,I1,r1,q1⟩:=zt1;exact ⟨U,H1,I1,q1⟩) I.quiet hs
def ES (te:TE):TS:=fun D U H=>te U H D.rt
theorem BS (he:PE X e te):PS X (.Return (some e) pos) (ES te):=by
 intro pins s U H D I h
 exact wpAny_Return_some (thn (he pins s U H _ I h) fun v s1 zt1=>by obtain ⟨x,H1,I1,r1,q1⟩:=zt1;exact ⟨x,U,H1,I1,r1,q1⟩)
def ET (c:TT) (t u:TS):TS:=fun D U H=>c U H fun b H1=>if b=true then t D U H1 else u D U H1
theorem EU {c:Expr} {a b:List Stmt} {tc:TT} (hc:PT X c tc) (ha:PSs X a t) (hb:PSs X b u):PS X (.If c a b pos) (ET tc t u):=by
 intro pins s U H D I h
 refine wpAny_If (thn (hc pins s U H _ I h) fun d s1 zr1=>?_)
 obtain ⟨H1,I1,q1⟩:=zr1
 cases d with
 | true=>exact ha pins s1 U H1 D I1 q1
 | false=>exact hb pins s1 U H1 D I1 q1
def sM:TS:=fun _ _ _=>False
theorem sN:PS X st sM:=fun _ _ _ _ _ _ h=>h.elim
end
abbrev TG:=V->St->Hp->(St->Hp->Prop)->Prop
abbrev TGs:=List V->St->Hp->(St->Hp->Prop)->Prop
def PG (X:Cx) (target:Expr) (t:TG):Prop:=
 ∀(pins:List (Addr×Obj)) (s:IM) (U:St) (H:Hp) (v:V) (u:IP) (Q:St->Hp->Prop),Inv X pins U H s->RelV v u->t v U H Q ->
  JB (JD X.prog X.w) X.A (Oe target X.env u) (fun _ s'=>∃ U' H',Inv X pins U' H' s'/\Q U' H') X.xe s
def PGs (X:Cx) (ts:List Expr) (t:TGs):Prop:=
 ∀(pins:List (Addr×Obj)) (s:IM) (U:St) (H:Hp) (vs:List V) (us:List IP) (Q:St->Hp->Prop),Inv X pins U H s->Vals vs us->t vs U H Q ->
  JB (JD X.prog X.w) X.A (Pg ((K9 ts X.env).map (·.2)) us) (fun _ s'=>∃ U' H',Inv X pins U' H' s'/\Q U' H') X.xe s
abbrev BU:=V->V->V->Hp->(Hp->Prop)->Prop
def EW (X:Cx) (t:BU):Prop:=
 ∀(pins:List (Addr×Obj)) (s:IM) (U:St) (H:Hp) (o i v:V) (ov iv u:IP) (Q:Hp->Prop),Inv X pins U H s->RelV o ov->RelV i iv->RelV v u->t o i v H Q ->
  JB (JD X.prog X.w) X.A (QC ov iv u) (fun _ s'=>∃H',Inv X pins U H' s'/\Q H') X.xe s
section
variable {X:Cx} {pos:Pos}
def bJ (i:Nat):TG:=fun v U H Q=>Q (U.set i (some v)) H
theorem ao {i:Nat} {x:Str} (hN:X.N.Nodup) (hi:X.N[i]?=some x) (hx:Loc X.env.scope x) (hf:X.fn x=true\/X.env.scope.names.lookup x=some .local:=by first | exact .inl rfl | exact .inr rfl | assumption):PG X (.Name x pos) (bJ i):=by
 intro pins s U H v u Q I r h
 exact PH (fR I hN hi hx r (fun s' I'=>⟨_,H,I',h⟩) hf)
def sO:TGs:=fun vs U H Q=>vs=[]/\Q U H
def iy (t:TG) (u:TGs):TGs:=fun vs U H Q=>∃v r,vs=v::r/\t v U H fun U' H'=>u r U' H' Q
theorem xt:PGs X [] sO:=by
 intro pins s U H vs us Q I r h
 obtain ⟨e,h⟩:=h
 subst e
 cases r
 exact PJ ⟨U,H,I,h⟩
theorem sP {e:Expr} {es:List Expr} {t:TG} {u:TGs} (h1:PG X e t) (h2:PGs X es u)
  (hs:(K9 (e::es) X.env).map (·.2)=Oe e X.env::(K9 es X.env).map (·.2):=by rfl):PGs X (e::es) (iy t u):=by
 intro pins s U H vs us Q I r h
 obtain ⟨v,vr,e1,h⟩:=h
 subst e1
 cases r with
 | cons r rr=>
  rw [hs]
  refine Nq (thn (h1 pins s U H _ _ _ I r h) fun _ s1 zr1=>?_)
  obtain ⟨U1,H1,I1,q1⟩:=zr1
  exact h2 pins s1 U1 H1 _ _ Q I1 rr q1
def sQ (K:IJ) (n:Nat) (t:TGs):TG:=fun v U H Q=>∃a xs,v=.ref a/\SqT K H a xs/\xs.length=n/\t xs U H Q
theorem BV {es:List Expr} {k:Nat} {t:TGs} {n:Nat} (hc:X.calm=true) (h:PGs X es t)
  (hn:(K9 es X.env).length=n:=by rfl) (hst:(K9 es X.env).findIdx? (·.1)=none:=by rfl):PG X (.Tuple es k pos) (sQ X.K n t):=by
 intro pins s U H v u Q I r hw
 obtain ⟨a,xs,e1,hq,hl,hw⟩:=hw
 subst e1
 cases r
 obtain ⟨its,rv,ht,hz⟩:=I.tuple hq
 refine assign_Tuple_tuple (I.ok.hd hc) ht (by simp [hn,<- hl,rv.length]) hst fun h' hx=>?_
 have I1:Inv X pins U H { s with heap:=h' }:=I.kept (t':=s.toks) fun b o e=>hx b o (JG (Jg e)) e
 exact h pins _ U H xs _ Q I1 (by simpa using rv) hw
def BW (to ti:TE) (t:BU):TG:=fun v U H Q=>to U H fun o H1=>ti U H1 fun i H2=>t o i v H2 fun H3=>Q U H3
theorem BX {o i:Expr} {to ti:TE} {t:BU} (ho:PE X o to) (hi:PE X i ti) (hs:EW X t)
  (ha:∀v,Oe (.Subscript o i pos) X.env v=(do
   let ov <- N5 [v] (eval o X.env)
   let iv <- N5 [v,ov] (eval i X.env)
   Mp pos
   N5 [v,ov,iv] (QC ov iv v)
   release [v,ov,iv] []):=by intro _;rfl):PG X (.Subscript o i pos) (BW to ti t):=by
 intro pins s U H v u Q I r h
 rw [ha]
 refine II (J5 (thn (ho pins s U H _ I h) fun ov s1 zr1=>?_))
 obtain ⟨x,H1,I1,r1,q1⟩:=zr1
 refine II (J5 (thn (hi pins s1 U H1 _ I1 q1) fun iv s2 zr1=>?_))
 obtain ⟨y,H2,I2,r2,q2⟩:=zr1
 refine II (KR (II (J5 (thn (hs pins s2 U H2 x y v ov iv u _ I2 r1 r2 r q2) fun _ s3 zr1=>?_))))
 obtain ⟨H3,I3,q3⟩:=zr1
 exact wpAny_release ⟨U,H3,I3,q3⟩
def dD (te:TE) (g:TG):TS:=fun D U H=>te U H fun x H1=>g x U H1 D.nx
theorem nX {tg e:Expr} {te:TE} {g:TG} (he:PE X e te) (hg:PG X tg g) (hs:MT [tg] e pos.line X.env=pure false:=by rfl) (hw:MU [tg] e X.env=pure none:=by rfl)
  (h1:(K9 [tg] X.env).map (·.2)=[Oe tg X.env]:=by rfl):PS X (.Assign [tg] e pos) (dD te g):=by
 intro pins s U H D I h
 refine wpAny_Assign_stores (thn (he pins s U H _ I h) fun v s1 zr1=>?_) hs hw
 obtain ⟨x,H1,I1,r1,q1⟩:=zr1
 rw [h1]
 exact thn (hg pins s1 U H1 x v _ I1 r1 q1) fun _ s2 q=>q
theorem bU {i:Nat} {x:Str} {e:Expr} {te:TE} {pos':Pos} (hN:X.N.Nodup) (hi:X.N[i]?=some x) (hx:Loc X.env.scope x) (he:PE X e te) (hs:LW e (some (.Name x pos')) pos.line X.env=pure false:=by rfl) (hf:X.fn x=true\/X.env.scope.names.lookup x=some .local:=by first | exact .inl rfl | exact .inr rfl | assumption) :
  PS X (.Assign [.Name x pos'] e pos) (dD te (bJ i)):=by
 intro pins s U H D I h
 refine wpAny_Assign_Name (thn (he pins s U H _ I h) fun v s1 zr1=>?_) hs
 obtain ⟨y,H1,I1,r1,q1⟩:=zr1
 exact fR I1 hN hi hx r1 (fun s2 I2=>⟨_,H1,I2,q1⟩) hf
def sR (i j:Nat) (ta:TA):TS:=fun D U H=>ta U H fun vs H1=>∃v w,vs=[v,w]/\D.nx ((U.set i (some v)).set j (some w)) H1
theorem BY {i j:Nat} {x y:Str} {a b:Expr} {ta:TA} {px py pt:Pos} {kt k2 pt2} (hc:X.calm=true) (hN:X.N.Nodup) (hi:X.N[i]?=some x) (hj:X.N[j]?=some y) (hij:i≠j)
  (hx:X.env.scope.names.lookup x=some .local) (hy:X.env.scope.names.lookup y=some .local) (ha:PA X [a,b] ta)
  (hw:MU [.Tuple [.Name x px,.Name y py] kt pt] (.Tuple [a,b] k2 pt2) X.env=pure (some [x,y]))
  (hs:MT [.Tuple [.Name x px,.Name y py] kt pt] (.Tuple [a,b] k2 pt2) pos.line X.env=pure false:=by rfl) :
  PS X (.Assign [.Tuple [.Name x px,.Name y py] kt pt] (.Tuple [a,b] k2 pt2) pos) (sR i j ta):=by
 intro pins s U H D I h
 rw [exec_Assign_arm]
 refine II (KR ?_)
 rw [hs]
 refine II (IK ?_)
 rw [if_neg (by decide)]
 refine II (Tuple_ (thn (ha _ pins s U H _ I h) fun us s1 zr1=>?_))
 obtain ⟨vs,H1,I1,r1,q1⟩:=zr1
 obtain ⟨v,w,e1,q1⟩:=q1
 subst e1
 obtain ⟨u1,u2,rfl,rv,rw'⟩:∃u1 u2,us=[u1,u2]/\RelV v u1/\RelV w u2:=by
  cases r1 with
  | cons p q=>
   cases q with
   | cons p' q'=>
    cases q'
    exact ⟨_,_,rfl,p,p'⟩
 refine JX ?_ (by show 2<=JA;decide)
 have I2:Inv X pins U H1 { s1 with heap:=s1.heap.push { cls:=.type "tuple",data:=.seq [u1,u2].toArray } }:=I1.kept (t':=s1.toks) fun b o e=>IN _ e
 rw [hw]
 refine II (IK ?_)
 show JB (JD X.prog X.w) X.A (do rule "assign.swapped-stores";let items <- unpackItems (.ref s1.heap.objs.size) 2 none;Pg [fun v=>QE X.env y v,fun v=>QE X.env x v] items.reverse;pure Flow.next) _ _ _
 refine II (La (II (unpackItems_tuple (items:=#[u1,u2]) (I.ok.hd hc) (IsTup.new s1.heap _) fun h' hx'=>?_)))
 have I3:=I2.kept (h':=h') (t':=s1.toks) fun b o e=>hx' b o (JG (Jg e)) e
 show JB _ _ (Pg [fun v=>QE X.env y v,fun v=>QE X.env x v] [u2,u1] >>= fun _=>pure Flow.next) _ _ _
 refine II (Nq (wpAny_bindName (fR I3 hN hj (.inl hy) rw' (fun s2 I4=>?_) (.inr hy))))
 refine Nq (wpAny_bindName (fR I4 hN hi (.inl hx) rv (fun s3 I5=>PJ (IK ?_)) (.inr hx)))
 rw [List.set_comm _ _ (LS hij)] at I5
 exact ⟨_,H1,I5,q1⟩
def EX (X:Cx) (t:V->V->Hp->VK->Prop):Prop:=
 ∀(pins:List (Addr×Obj)) (s:IM) (U:St) (H:Hp) (o i:V) (ov iv:IP) (Q:VK),Inv X pins U H s->RelV o ov->RelV i iv->t o i H Q ->
  JB (JD X.prog X.w) X.A (Qi ov iv) (EP X pins U Q) X.xe s
end
section
variable {X:Cx} {pos:Pos}
def sS (c:TT) (tb:TS):TS:=fun D U H=>∃W:Nat->St->Hp->Prop,(∃m,W m U H)/\∀m U H,W m U H ->
 c U H fun b H1=>if b=true then ∃N:St->Hp->Prop,(∀ U' H',N U' H'->∃m',m' < m/\W m' U' H')/\tb { D with nx:=N,ct:=N,bk:=D.nx } U H1 else D.nx U H1
theorem sT {c:Expr} {body:List Stmt} {tc:TT} {tb:TS} (hp:Qj (JD X.prog X.w) X.A X.env X.xe) (hc:PT X c tc) (hb:PSs X body tb):PS X (.While c body [] pos) (sS tc tb):=by
 intro pins s U H D I h
 obtain ⟨W,⟨m0,w0⟩,turn⟩:=h
 refine wpAny_While (codeAny_whileLoop (fun n s'=>∃ U' H',Inv X pins U' H' s'/\W n U' H') ?_ m0 ⟨U,H,I,w0⟩)
 rintro n s1 ⟨U1,H1,I1,w1⟩
 refine Lj hp (thn (hc pins s1 U1 H1 _ I1 (turn n U1 H1 w1)) fun b s2 zr1=>?_)
 obtain ⟨H2,I2,q2⟩:=zr1
 cases b with
 | true=>
  obtain ⟨N,hN,q2⟩:=q2
  rw [if_pos rfl]
  refine Lj hp (thn (hb pins s2 U1 H2 _ I2 q2) fun f s3 q3=>?_)
  cases f with
  | next=>
   obtain ⟨U3,H3,I3,n3⟩:=q3
   obtain ⟨m',hm,w3⟩:=hN U3 H3 n3
   exact ⟨m',hm,U3,H3,I3,w3⟩
  | cont=>
   obtain ⟨U3,H3,I3,n3⟩:=q3
   obtain ⟨m',hm,w3⟩:=hN U3 H3 n3
   exact ⟨m',hm,U3,H3,I3,w3⟩
  | brk=>exact q3
  | ret v=>exact q3
 | false=>
  rw [if_neg IT]
  exact M7 ⟨U1,H2,I2,q2⟩
end
structure It where
 go:Nat->Hp->Prop
 yld:Nat->Hp->V->Hp->Prop
 stop:Nat->Hp->Prop
def iG (X:Cx) (pins:List (Addr×Obj)) (H:Hp) (b:Addr):Prop:=
 H b=none/\b≠X.env.locals/\b∉X.fs/\(b∈X.ex\/X.s₀.heap.objs.size<=b)/\(∀x c,X.env.cells.lookup x=some c->c≠b)/\∀p∈X.pn++pins,p.1≠b
theorem Inv.fpOk {X:Cx} {pins:List (Addr×Obj)} {U:St} {H H':Hp} {s:IM} {b:Addr} (I:Inv X pins U H s) (hb:s.heap.objs.size<=b) (hn:H' b=none):iG X pins H' b:=by
 refine ⟨hn,Qb (Js I.lt hb),I.nofs hb,.inr (KB I.sz hb),fun x c e z=>?_,fun p hp z=>?_⟩
 ·obtain ⟨v,q⟩:=I.cell x c e
  exact absurd (Js q.lt (by rw [z];exact hb)) (Kp _)
 ·exact absurd (Js (Jg (I.pin p hp).1) (by rw [z];exact hb)) (Kp _)
structure Turn (P:Jp) (w:JQ) (K:IJ) (tg:Expr) (J:It) (fp:List Addr) (it:Addr) (tn:Nat->Heap->Prop):Prop where
 mem:it∈fp
 obj:∀i h,tn i h->∀b∈fp,∃o,h.get? b=some o/\∀v,o.data≠.cell v
 keep:∀i h h',tn i h->(∀b∈fp,∀o,h.get? b=some o->h'.get? b=some o)->tn i h'
 item:∀(X:Cx),X.prog=P->X.w=w->X.K=K->X.calm=true->∀(i:Nat) (pins:List (Addr×Obj)) (s:IM) (U:St) (H:Hp) (E:IP->IM->Prop),Inv X pins U H s->(∀b∈fp,iG X pins H b)->tn i s.heap->J.go i H ->
  JB (JD P w) X.A (Of (.ref it)) (fun r s1=>∃u,r=some u /\
   JB (JD P w) X.A (M8 tg (.ref it) u) (fun _ s2=>∃x H',Inv X pins U H' s2/\RelV x u/\J.yld i H x H'/\tn (i+1) s2.heap/\∀b∈fp,H' b=none) E s1) E s
 done:∀(X:Cx),X.prog=P->X.w=w->X.K=K->X.calm=true->∀(i:Nat) (pins:List (Addr×Obj)) (s:IM) (U:St) (H:Hp) (E:IP->IM->Prop),Inv X pins U H s->(∀b∈fp,iG X pins H b)->tn i s.heap->J.stop i H ->
  JB (JD P w) X.A (Of (.ref it)) (fun r s1=>r=none/\Inv X pins U H s1) E s
 self:∀(A:JY) (i:Nat) (s:IM) (Q:IP->IM->Prop) (E:IP->IM->Prop),tn i s.heap->Q (.ref it) s->JB (JD P w) A (Qu (.ref it)) Q E s
abbrev TI:=St->Hp->(It->Hp->Prop)->Prop
def PIE (X:Cx) (pins:List (Addr×Obj)) (U:St) (tg:Expr) (R:It->Hp->Prop) (itv:IP) (s2:IM):Prop:=
 ∃(it:Addr) (fp:List Addr) (tn:Nat->Heap->Prop) (J:It) (H':Hp),itv=.ref it/\Inv X pins U H' s2/\Turn X.prog X.w X.K tg J fp it tn/\tn 0 s2.heap/\(∀b∈fp,iG X pins H' b)/\R J H'
def PI (X:Cx) (tg iter:Expr) (wi:TI):Prop:=
 ∀(pins:List (Addr×Obj)) (s:IM) (U:St) (H:Hp) (R:It->Hp->Prop),Inv X pins U H s->wi U H R ->
  JB (JD X.prog X.w) X.A (eval iter X.env) (fun v s1=>JB (JD X.prog X.w) X.A (Qu v) (PIE X pins U tg R) X.xe s1) X.xe s
theorem pG {M:QB} {A:JY} {E:IP->IM->Prop} {s:IM} {tg:Expr} {it:Addr} {u:IP} {o:Obj} {n:String} {vs:Array IP} {Q:Unit->IM->Prop} (ho:s.heap.get? it=some o) (hc:o.cls=.type n) (hd:o.data=.fields vs)
    (hn:["enumerate","zip","dict_itemiterator","dict_reverseitemiterator","odict_iterator","itertools.zip_longest","itertools.pairwise"].contains n=false) (hQ:Q () s):JB M A (M8 tg (.ref it) u) Q E s:=by
  unfold M8
  cases tg <;> first
    | exact IK hQ
    | (cases u <;> first
        | exact IK hQ
        | (refine II (wpAny_load ho ?_)
           rw [hc,hd]
           show JB M A (if (["enumerate","zip","dict_itemiterator","dict_reverseitemiterator","odict_iterator","itertools.zip_longest","itertools.pairwise"].contains n&&vs[0]?==some (rawInt _))=true then _ else _) Q E s
           rw [if_neg (by intro h;rw [hn,Bool.false_and] at h;cases h)]
           exact IK hQ))
def Itl (K:IJ) (a:Addr):It:=
 ⟨fun i H=>∃xs x,SqL K H a xs/\xs[i]?=some x,fun i H x H'=>H'=H/\∀xs,SqL K H a xs->xs[i]?=some x,fun i H=>∃xs,SqL K H a xs/\xs.length<=i⟩
def Itr (lo:Int) (n:Nat):It:=⟨fun i _=>i < n,fun i H x H'=>H'=H/\x=.int (lo+i),fun i _=>n<=i⟩
theorem qT {P:Jp} {w:JQ} {K:IJ} {tg:Expr} (a it:Addr):Turn P w K tg (Itl K a) [it] it (fun i h=>h.IsListIter it a i) where
 mem:=by simp
 obj:=fun i h st b hb=>by
  have e:b=it:=by simpa using hb
  subst e
  obtain ⟨o,e,c,d⟩:=st
  exact ⟨o,e,fun v z=>by rw [d] at z;cases z⟩
 keep:=fun i h h' st k=>st.at fun o e=>k it (by simp) o e
 item:=by
  intro X hP hw hK hc i pins s U H E I hf st hg
  subst hP hw hK
  obtain ⟨xs,x,hq,hx⟩:=hg
  obtain ⟨its,rv,p,hz⟩:=I.list hq
  obtain ⟨u,hu,ru⟩:=rv.get hx
  obtain ⟨f0,f1,f2,f3,f4,f5⟩:=hf it (by simp)
  refine wpAny_pyNext_list_item st p.isList (x:=u) (by simpa using hu) fun h' st' sb=>?_
  have I1:Inv X pins U H { s with heap:=h' }:=I.turned (t':=s.toks) (fun b o hb e=>(sb.2 b hb).trans e) f0 f1 f3 f4 f5
  obtain ⟨o,e,c,d⟩:=id st'
  exact ⟨u,rfl,pG (s:={ s with heap:=h' }) e c d (by decide) ⟨x,H,I1,ru,⟨rfl,fun ys hy=>by rw [I.list_inj hy hq];exact hx⟩,st',fun b hb=>(hf b hb).1⟩⟩
 done:=by
  intro X hP hw hK hc i pins s U H E I hf st hg
  subst hP hw hK
  obtain ⟨xs,hq,hx⟩:=hg
  obtain ⟨its,rv,p,hz⟩:=I.list hq
  obtain ⟨f0,f1,f2,f3,f4,f5⟩:=hf it (by simp)
  have hl:=rv.length
  exact wpAny_pyNext_list_end (I.ok.hd hc) st p.isList (by simp;omega) fun h' eb=>⟨rfl,I.turned (t':=s.toks) (fun b o hb e=>eb b o hb e) f0 f1 f3 f4 f5⟩
 self:=fun _ _ _ _ _ st h=>wpAny_pyIter_listiter st h
theorem nY {P:Jp} {w:JQ} {K:IJ} {tg:Expr} (it:Addr) (lo:Int) (n:Nat):Turn P w K tg (Itr lo n) [it] it (fun i h=>O6 h it (lo+(i:Nat)*1) ((n:Int)-(i:Nat)) 1) where
 mem:=by simp
 obj:=fun i h st b hb=>by
  have e:b=it:=by simpa using hb
  subst e
  exact ⟨_,st,fun v z=>by
   have z':N6 _=M9 v:=z
   cases z'⟩
 keep:=fun i h h' st k=>k it (by simp) _ st
 item:=by
  intro X hP hw hK hc i pins s U H E I hf st hg
  subst hP hw hK
  obtain ⟨f0,f1,f2,f3,f4,f5⟩:=hf it (by simp)
  have W:=Walks.range (prog:=X.prog) (w:=X.w) (I.ok.hd hc) it lo 1 n
  refine W.item i s _ _ hg st fun v h' tk hv st' kk=>?_
  obtain ⟨t,rfl⟩:=hv
  have I1:Inv X pins U H { s with heap:=h',toks:=tk }:=I.turned (fun b o hb e=>kk b o (by simpa using hb) e) f0 f1 f3 f4 f5
  refine ⟨_,rfl,pG (s:={ s with heap:=h',toks:=tk }) (n:="range_iterator") st' rfl rfl (by decide) ⟨.int (lo+i),H,I1,⟨t,?_⟩,⟨rfl,rfl⟩,st',fun b hb=>(hf b hb).1⟩⟩
  rw [Int.mul_one]
 done:=by
  intro X hP hw hK hc i pins s U H E I hf st hg
  subst hP hw hK
  obtain ⟨f0,f1,f2,f3,f4,f5⟩:=hf it (by simp)
  exact Om (I.ok.hd hc) st (by have:n<=i:=hg;omega) fun h' eb=>⟨rfl,I.turned (t':=s.toks) (fun b o hb e=>eb b o hb e) f0 f1 f3 f4 f5⟩
 self:=fun _ _ _ _ _ st h=>On st h
end L2
namespace L2
open PySem PySem.Spec PyProof.Rows
section
variable {X:Cx} {tg:Expr}
def Al (K:IJ) (tl:TE):TI:=fun U H R=>tl U H fun x H1=>∃a,x=.ref a/\(∃xs,SqL K H1 a xs)/\R (Itl K a) H1
theorem xu {l:Expr} {tl:TE} (hl:PE X l tl):PI X tg l (Al X.K tl):=by
 intro pins s U H R I h
 refine thn (hl pins s U H _ I h) fun v s1 zr1=>?_
 obtain ⟨x,H1,I1,r1,q1⟩:=zr1
 obtain ⟨a,e,⟨xs,hq⟩,q⟩:=q1
 subst e
 cases r1
 obtain ⟨its,rv,p,hz⟩:=I1.list hq
 refine PK p.isList ?_
 refine ⟨s1.heap.objs.size,[s1.heap.objs.size],_,_,H1,rfl,I1.kept (t':=s1.toks) fun b o e=>IN _ e,qT a _,⟨_,Je _ rfl,rfl,rfl⟩,fun b hb=>?_,q⟩
 have e:b=s1.heap.objs.size:=by simpa using hb
 subst e
 exact I1.fpOk (IS _) (I1.hok.fresh (IS _))
theorem mz {pins:List (Addr×Obj)} {U:St} {H:Hp} {s:IM} {R:It->Hp->Prop} {E:IP->IM->Prop} {lo hi:Int} {t u v:Tok} {tk:Nat} (I:Inv X pins U H s) (h1:-(2 ^ 62)<=lo) (h2:lo < 2 ^ 62) (h3:-(2 ^ 62)<=hi) (h4:hi < 2 ^ 62)
  (q:R (Itr lo (hi-lo).toNat) H):JB (JD X.prog X.w) X.A (Qu (.ref s.heap.objs.size)) (PIE X pins U tg R) E { s with heap:=s.heap.push { cls:=.type "range",data:=.fields #[.int lo t,.int hi u,.int 1 v] },toks:=tk }:=by
 refine Ph (IsRange.new ..) (small_one h1 h2 h3 h4) ?_
 have I1:Inv X pins U H { s with heap:=s.heap.push { cls:=.type "range",data:=.fields #[.int lo t,.int hi u,.int 1 v] },toks:=tk }:=I.kept fun b o e=>IN _ e
 refine ⟨(s.heap.push { cls:=.type "range",data:=.fields #[.int lo t,.int hi u,.int 1 v] }).objs.size,[(s.heap.push { cls:=.type "range",data:=.fields #[.int lo t,.int hi u,.int 1 v] }).objs.size],_,_,H,rfl,
  I1.kept (t':=tk) fun b o e=>IN _ e,nY _ lo (hi-lo).toNat,?_,fun b hb=>?_,q⟩
 ·have e1:lo+((0:Nat):Int)*1=lo:=by simp
  have e2:(((hi-lo).toNat:Nat):Int)-((0:Nat):Int)=Jr lo hi 1:=by rw [rangeSize_one];split <;> omega
  show O6 _ _ (lo+((0:Nat):Int)*1) ((((hi-lo).toNat:Nat):Int)-((0:Nat):Int)) 1
  rw [e1,e2]
  exact Je _ rfl
 ·have e:b=(s.heap.push { cls:=.type "range",data:=.fields #[.int lo t,.int hi u,.int 1 v] }).objs.size:=by simpa using hb
  subst e
  exact I1.fpOk (IS _) (I1.hok.fresh (IS _))
def Am (ta:TA):TI:=fun U H R=>ta U H fun vs H1=>∃j:Int,vs=[.int j]/\-(2 ^ 62)<=j/\j < 2 ^ 62/\R (Itr 0 j.toNat) H1
def An (ta:TA):TI:=fun U H R=>ta U H fun vs H1=>∃i j:Int,vs=[.int i,.int j]/\(-(2 ^ 62)<=i/\i < 2 ^ 62/\-(2 ^ 62)<=j/\j < 2 ^ 62)/\R (Itr i (j-i).toNat) H1
theorem qU {a:Expr} {ta:TA} {p pos:Pos} (hg:Gl X "range") (hm:X.mg "range"=none) (ha:PA X [a] ta) (hs:Jf [a] X.env=[(false,eval a X.env)]:=by rfl):PI X tg (.Call (.Name "range" p) [a] [] pos) (Am ta):=by
 intro pins s U H R I h
 refine Call_ (fC I hg hm Qv (Kx (thn (ha pos pins s U H _ I h) fun us s1 zr1=>?_) hs rfl))
 obtain ⟨vs,H1,I1,r1,q1⟩:=zr1
 obtain ⟨j,e,q1,q2,q⟩:=q1
 subst e
 cases r1 with
 | cons r rr=>
  cases rr
  obtain ⟨t,rfl⟩:=r
  exact call_range_1 (mz I1 (by omega) (by omega) q1 q2 (by simpa using q))
theorem qV {a b:Expr} {ta:TA} {p pos:Pos} (hg:Gl X "range") (hm:X.mg "range"=none) (ha:PA X [a,b] ta) (hs:Jf [a,b] X.env=[(false,eval a X.env),(false,eval b X.env)]:=by rfl) (hs2:Jf [b] X.env=[(false,eval b X.env)]:=by rfl) :
  PI X tg (.Call (.Name "range" p) [a,b] [] pos) (An ta):=by
 intro pins s U H R I h
 refine Call_ (fC I hg hm Qv (Kx (thn (ha pos pins s U H _ I h) fun us s1 ⟨vs,H1,I1,r1,q1⟩=>?_) (by rw [hs,hs2]) (by rw [hs2];rfl)))
 obtain ⟨i,j,e,⟨q1,q2,q3,q4⟩,q⟩:=q1
 subst e
 cases r1 with
 | cons r rr=>
  cases rr with
  | cons r' rr=>
   cases rr
   obtain ⟨t,rfl⟩:=r
   obtain ⟨t',rfl⟩:=r'
   exact call_range_2 (mz I1 q1 q2 q3 q4 q)
def EY (wi:TI) (g:TG) (tb:TS):TS:=fun D U H=>wi U H fun J H1=>∃W:Nat->Nat->St->Hp->Prop,(∃m,W 0 m U H1)/\∀i m U H,W i m U H ->
 (J.stop i H/\D.nx U H)\/(J.go i H/\∃N:St->Hp->Prop,(∀ U' H',N U' H'->∃m',m' < m/\W (i+1) m' U' H')/\∀x H',J.yld i H x H'->g x U H' fun U2 H2=>tb { D with nx:=N,ct:=N,bk:=D.nx } U2 H2)
def fD (fp:List Addr) (h:Heap):List (Addr×Obj):=fp.filterMap fun b=>(h.get? b).map fun o=>(b,o)
theorem bP {fp:List Addr} {h:Heap} {b:Addr} {o:Obj} (hb:b∈fp) (e:h.get? b=some o):(b,o)∈fD fp h:=List.mem_filterMap.mpr ⟨b,hb,by rw [e];rfl⟩
theorem qW {fp:List Addr} {h:Heap} {p:Addr×Obj} (hp:p∈fD fp h):p.1∈fp/\h.get? p.1=some p.2:=by
 obtain ⟨b,hb,e⟩:=List.mem_filterMap.mp hp
 cases q:h.get? b with
 | none=>rw [q] at e;cases e
 | some o=>
  rw [q] at e
  have e':(b,o)=p:=Jx e
  subst e'
  exact ⟨hb,q⟩
theorem Inv.pinned {pins:List (Addr×Obj)} {U:St} {H:Hp} {s:IM} {fp:List Addr} (I:Inv X pins U H s) (hf:∀b∈fp,iG X pins H b) (ho:∀b∈fp,∃o,s.heap.get? b=some o/\∀v,o.data≠.cell v):Inv X (pins++fD fp s.heap) U H s:=
 I.pins_of fun p hp=>(List.mem_append.mp hp).elim (fun z=>I.pin p (IU _ z)) fun z=>by
  obtain ⟨hb,e⟩:=qW z
  obtain ⟨f0,f1,f2,_⟩:=hf p.1 hb
  obtain ⟨o,e',d⟩:=ho p.1 hb
  rw [e] at e';cases e'
  exact ⟨e,f0,f1,f2,d⟩
theorem Inv.unpinned {pins pl:List (Addr×Obj)} {U:St} {H:Hp} {s:IM} (I:Inv X (pins++pl) U H s):Inv X pins U H s:=I.pins_of fun p hp=>I.pin p (IU _ (J3 _ hp))
theorem BZ {iter:Expr} {body:List Stmt} {wi:TI} {g:TG} {tb:TS} {pos:Pos} (hp:Qj (JD X.prog X.w) X.A X.env X.xe) (hc:X.calm=true) (hi:PI X tg iter wi) (hg:PG X tg g) (hb:PSs X body tb)
  (hs:∀x,Kh iter X.env x=pure x:=by intro _;rfl):PS X (.For tg iter body [] pos) (EY wi g tb):=by
 intro pins s U H D I h
 refine wpAny_For (thn (hi pins s U H _ I h) fun v s1 h1=>thn h1 fun itv s2 h2=>?_) hs
 obtain ⟨it,fp,tn,J,H2,e,I2,T,st2,f2,W,⟨m0,w0⟩,turn⟩:=h2
 subst e
 -- what stays true of the iterator's objects through the loop
 have stat:∀{H':Hp},(∀b∈fp,H' b=none)->∀b∈fp,iG X pins H' b:=fun hn b hb=>⟨hn b hb,(f2 b hb).2⟩
 refine codeAny_forLoop_any (fun n s'=>∃i U' H',Inv X pins U' H' s'/\tn i s'.heap/\(∀b∈fp,H' b=none)/\W i n U' H') ?_ m0 ⟨0,U,H2,I2,st2,fun b hb=>(f2 b hb).1,w0⟩
 rintro n s3 ⟨i,U3,H3,I3,st3,fr3,w3⟩
 rcases turn i n U3 H3 w3 with ⟨stop,qn⟩ | ⟨go,N,hN,step⟩
 ·refine Lj hp (thn (T.done X rfl rfl rfl hc i pins s3 U3 H3 X.xe I3 (stat fr3) st3 stop) fun r s4 zr1=>?_)
  obtain ⟨hr,I4⟩:=zr1
  subst hr
  exact M7 ⟨U3,H3,I4,qn⟩
 ·refine Lj hp (thn (T.item X rfl rfl rfl hc i pins s3 U3 H3 X.xe I3 (stat fr3) st3 go) fun r s4 zr1=>?_)
  obtain ⟨u,hr,h4⟩:=zr1
  subst hr
  refine Lj hp (thn h4 fun _ s5 zr1=>?_)
  obtain ⟨x,H5,I5,r5,y5,st5,fr5⟩:=zr1
  have I5':=I5.pinned (stat fr5) (T.obj _ _ st5)
  refine Lj hp (thn (hg _ s5 U3 H5 x u _ I5' r5 (step x H5 y5)) fun _ s6 zr1=>?_)
  obtain ⟨U6,H6,I6,q6⟩:=zr1
  refine Lj hp (thn (hb _ s6 U6 H6 _ I6 q6) fun f s7 q7=>?_)
  have again:∀{U7:St} {H7:Hp},Inv X (pins++fD fp s5.heap) U7 H7 s7->N U7 H7->∃m,m < n/\∃i U' H',Inv X pins U' H' s7/\tn i s7.heap/\(∀b∈fp,H' b=none)/\W i m U' H':=fun {U7 H7} I7 n7=>by
   obtain ⟨m',hm,w7⟩:=hN U7 H7 n7
   refine ⟨m',hm,i+1,U7,H7,I7.unpinned,T.keep _ _ _ st5 fun b hb o e=>(I7.pin (b,o) (IU _ (IU _ (bP hb e)))).1,fun b hb=>?_,w7⟩
   obtain ⟨o,e,d⟩:=T.obj _ _ st5 b hb
   exact (I7.pin (b,o) (IU _ (IU _ (bP hb e)))).2.1
  cases f with
  | next=>obtain ⟨U7,H7,I7,n7⟩:=q7;exact again I7 n7
  | cont=>obtain ⟨U7,H7,I7,n7⟩:=q7;exact again I7 n7
  | brk=>obtain ⟨U7,H7,I7,q7⟩:=q7;exact ⟨U7,H7,I7.unpinned,q7⟩
  | ret v=>obtain ⟨x7,U7,H7,I7,r7,q7⟩:=q7;exact ⟨x7,U7,H7,I7.unpinned,r7,q7⟩
end
end L2
namespace L2
open PySem PySem.Spec PyProof.Rows
abbrev R2:=V->V->Hp->VK->Prop
def OpR (X:Cx) (f:IP->IP->Sem IP) (r:R2):Prop:=
 ∀(pins:List (Addr×Obj)) (s:IM) (U:St) (H:Hp) (x y:V) (v u:IP) (Q:VK),Inv X pins U H s->RelV x v->RelV y u->r x y H Q ->
  JB (JD X.prog X.w) X.A (f v u) (EP X pins U Q) X.xe s
def UnR (X:Cx) (f:IP->Sem IP) (r:V->Hp->VK->Prop):Prop:=
 ∀(pins:List (Addr×Obj)) (s:IM) (U:St) (H:Hp) (x:V) (v:IP) (Q:VK),Inv X pins U H s->RelV x v->r x H Q ->
  JB (JD X.prog X.w) X.A (f v) (EP X pins U Q) X.xe s
def b7 (X:Cx) (f:IP) (r:List V->Hp->VK->Prop):Prop:=
 ∀(pins:List (Addr×Obj)) (s:IM) (U:St) (H:Hp) (xs:List V) (us:List IP) (Q:VK),Inv X pins U H s->Vals xs us->r xs H Q ->
  JB (JD X.prog X.w) X.A (call f us) (EP X pins U Q) X.xe s
def Ib (X:Cx) (r:V->Hp->(Bool->Hp->Prop)->Prop):Prop:=
 ∀(pins:List (Addr×Obj)) (s:IM) (U:St) (H:Hp) (x:V) (v:IP) (Q:Bool->Hp->Prop),Inv X pins U H s->RelV x v->r x H Q ->
  JB (JD X.prog X.w) X.A (QJ v) (TP X pins U Q) X.xe s
def tOp (r:R2) (ta tb:TE):TE:=fun U H Q=>ta U H fun x H1=>tb U H1 fun y H2=>r x y H2 Q
def tUn (r:V->Hp->VK->Prop) (ta:TE):TE:=fun U H Q=>ta U H fun x H1=>r x H1 Q
def rI (C:Int->Int->Prop) (g:Int->Int->V):R2:=fun x y H Q=>∃i j,x=.int i/\y=.int j/\C i j/\Q (g i j) H
def rI0 (g:Int->Int->V):R2:=fun x y H Q=>∃i j,x=.int i/\y=.int j/\Q (g i j) H
def rU (g:Int->V):V->Hp->VK->Prop:=fun x H Q=>∃i,x=.int i/\Q (g i) H
section
variable {X:Cx} {a b c:Expr} {ta tb tc:TE} {pos:Pos}
theorem B0 (ha:PE X a ta) (hb:PE X b tb) {pins:List (Addr×Obj)} {s:IM} {U:St} {H:Hp} {R:V->V->Hp->Prop} (I:Inv X pins U H s)
  (h:ta U H fun x H1=>tb U H1 fun y H2=>R x y H2) {Q:IP->IM->Prop} {f:IP->IP->Sem IP}
  (hf:∀v u s2 x y H2,Inv X pins U H2 s2->RelV x v->RelV y u->R x y H2->JB (JD X.prog X.w) X.A (f v u) Q X.xe s2) :
  JB (JD X.prog X.w) X.A (eval a X.env) (fun v s₁=>JB (JD X.prog X.w) X.A (eval b X.env) (fun u s₂=>JB (JD X.prog X.w) X.A (f v u) Q X.xe s₂) X.xe s₁) X.xe s:=by
 refine thn (ha pins s U H _ I h) fun v s1 zr1=>?_
 obtain ⟨x,H1,I1,r1,q1⟩:=zr1
 refine thn (hb pins s1 U H1 _ I1 q1) fun u s2 zr1=>?_
 obtain ⟨y,H2,I2,r2,q2⟩:=zr1
 exact hf v u s2 x y H2 I2 r1 r2 q2
theorem sU {op:Operator} {r:R2} (ho:OpR X (MV op) r) (ha:PE X a ta) (hb:PE X b tb):PE X (.BinOp a op b pos) (tOp r ta tb):=by
 intro pins s U H Q I h
 exact wpAny_BinOp (B0 ha hb I h fun v u s2 x y H2 I2 rx ry q=>ho pins s2 U H2 x y v u Q I2 rx ry q)
theorem EZ {op:UnaryOp} {r:V->Hp->VK->Prop} (ho:UnR X (unaryOp op) r) (ha:PE X a ta):PE X (.UnaryOp op a pos) (tUn r ta):=by
 intro pins s U H Q I h
 exact UnaryOp_ (thn (ha pins s U H _ I h) fun v s1 zt1=>by obtain ⟨x,H1,I1,r1,q1⟩:=zt1;exact ho pins s1 U H1 x v Q I1 r1 q1)
theorem opI {f:IP->IP->Sem IP} {C:Int->Int->Prop} {g:Int->Int->Int}
  (rule:∀(i j:Int) (t u:Tok) (s:IM) (Q:IP->IM->Prop) (E:IP->IM->Prop),C i j->Q (.int (g i j) s.toks) { s with toks:=s.toks+1 }->JB (JD X.prog X.w) X.A (f (.int i t) (.int j u)) Q E s) :
  OpR X f (rI C fun i j=>.int (g i j)):=by
 intro pins s U H x y v u Q I rx ry h
 obtain ⟨i,j,rfl,rfl,hc,q⟩:=h
 obtain ⟨t,rfl⟩:=rx
 obtain ⟨t',rfl⟩:=ry
 exact rule i j t t' s _ _ hc ⟨.int (g i j),H,I.tok _,⟨_,rfl⟩,q⟩
theorem E1 {f:IP->IP->Sem IP} {g:Int->Int->Int}
  (rule:∀(i j:Int) (t u:Tok) (s:IM) (Q:IP->IM->Prop) (E:IP->IM->Prop),Q (.int (g i j) s.toks) { s with toks:=s.toks+1 }->JB (JD X.prog X.w) X.A (f (.int i t) (.int j u)) Q E s) :
  OpR X f (rI0 fun i j=>.int (g i j)):=by
 intro pins s U H x y v u Q I rx ry h
 obtain ⟨i,j,rfl,rfl,q⟩:=h
 obtain ⟨t,rfl⟩:=rx
 obtain ⟨t',rfl⟩:=ry
 exact rule i j t t' s _ _ ⟨.int (g i j),H,I.tok _,⟨_,rfl⟩,q⟩
theorem xw {f:IP->IP->Sem IP} {g:Int->Int->Bool}
  (rule:∀(i j:Int) (t u:Tok) (s:IM) (Q:IP->IM->Prop) (E:IP->IM->Prop),Q (.bool (g i j)) s->JB (JD X.prog X.w) X.A (f (.int i t) (.int j u)) Q E s) :
  OpR X f (rI0 fun i j=>.bl (g i j)):=by
 intro pins s U H x y v u Q I rx ry h
 obtain ⟨i,j,rfl,rfl,q⟩:=h
 obtain ⟨t,rfl⟩:=rx
 obtain ⟨t',rfl⟩:=ry
 exact rule i j t t' s _ _ ⟨.bl (g i j),H,I,rfl,q⟩
def Ic (i j:Int):Prop:=0 < j/\j < 1073741824
def Ie (i j:Int):Prop:=0<=j/\j<=1000000/\i.natAbs < 2 ^ 64
def B1 (i j:Int):Prop:=(-(2 ^ 64) < i/\i < 2 ^ 64)\/(-(2 ^ 64) < j/\j < 2 ^ 64)
theorem B1.ok {i j:Int} (h:B1 i j):IntMulOk i j:=by
 rcases h with ⟨h1,h2⟩ | ⟨h1,h2⟩
 ·exact .of_left (intBits_le_64 h1 h2)
 ·exact .of_right (intBits_le_64 h1 h2)
theorem aS:OpR X (MV .Add) (rI0 fun i j=>.int (i+j)):=E1 fun _ _ _ _ _ _ _ q=>add_int q
theorem bj:OpR X (MV .Sub) (rI0 fun i j=>.int (i-j)):=E1 fun _ _ _ _ _ _ _ q=>sub_int q
theorem b0:OpR X (MV .Mult) (rI B1 fun i j=>.int (i*j)):=opI fun _ _ _ _ _ _ _ hc q=>mul_int q hc.ok
theorem iL:OpR X (MV .FloorDiv) (rI Ic fun i j=>.int (i / j)):=opI fun i j _ _ _ _ _ hc q=>by
 have h1:(0:Int) < j:=hc.1
 have h2:j < 1073741824:=hc.2
 exact floordiv_int (by omega) (by rw [Int.fdiv_eq_ediv_of_nonneg i (by omega)];exact q) (.inl (Oo (by omega)))
theorem cP:OpR X (MV .Mod) (rI (fun _ j=>0 < j) fun i j=>.int (i%j)):=opI fun i j _ _ _ _ _ hc q=>by
 have h1:(0:Int) < j:=hc
 exact mod_int' (by omega) (by rw [Int.fmod_eq_emod_of_nonneg i (by omega)];exact q)
theorem cQ:OpR X (MV .Pow) (rI Ie fun i j=>.int (i ^ j.toNat)):=opI fun _ _ _ _ _ _ _ hc q=>pow_int_small hc.1 hc.2.1 hc.2.2 q
theorem unI {f:IP->Sem IP} {g:Int->Int}
  (rule:∀(i:Int) (t:Tok) (s:IM) (Q:IP->IM->Prop) (E:IP->IM->Prop),Q (.int (g i) s.toks) { s with toks:=s.toks+1 }->JB (JD X.prog X.w) X.A (f (.int i t)) Q E s) :
  UnR X f (rU fun i=>.int (g i)):=by
 intro pins s U H x v Q I rx h
 obtain ⟨i,rfl,q⟩:=h
 obtain ⟨t,rfl⟩:=rx
 exact rule i t s _ _ ⟨.int (g i),H,I.tok _,⟨_,rfl⟩,q⟩
theorem bB:UnR X (unaryOp .USub) (rU fun i=>.int (-i)):=unI fun _ _ _ _ _ q=>neg_int q
end
def xy:V->V->Bool
 | .non,.non=>true | .non,.int _=>true | .int _,.non=>true | .non,.bl _=>true | .bl _,.non=>true | .non,.str _=>true | .str _,.non=>true
 | .int _,.int _=>true | .bl _,.bl _=>true | .str _,.str _=>true | .byt _,.byt _=>true
 | .int _,.str _=>true | .str _,.int _=>true | .bl _,.str _=>true | .str _,.bl _=>true
 | _,_=>false
def rEq:R2:=fun x y H Q=>xy x y=true/\Q (.bl (decide (x=y))) H
def rNe:R2:=fun x y H Q=>xy x y=true/\Q (.bl (!decide (x=y))) H
theorem pH {i j:Int}:decide (V.int i=V.int j)=(i==j):=by
 rw [Ky]
 simp
theorem sV {i j:Bool}:decide (V.bl i=V.bl j)=(i==j):=by
 rw [Ky]
 simp
theorem pI {i j:Str}:decide (V.str i=V.str j)=(i==j):=by
 rw [Ky]
 simp
theorem pJ {i j:Array UInt8}:decide (V.byt i=V.byt j)=(i.toList==j.toList):=by
 rw [Ky]
 cases i
 cases j
 simp
section
variable {X:Cx} {a b c:Expr} {ta tb tc:TE} {pos:Pos}
theorem aT {pins:List (Addr×Obj)} {U:St} {H:Hp} {s:IM} {Q:VK} {k k':Bool} (I:Inv X pins U H s) (q:Q (.bl k) H) (e:k=k'):EP X pins U Q (.bool k') s:=by
 subst e
 exact ⟨.bl k,H,I,rfl,q⟩
theorem bW:OpR X (Kz .Eq) rEq:=by
 intro pins s U H x y v u Q I rx ry h
 obtain ⟨hs,q⟩:=h
 cases x with
 | non=>
  cases rx
  cases y with
  | non=>cases ry;exact PySem.EqNone.eq_none_none (aT I q (by simp))
  | bl j=>cases ry;exact PySem.EqNone.eq_none_bool (aT I q (by simp))
  | int j=>obtain ⟨t',rfl⟩:=ry;exact PySem.EqNone.eq_none_int (aT I q (by simp))
  | str j=>obtain ⟨t',rfl⟩:=ry;exact PySem.EqNone.eq_none_str (aT I q (by simp))
  | _=>exact absurd (show false=true from hs) IT
 | bl i=>
  cases rx
  cases y with
  | non=>cases ry;exact PySem.EqNone.eq_bool_none (aT I q (by simp))
  | bl j=>cases ry;exact eq_bool (aT I q sV)
  | str j=>obtain ⟨t',rfl⟩:=ry;exact PySem.EqMixed.eq_bool_str (aT I q (by simp))
  | _=>exact absurd (show false=true from hs) IT
 | int i=>
  obtain ⟨t,rfl⟩:=rx
  cases y with
  | non=>cases ry;exact PySem.EqNone.eq_int_none (aT I q (by simp))
  | int j=>obtain ⟨t',rfl⟩:=ry;exact eq_int (aT I q pH)
  | str j=>obtain ⟨t',rfl⟩:=ry;exact PySem.EqMixed.eq_int_str (aT I q (by simp))
  | _=>exact absurd (show false=true from hs) IT
 | str i=>
  obtain ⟨t,rfl⟩:=rx
  cases y with
  | non=>cases ry;exact PySem.EqNone.eq_str_none (aT I q (by simp))
  | bl j=>cases ry;exact PySem.EqMixed.eq_str_bool (aT I q (by simp))
  | int j=>obtain ⟨t',rfl⟩:=ry;exact PySem.EqMixed.eq_str_int (aT I q (by simp))
  | str j=>obtain ⟨t',rfl⟩:=ry;exact eq_str (aT I q pI)
  | _=>exact absurd (show false=true from hs) IT
 | byt i=>
  obtain ⟨t,rfl⟩:=rx
  cases y with
  | byt j=>obtain ⟨t',rfl⟩:=ry;exact PySem.W.eq_bytes (aT I q pJ)
  | _=>exact absurd (show false=true from hs) IT
 | _=>cases y <;> exact absurd (show false=true from hs) IT
theorem Ao:OpR X (Kz .NotEq) rNe:=by
 intro pins s U H x y v u Q I rx ry h
 obtain ⟨hs,q⟩:=h
 cases x with
 | non=>
  cases rx
  cases y with
  | non=>cases ry;exact PySem.EqNone.ne_none_none (aT I q (by simp))
  | bl j=>cases ry;exact PySem.EqNone.ne_none_bool (aT I q (by simp))
  | int j=>obtain ⟨t',rfl⟩:=ry;exact PySem.EqNone.ne_none_int (aT I q (by simp))
  | str j=>obtain ⟨t',rfl⟩:=ry;exact PySem.EqNone.ne_none_str (aT I q (by simp))
  | _=>exact absurd (show false=true from hs) IT
 | bl i=>
  cases rx
  cases y with
  | non=>cases ry;exact PySem.EqNone.ne_bool_none (aT I q (by simp))
  | bl j=>cases ry;exact ne_bool (aT I q (congrArg not sV))
  | str j=>obtain ⟨t',rfl⟩:=ry;exact PySem.EqMixed.ne_bool_str (aT I q (by simp))
  | _=>exact absurd (show false=true from hs) IT
 | int i=>
  obtain ⟨t,rfl⟩:=rx
  cases y with
  | non=>cases ry;exact PySem.EqNone.ne_int_none (aT I q (by simp))
  | int j=>obtain ⟨t',rfl⟩:=ry;exact ne_int (aT I q (congrArg not pH))
  | str j=>obtain ⟨t',rfl⟩:=ry;exact PySem.EqMixed.ne_int_str (aT I q (by simp))
  | _=>exact absurd (show false=true from hs) IT
 | str i=>
  obtain ⟨t,rfl⟩:=rx
  cases y with
  | non=>cases ry;exact PySem.EqNone.ne_str_none (aT I q (by simp))
  | bl j=>cases ry;exact PySem.EqMixed.ne_str_bool (aT I q (by simp))
  | int j=>obtain ⟨t',rfl⟩:=ry;exact PySem.EqMixed.ne_str_int (aT I q (by simp))
  | str j=>obtain ⟨t',rfl⟩:=ry;exact ne_str (aT I q (congrArg not pI))
  | _=>exact absurd (show false=true from hs) IT
 | byt i=>
  obtain ⟨t,rfl⟩:=rx
  cases y with
  | byt j=>obtain ⟨t',rfl⟩:=ry;exact PySem.W.ne_bytes (aT I q (congrArg not pJ))
  | _=>exact absurd (show false=true from hs) IT
 | _=>cases y <;> exact absurd (show false=true from hs) IT
theorem i4:OpR X (Kz .Lt) (rI0 fun i j=>.bl (decide (i < j))):=xw fun _ _ _ _ _ _ _ q=>lt_int q
theorem E3:OpR X (Kz .LtE) (rI0 fun i j=>.bl (decide (i<=j))):=xw fun _ _ _ _ _ _ _ q=>le_int q
theorem d8:OpR X (Kz .Gt) (rI0 fun i j=>.bl (decide (j < i))):=xw fun _ _ _ _ _ _ _ q=>gt_int q
theorem E4:OpR X (Kz .GtE) (rI0 fun i j=>.bl (decide (j<=i))):=xw fun _ _ _ _ _ _ _ q=>ge_int q
theorem B2:OpR X (Kz .Is) (fun x y H Q=>y=.non/\Q (.bl (decide (x=.non))) H):=by
 intro pins s U H x y v u Q I rx ry h
 obtain ⟨rfl,q⟩:=h
 cases ry
 refine is_none_gen (aT I q ?_)
 cases x <;> first
  | (cases rx;rfl)
  | (obtain ⟨t,rfl⟩:=rx;rfl)
theorem xA:OpR X (Kz .IsNot) (fun x y H Q=>y=.non/\Q (.bl (!decide (x=.non))) H):=by
 intro pins s U H x y v u Q I rx ry h
 obtain ⟨rfl,q⟩:=h
 cases ry
 refine isnot_none_gen (aT I q ?_)
 cases x <;> first
  | (cases rx;rfl)
  | (obtain ⟨t,rfl⟩:=rx;rfl)
theorem aB (b:Expr) {op:CmpOp} (h:op≠.In:=by decide) (h2:op≠.NotIn:=by decide):LL op b=false:=by
 have e1:(op==CmpOp.In)=false:=by cases op <;> first | rfl | exact absurd rfl h
 have e2:(op==CmpOp.NotIn)=false:=by cases op <;> first | rfl | exact absurd rfl h2
 cases b <;> simp [LL,e1,e2]
theorem xB {op:CmpOp} {r:R2} (ho:OpR X (Kz op) r) (ha:PE X a ta) (hb:PE X b tb) (hm:LL op b=false):PE X (.Compare a [op] [b] pos) (tOp r ta tb):=by
 intro pins s U H Q I h
 exact wpAny_Compare1 (B0 ha hb I h fun v u s2 x y H2 I2 rx ry q=>ho pins s2 U H2 x y v u Q I2 rx ry q) hm
def pK (t:TE):TT:=fun U H Q=>t U H fun x H'=>∃k,x=.bl k/\Q k H'
theorem pL {op:CmpOp} {r:R2} (ho:OpR X (Kz op) r) (ha:PE X a ta) (hb:PE X b tb) (hm:LL op b=false):PT X (.Compare a [op] [b] pos) (pK (tOp r ta tb)):=by
 intro pins s U H Q I h
 refine wpAny_isTrue_Compare1 (thn (ha pins s U H _ I h) fun v s1 ⟨x,H1,I1,r1,q1⟩=>thn (hb pins s1 U H1 _ I1 q1) fun u s2 ⟨y,H2,I2,r2,q2⟩=>
  thn (ho pins s2 U H2 x y v u _ I2 r1 r2 q2) fun c s3 ⟨z,H3,I3,r3,k,e,q3⟩=>?_) hm
 subst e
 cases r3
 exact LJ ⟨H3,I3,q3⟩
def TruV (K:IJ) (x:V) (H:Hp) (k:Bool):Prop:=
 match x with
 | .non=>k=false
 | .bl b=>k=b
 | .int i=>k=(i != 0)
 | .str y=>y.length<=JA/\k=((y.length:Int) != 0)
 | .byt y=>y.size<=JA/\k=((y.size:Int) != 0)
 | .ref p=>(∃xs,SqL K H p xs/\k=!xs.isEmpty)\/(∃xs,SqT K H p xs/\k=!xs.isEmpty)\/∃kvs,H p=some (.dK kvs)/\k=!kvs.isEmpty
 | _=>False
theorem nZ {κ:Type} {kvs:List (κ×V)} {vs:List (κ×IP)} (r:KV kvs vs):(!vs.isEmpty)=!kvs.isEmpty:=by
 cases r <;> rfl
theorem i5 {xs:List V} {its:List IP} (r:Vals xs its):(!its.toArray.isEmpty)=!xs.isEmpty:=by
 cases r <;> simp
theorem gS:(JA:Nat) < 2 ^ 63:=by rw [J7];decide
theorem B3:Ib X (fun x H Q=>∃k,TruV X.K x H k/\Q k H):=by
 intro pins s U H x v Q I rx h
 obtain ⟨k,e,q⟩:=h
 have hl:=gS
 have hs:JA=16777216:=J7
 cases x with
 | non=>
  cases rx
  have e':k=false:=e
  subst e'
  exact truthy_none ⟨H,I,q⟩
 | bl b=>
  cases rx
  have e':k=b:=e
  subst e'
  exact LJ ⟨H,I,q⟩
 | int i=>
  obtain ⟨t,rfl⟩:=rx
  have e':k=(i != 0):=e
  subst e'
  exact PySem.P.truthy_int ⟨H,I,q⟩
 | str y=>
  obtain ⟨t,rfl⟩:=rx
  obtain ⟨hy,e'⟩:y.length<=JA/\k=((y.length:Int) != 0):=e
  subst e'
  exact PySem.P.truthy_str (by omega) ⟨H,I.tok _,q⟩
 | byt y=>
  obtain ⟨t,rfl⟩:=rx
  obtain ⟨hy,e'⟩:y.size<=JA/\k=((y.size:Int) != 0):=e
  subst e'
  exact PySem.W.truthy_bytes (by omega) ⟨H,I.tok _,q⟩
 | ref p=>
  cases rx
  have e':(∃xs,SqL X.K H p xs/\k=!xs.isEmpty)\/(∃xs,SqT X.K H p xs/\k=!xs.isEmpty)\/∃kvs,H p=some (.dK kvs)/\k=!kvs.isEmpty:=e
  rcases e' with ⟨xs,hx,e'⟩ | ⟨xs,hx,e'⟩ | ⟨kvs,hx,e'⟩
  ·subst e'
   obtain ⟨its,r,pl,hz⟩:=I.list hx
   have hlen:=r.length
   exact NS pl.isList (by simp only [Jb];omega) ⟨H,I.tok _,by rw [i5 r];exact q⟩
  ·subst e'
   obtain ⟨its,r,pl,hz⟩:=I.tuple hx
   have hlen:=r.length
   exact truthy_tuple pl (by simp only [Jb];omega) ⟨H,I.tok _,by rw [i5 r];exact q⟩
  ·subst e'
   obtain ⟨hz,hS,vs,r,m⟩:kvs.length<=JA/\(p==KW)=false/\∃vs,KV kvs vs/\s.heap.DictOf (kX X.prog X.w) p vs:=I.hok p _ hx
   have hlen:kvs.length=vs.length:=Kw r
   exact wpAny_truthy_dict hS m (by omega) ⟨H,I.tok _,by rw [nZ r];exact q⟩
 | _=>exact (show False from e).elim
theorem sW (ha:PE X a ta) (he:∀whole,Qh a X.env whole=(do let v <- whole;Mp a.pos;N5 [v] (QJ v))) :
  PT X a (fun U H Q=>ta U H fun x H'=>∃k,TruV X.K x H' k/\Q k H'):=by
 intro pins s U H Q I h
 exact isTrue_plain (thn (ha pins s U H _ I h) fun v s1 zt1=>by obtain ⟨x,H1,I1,r1,q1⟩:=zt1;exact B3 pins s1 U H1 x v Q I1 r1 q1) (he _)
theorem vals1 {x:V} {us:List IP} (r:Vals [x] us):∃u,us=[u]/\RelV x u:=by
 cases r with
 | cons r1 r2=>cases r2;exact ⟨_,rfl,r1⟩
theorem vals2 {x y:V} {us:List IP} (r:Vals [x,y] us):∃u w',us=[u,w']/\RelV x u/\RelV y w':=by
 cases r with
 | cons r1 r2=>
  cases r2 with
  | cons r3 r4=>cases r4;exact ⟨_,_,rfl,r1,r3⟩
theorem mB:b7 X (.builtin "abs") (fun xs H Q=>∃i,xs=[.int i]/\Q (.int (if i < 0 then -i else i)) H):=by
 intro pins s U H xs us Q I r h
 obtain ⟨i,rfl,q⟩:=h
 obtain ⟨u,rfl,t,rfl⟩:=vals1 r
 exact call_abs_int fun u tk=>⟨.int (if i < 0 then -i else i),H,I.tok _,⟨_,rfl⟩,q⟩
theorem qX (hc:X.calm=true):b7 X (.builtin "max") (fun xs H Q=>∃i j,xs=[.int i,.int j]/\Q (.int (if j > i then j else i)) H):=by
 intro pins s U H xs us Q I r h
 obtain ⟨i,j,rfl,q⟩:=h
 obtain ⟨u,w',rfl,⟨t,rfl⟩,⟨t',rfl⟩⟩:=vals2 r
 refine max_two_ints (I.ok.hd hc) fun h' tk k=>⟨_,H,I.kept k,?_,q⟩
 by_cases hj:j > i
 ·rw [if_pos hj,if_pos hj];exact ⟨_,rfl⟩
 ·rw [if_neg hj,if_neg hj];exact ⟨_,rfl⟩
theorem ke:b7 X (.type "int") (fun xs H Q=>(∃i,xs=[.int i]/\Q (.int i) H)\/∃k,xs=[.bl k]/\Q (.int (if k then 1 else 0)) H):=by
 intro pins s U H xs us Q I r h
 rcases h with ⟨i,rfl,q⟩ | ⟨k,rfl,q⟩
 ·obtain ⟨u,rfl,t,rfl⟩:=vals1 r
  exact call_int_int ⟨.int i,H,I,⟨_,rfl⟩,q⟩
 ·obtain ⟨u,rfl,r1⟩:=vals1 r
  cases r1
  exact call_int_bool ⟨.int (if k then 1 else 0),H,I.tok _,⟨_,rfl⟩,q⟩
end
end L2
namespace L2
open PySem PySem.Spec PyProof.Rows
structure ObjM (h:Heap) (x dx C:Addr) (mA:Str->Option IP):Prop where
 obj:h.get? x=some (Ov C dx)
 ns:h.Ns1 dx mA
 ne:dx≠x
theorem qY {h:Heap} {dx:Addr} {mA:Str->Option IP} (n:h.Ns1 dx mA):∃od,h.get? dx=some od/\∀name,O0 name od=some (mA name):=by
 obtain ⟨o,es,ep,ho,hd,hk,_,hm⟩:=n
 refine ⟨o,ho,fun name=>?_⟩
 have e:=hm name
 unfold nsFind findBy at e
 rw [<- Array.find?_toList] at e
 unfold O0
 rw [hd]
 dsimp only
 split
 ·rename_i y q
  rw [q] at e
  exact congrArg some e
 ·rename_i q
  rw [q] at e
  have a:es.toList.any (·.refKey)=false:=by
   rw [List.any_eq_false]
   intro y hy
   obtain ⟨z,t,hkey⟩:=hk y (Array.mem_toList_iff.mp hy)
   simp [DictEntry.refKey,hkey]
  have a':¬ es.toList.any (·.refKey)=true:=by rw [a];exact IT
  rw [if_neg a']
  exact congrArg some e
theorem ObjM.look {h:Heap} {x dx C:Addr} {mA:Str->Option IP} (I:ObjM h x dx C mA):∃od,PySem.W.InstAt h x (Ov C dx) C (some od)/\∀name,O0 name od=some (mA name):=
 let ⟨od,ho,hl⟩:=qY I.ns
 ⟨od,⟨I.obj,rfl,rfl,ho⟩,hl⟩
section
variable {P:Jp} {w:JQ} {H H':Hp} {h h':Heap} {a C dx:Addr} {fs fs':List (Str×V)}
theorem xC (hok:HOk P w H h) (e:H a=some (.ins C dx fs)):∃mA,ObjM h a dx C mA/\(∀f,RelO (fs.lookup f) (mA f))/\PySem.Within mA (fs.map (·.1))/\fs.length<=1000/\H dx=some (.own a):=by
 obtain ⟨d,z,ne,ob,mA,n,r,q⟩:=(show bt P w H h a (.ins C dx fs) from hok a _ e)
 exact ⟨mA,⟨ob,n,ne⟩,r,q,z,d⟩
end
structure Cls (K:IJ) (C:Addr):Prop where
 pg:PySem.W.plainGet K C Str.empty=true
 hd:PySem.W.hasDictIn K C=true
 po:PySem.W.plainOver K C=true
 sa:PySem.W.findIn K (.ref C) "__setattr__"=some (some (.builtin "object.__setattr__"))
theorem Cls.get {K:IJ} {C:Addr} (c:Cls K C) (f:Str):PySem.W.plainGet K C f=true:=c.pg
section
variable {X:Cx} {pins:List (Addr×Obj)} {U:St} {H:Hp} {s:IM} {A:JY} {E:IP->IM->Prop} {Q:IP->IM->Prop} {c:IP} {b:Bool}
inductive iH (K:IJ) (H:Hp):V->IP->Prop where
 | non:iH K H .non (.type "NoneType")
 | bl (x:Bool):iH K H (.bl x) (.type "bool")
 | int (i:Int):iH K H (.int i) (.type "int")
 | str (x:Str):iH K H (.str x) (.type "str")
 | flt (x:UInt64):iH K H (.flt x) (.type "float")
 | lst {a:Addr} {xs:List V} (e:H a=some (.lst xs)):iH K H (.ref a) (.type "list")
 | frz {a:Addr} {o:Obj} {xs:List V} (e:H a=some (.frz o (.lst xs))):iH K H (.ref a) (.type "list")
 | tup {a:Addr} {xs:List V} (e:H a=some (.tup xs)):iH K H (.ref a) (.type "tuple")
 | dK {a:Addr} {kvs:List (Key×V)} (e:H a=some (.dK kvs)):iH K H (.ref a) (.type "dict")
 | dT {a:Addr} {kvs:List (List Key×V)} (e:H a=some (.dT kvs)):iH K H (.ref a) (.type "dict")
 | ins {a C dx:Addr} {fs:List (Str×V)} (e:H a=some (.ins C dx fs)) (cl:Cls K C) (ha:PySem.W.findIn K (.ref C) "__class__"=some (some (.builtin "object.__class__")))
   (hn:PySem.W.specialIn K (.builtin "object.__class__") "__get__"=some (some (.builtin "getset_descriptor.__get__"))) (htk:PySem.W.takesIn K (.builtin "object.__class__")=some true)
   (hm:PySem.W.mroIn K C (.type "object")=some true):iH K H (.ref a) (.ref C)
theorem cO {x:V} {u t:IP} (I:Inv X pins U H s) (rx:RelV x u) (ty:iH X.K H x t) (e:ND X.K t c=some b) (h:∀tk,Q (.bool b) { s with toks:=tk }) :
  JB (JD X.prog X.w) A (call (.builtin "isinstance") [u,c]) Q E s:=by
 cases ty with
 | non=>cases (show u=JR from rx);exact Ka PySem.W.kitx_none I.kIn LM e (fun z=>nomatch z) h
 | bl y=>cases (show u=NO y from rx);exact Ka PySem.W.kitx_bool I.kIn LM e (fun z=>nomatch z) h
 | int i=>obtain ⟨t,q⟩:=(show ∃t,u=LD i t from rx);cases q;exact Ka PySem.W.kitx_int I.kIn LM e (fun z=>nomatch z) h
 | str y=>obtain ⟨t,q⟩:=(show ∃t,u=Value.str y t from rx);cases q;exact Ka PySem.W.kitx_str I.kIn LM e (fun z=>nomatch z) h
 | flt y=>obtain ⟨t,q⟩:=(show ∃t,u=Value.float y t from rx);cases q;exact Ka PySem.W.kitx_float I.kIn LM e (fun z=>nomatch z) h
 | @lst a xs ea=>
  cases (show u=Jz a from rx)
  obtain ⟨_,_,n,_,h1⟩:=(show bt X.prog X.w H s.heap a (.lst xs) from I.hok a _ ea)
  exact Ka NT I.kIn ⟨_,h1,rfl⟩ e (fun z=>nomatch z) h
 | @frz a ob xs ea=>
  cases (show u=Jz a from rx)
  obtain ⟨_,_,_,n,_,h1⟩:=(show bt X.prog X.w H s.heap a (.frz ob (.lst xs)) from I.hok a _ ea)
  exact Ka NT I.kIn ⟨_,h1,rfl⟩ e (fun z=>nomatch z) h
 | @tup a xs ea=>
  cases (show u=Jz a from rx)
  obtain ⟨_,_,_,p⟩:=(show bt X.prog X.w H s.heap a (.tup xs) from I.hok a _ ea)
  obtain ⟨o,h1,h2,_⟩:=p
  exact Ka Pi I.kIn ⟨o,h1,h2⟩ e (fun z=>nomatch z) h
 | @dK a kvs ea=>
  cases (show u=Jz a from rx)
  obtain ⟨_,_,vs,_,p⟩:=(show bt X.prog X.w H s.heap a (.dK kvs) from I.hok a _ ea)
  obtain ⟨o,es,ep,h1,h2,_⟩:=p
  exact Ka NU I.kIn ⟨o,h1,h2.1⟩ e (fun z=>nomatch z) h
 | @dT a kvs ea=>
  cases (show u=Jz a from rx)
  obtain ⟨_,_,xs,_,o,es,ep,h1,h2,_⟩:=(show bt X.prog X.w H s.heap a (.dT kvs) from I.hok a _ ea)
  exact Ka NU I.kIn ⟨o,h1,h2.1⟩ e (fun z=>nomatch z) h
 | @ins a C dx fs ea cl ha hn htk hm=>
  cases (show u=Jz a from rx)
  obtain ⟨mA,O,_⟩:=xC I.hok ea
  obtain ⟨od,J,_⟩:=O.look
  exact Ka (PySem.W.kitx_own (cl.get _) cl.hd ha hn htk hm) I.kIn J e (fun z=>nomatch z) h
end
end L2
namespace L2
open PySem PySem.Spec PyProof.Rows
structure cg (k:Nat) (A:JY):Prop where
 hd:A.handled=none
 dp:A.depth+3*k+5 < recursionLimit
 un:A.units+16*k+200 < Lu
 gd:A.guards=some []
theorem cg.mono {j k:Nat} {A:JY} (r:cg k A) (h:j<=k):cg j A:=⟨r.hd,by have:=r.dp;omega,by have:=r.un;omega,r.gd⟩
theorem cg.deeper {k:Nat} {A:JY} (r:cg (k+1) A) (env:Env):cg k (A.deeper env):=
 ⟨r.hd,by have:=r.dp;show A.depth+1+3*k+5 < _;omega,by have:=r.un;show A.units+3+16*k+200 < _;omega,r.gd⟩
theorem cg.depth {k:Nat} {A:JY} (r:cg k A):A.depth < recursionLimit:=by have:=r.dp;omega
theorem cg.units {k:Nat} {A:JY} (r:cg k A):A.units+64 < Lu:=by have:=r.un;omega
def mD:TA:=fun _ H Q=>Q [] H
def i6 (ta:TE) (tr:TA):TA:=fun U H Q=>ta U H fun x H1=>tr U H1 fun xs H2=>Q (x::xs) H2
section
variable {X:Cx} {e:Expr} {es:List Expr} {te:TE} {t:TA} {pos:Pos}
theorem gT:PA X [] mD:=fun _ _ _ _ H Q I h=>Calls.spliced_nil ⟨[],H,I,.nil,h⟩
theorem cX (ha:PE X e te) (hr:PA X es t) (hs:Jf (e::es) X.env=(false,eval e X.env)::Jf es X.env:=by rfl):PA X (e::es) (i6 te t):=by
 intro pos pins s U H Q I h
 rw [hs]
 show JB _ _ (spliced ((false,eval e X.env)::K8 pos (Jf es X.env))) _ _ s
 refine Calls.spliced_cons (thn (ha pins s U H _ I h) fun u s1 zr1=>?_)
 obtain ⟨x,H1,I1,r1,q1⟩:=zr1
 exact thn (hr pos pins s1 U H1 _ I1 q1) fun us s2 zt1=>by obtain ⟨xs,H2,I2,r2,q2⟩:=zt1;exact ⟨x::xs,H2,I2,.cons r1 r2,q2⟩
def E5 (t:TA):TE:=fun U H Q=>t U H fun xs H1=>xs.length<=JA/\∀p,H1 p=none->Q (.ref p) (upd H1 p (.tup xs))
def E6 (t:TA):TE:=fun U H Q=>t U H fun xs H1=>xs.length<=JA/\∀p,H1 p=none->Q (.ref p) (upd H1 p (.lst xs))
theorem B4 {x1} (h:PA X es t):PE X (.Tuple es x1 pos) (E5 t):=by
 intro pins s U H Q I hq
 refine wpAny_Tuple_spliced (thn (h pos pins s U H _ I hq) fun us s1 ⟨xs,H1,I1,r,z,q⟩=>⟨by rw [<- r.length];exact z,?_⟩)
 have hf:H1 s1.heap.objs.size=none:=I1.hok.fresh (IS _)
 refine ⟨.ref s1.heap.objs.size,upd H1 s1.heap.objs.size (.tup xs),I1.laid (t':=s1.toks) (fun b u e=>IN _ e) (IS _) ?_,rfl,q _ hf⟩
 exact ⟨z,us,r,⟨_,Je _ rfl,rfl,_,rfl⟩⟩
theorem B5 (h:PA X es t):PE X (.List es pos) (E6 t):=by
 intro pins s U H Q I hq
 refine wpAny_List_spliced (thn (h pos pins s U H _ I hq) fun us s1 ⟨xs,H1,I1,r,z,q⟩=>⟨by rw [<- r.length];exact z,?_⟩)
 have hf:H1 s1.heap.objs.size=none:=I1.hok.fresh (IS _)
 refine ⟨.ref s1.heap.objs.size,upd H1 s1.heap.objs.size (.lst xs),I1.laid (t':=s1.toks) (fun b u e=>IN _ e) (IS _) ?_,rfl,q _ hf⟩
 exact ⟨z,us,0,r,Je _ rfl⟩
end
abbrev Sp:=List V->Hp->VK->XK->Prop
abbrev CXT:=List Env->Hp->IM->XK->IP->IM->Prop
structure Env0 (P:Jp) (w:JQ) (K:IJ) (mg:Str->Option IP) (base:Heap) (A:JY) (outer:List Env) (s:IM) (H:Hp):Prop where
 frames:A.frames=some outer
 mod:Mod K mg base
 bs:∀b o,base.get? b=some o->s.heap.get? b=some o/\H b=none
 bsz:base.objs.size<=s.heap.objs.size
 funs:s.heap.FunFrames base outer
 frf:∀b∈frs outer,H b=none
 hok:HOk P w H s.heap
 bare:N4 s.gens
def CE (outer:List Env) (P:Jp) (w:JQ) (H:Hp) (s:IM) (Q:VK) (u:IP) (s':IM):Prop:=
 ∃v H',s'.os=s.os/\N4 s'.gens/\Un (frs outer) [] H H' s.heap s'.heap/\HOk P w H' s'.heap/\RelV v u/\Q v H'
def CR (CX:CXT) (outer:List Env) (P:Jp) (w:JQ) (H:Hp) (s:IM) (Q:VK) (E:XK) (r:Result) (s':IM):Prop:=
 match r with
 | .ok (.ret u)=>CE outer P w H s Q u s'
 | .ok _=>False
 | .error e=>CX outer H s E e s'
structure jZ (P:Jp) (w:JQ) (K:IJ) (mg:Str->Option IP) (base:Heap) (CX:CXT) (k:Nat) (f:Addr) (fd:LN) (ps:List Str) (sp:Sp):Prop where
 len:∀vs H Q E,sp vs H Q E->vs.length=ps.length
 run:∀(A:JY) (outer:List Env) (s:IM) (H:Hp) (args:Args) (us:List IP) (vs:List V) (Q:VK) (E:XK),cg k A->Env0 P w K mg base A outer s H->PL s fd args (ps.zip us)->Vals vs us->sp vs H Q E ->
  L0 (JD P w) A (.call (.ref f) args) (CR CX outer P w H s Q E) s
section
variable {X:Cx} {pins:List (Addr×Obj)} {U:St} {H:Hp} {s s':IM}
theorem Inv.env0 (I:Inv X pins U H s):Env0 X.prog X.w X.K X.mg X.base X.A X.stack s H:=
 ⟨I.ok.frames,I.ok.mod,I.bs,KB I.ok.bsz I.sz,I.stack,I.stkFree,I.hok,I.bare⟩
theorem Inv.after {Q:VK} {u:IP} (I:Inv X pins U H s) (h:CE X.stack X.prog X.w H s Q u s'):EP X pins U Q u s':=by
 obtain ⟨v,H',os,bare,un,hok,r,q⟩:=h
 obtain ⟨hh,g,d,t,os'⟩:=s'
 obtain rfl:os'=s.os:=os
 exact ⟨v,H',I.call (h':=hh) (g':=g) (d':=d) (t':=t) (ch:=[]) un hok bare (fun b z=>absurd z (by simp)),r,q⟩
end
def iz (sp:Sp) (dvs:List V) (E:XK) (t:TA):TE:=fun U H Q=>t U H fun vs H1=>sp (vs++dvs) H1 Q E
def Binds (K:IJ) (fd:LN) (ps:List Str) (ds:List IP):Prop:=
 ∀(s:IM) (us:List IP),K.In s.heap->(us++ds).length=ps.length->PL s fd ⟨us,[]⟩ (ps.zip (us++ds))
theorem Binds.all {K:IJ} {fd:LN} {ps:List Str} (h:∀us:List IP,us.length=ps.length->N7 fd ⟨us,[]⟩=pure (ps.zip us)):Binds K fd ps []:=fun s us _ hl=>by
 rw [KL] at hl ⊢
 exact .of_eq (h us hl)
def n5 (CX:CXT) (X:Cx) (E:XK):Prop:=∀(pins:List (Addr×Obj)) (U:St) (H:Hp) (s:IM) (e:IP) (s':IM),Inv X pins U H s->CX X.stack H s E e s'->X.xe e s'
section
variable {X:Cx} {CX:CXT} {k:Nat} {f C:Addr} {fd:LN} {ps:List Str} {sp:Sp} {dvs:List V} {ds:List IP} {E:XK} {x m:Str} {p pos apos:Pos} {e o:Expr} {es:List Expr} {ta:TE} {t:TA}
theorem B6 {pins:List (Addr×Obj)} {U:St} {H:Hp} {s:IM} {Q:VK} {us:List IP} {vs:List V} (F:jZ X.prog X.w X.K X.mg X.base CX k f fd ps sp) (hr:cg k X.A) (hb:Binds X.K fd ps ds) (hd:Vals dvs ds) (hx:n5 CX X E)
  (I:Inv X pins U H s) (r:Vals vs us) (h:sp (vs++dvs) H Q E):JB (JD X.prog X.w) X.A (call (.ref f) us) (EP X pins U Q) X.xe s:=by
 have r2:Vals (vs++dvs) (us++ds):=r.append hd
 have hl:(us++ds).length=ps.length:=by rw [<- r2.length];exact F.len _ _ _ _ h
 refine wpAny_call (Oy (F.run X.A X.stack s H ⟨us,[]⟩ (us++ds) (vs++dvs) Q E hr I.env0 (hb s us I.kIn hl) r2 h) fun r s' hq=>?_)
 cases r with
 | error e=>exact hx pins U H s e s' I hq
 | ok fl=>
  cases fl with
  | ret u=>exact I.after hq
  | next=>exact LK hq
  | brk=>exact LK hq
  | cont=>exact LK hq
theorem xD (F:jZ X.prog X.w X.K X.mg X.base CX k f fd ps sp) (hr:cg k X.A) (hg:Gl X x) (hm:X.mg x=some (.ref f)) (hk:MA X.K (.ref f)=true) (hb:Binds X.K fd ps ds) (hd:Vals dvs ds) (hx:n5 CX X E)
  (ha:PA X (e::es) t) (hdb:(x==("__debug__":Str))=false:=by decide) (he:Jf (e::es) X.env=(false,eval e X.env)::Jf es X.env:=by rfl) (hpl:(K8 pos (Jf es X.env)).any (·.1)=false:=by rfl) :
  PE X (.Call (.Name x p) (e::es) [] pos) (iz sp dvs E t):=by
 intro pins s U H Q I h
 refine Nr (pF I hg hm ?_ hdb)
 refine PySem.W.callWith_K (h₀:=X.base) I.ok.mod.kin hk (thn (ha pos pins s U H _ I h) fun us s1 ⟨vs,H1,I1,r,q⟩=>⟨I1.kIn,?_⟩) he hpl
 exact B6 F hr hb hd hx I1 r q
end
structure aE (N P:List Str) (sc:MO):Prop where
 kind:sc.kind=.function
 co:sc.isCoroutine=false
 gen:sc.isGenerator=false
 nd:N.Nodup
 pre:N.take P.length=P
 par:∀x∈P,sc.names.lookup x=some .local\/sc.names.lookup x=some .cell
 nofree:∀y∈sc.names,y.2≠.free
theorem kf {kindOf:Str->Option Lb} {x:Str}:∀{binds:List (Str×IP)} {m:Str->Option IP},(∀v,(x,v)∉binds)->QK kindOf binds m x=m x
 | [],_,_=>rfl
 | (n,v)::r,m,h=>by
  unfold QK
  rw [kf fun w hw=>h w (IZ _ hw)]
  split
  ·have:x≠n:=by rintro rfl;exact h v IQ
   simp [this]
  ·rfl
theorem kh {kindOf:Str->Option Lb} {x:Str}:∀{binds:List (Str×IP)} {m:Str->Option IP},(∀v,(x,v)∉binds)->QL kindOf binds m x=m x
 | [],_,_=>rfl
 | (n,v)::r,m,h=>by
  unfold QL
  rw [kh fun w hw=>h w (IZ _ hw)]
  split
  ·rfl
  ·have:x≠n:=by rintro rfl;exact h v IQ
   simp [this]
theorem ki {kindOf:Str->Option Lb} {x:Str} {v:IP}:∀{P:List Str} {vs:List IP} {i:Nat} {m:Str->Option IP},P.Nodup->P[i]?=some x->vs[i]?=some v->kindOf x=some .local ->
  QK kindOf (P.zip vs) m x=some v
 | [],_,_,_,_,h,_,_=>by simp at h
 | _::_,[],_,_,_,_,h,_=>by simp at h
 | p::P,w::vs,0,m,nd,h1,h2,hk=>by
  simp at h1 h2;subst h1;subst h2
  show QK kindOf ((p,w)::P.zip vs) m p=_
  unfold QK
  rw [kf fun v hv=>(List.nodup_cons.mp nd).1 (Oz hv).1,if_pos hk]
  simp
 | p::P,w::vs,i+1,m,nd,h1,h2,hk=>by
  show QK kindOf ((p,w)::P.zip vs) m x=_
  unfold QK
  exact ki (i:=i) (List.nodup_cons.mp nd).2 (by simpa using h1) (by simpa using h2) hk
theorem kj {kindOf:Str->Option Lb} {x:Str} {v:IP}:∀{P:List Str} {vs:List IP} {i:Nat} {m:Str->Option IP},P.Nodup->P[i]?=some x->vs[i]?=some v->kindOf x≠some .local ->
  QL kindOf (P.zip vs) m x=some v
 | [],_,_,_,_,h,_,_=>by simp at h
 | _::_,[],_,_,_,_,h,_=>by simp at h
 | p::P,w::vs,0,m,nd,h1,h2,hk=>by
  simp at h1 h2;subst h1;subst h2
  show QL kindOf ((p,w)::P.zip vs) m p=_
  unfold QL
  rw [kh fun v hv=>(List.nodup_cons.mp nd).1 (Oz hv).1,if_neg hk]
  simp
 | p::P,w::vs,i+1,m,nd,h1,h2,hk=>by
  show QL kindOf ((p,w)::P.zip vs) m x=_
  unfold QL
  exact kj (i:=i) (List.nodup_cons.mp nd).2 (by simpa using h1) (by simpa using h2) hk
def start (N:List Str) (vs:List V):St:=vs.map some++JP (N.length-vs.length) none
def i7 (CX:CXT) (P:Jp) (w:JQ) (K:IJ) (mg:Str->Option IP) (base:Heap) (N:List Str) (qual:Str) (scope:MO) (f:Addr) (cd:IP) (A:JY) (outer:List Env) (s:IM) (H:Hp) (E:XK):Cx where
 prog:=P
 w:=w
 K:=K
 mg:=mg
 base:=base
 A:=A.deeper (envOfC qual scope s.heap.objs.size f cd)
 N:=N
 s₀:=s
 H₀:=H
 env:=envOfC qual scope s.heap.objs.size f cd
 outer:=outer
 stack:=envOfC qual scope s.heap.objs.size f cd::outer
 ex:=[]
 calm:=true
 fn:=fun _=>true
 pn:=[]
 xe:=fun e s'=>JB (JD P w) (A.deeper (envOfC qual scope s.heap.objs.size f cd)) (leaving (envOfC qual scope s.heap.objs.size f cd) e) (fun _ s''=>CX outer H s E e s'') (fun e' s''=>CX outer H s E e' s'') s'
theorem mE {sc:MO} {n:Nat} {x:Str} (h:sc.names.lookup x=some .cell):∃c,(cellsFrom n sc.names []).lookup x=some c:=by
 have q:=Oq sc.names n [] (.inl h)
 exact Option.isSome_iff_exists.mp q
theorem qZ {CX:CXT} {P:Jp} {w:JQ} {K:IJ} {mg:Str->Option IP} {base:Heap} {N ps:List Str} {qual:Str} {scope:MO} {f:Addr} {cd:IP} {A:JY} {outer:List Env} {s s1:IM} {H:Hp} {E:XK} {us:List IP} {vs:List V}
  (S:aE N ps scope) (hd:A.handled=none) (e0:Env0 P w K mg base A outer s H) (hl:vs.length=ps.length) (r:Vals vs us)
  (x:InCallC s s.heap.objs.size (QK (envOfC qual scope s.heap.objs.size f cd).kindOf (ps.zip us) fun _=>none) (cellsFrom (s.heap.objs.size+1) scope.names []) (QL (envOfC qual scope s.heap.objs.size f cd).kindOf (ps.zip us) fun _=>none) s1) :
  Inv (i7 CX P w K mg base N qual scope f cd A outer s H E) [] (start N vs) H s1:=by
 have hpl:ps.length<=N.length:=by have:=congrArg K4 S.pre;rw [Kf] at this;omega
 obtain ⟨h1,tk,rfl,hk⟩:=x.done
 have noA:∀b:Addr,b∉(i7 CX P w K mg base N qual scope f cd A outer s H E).ex:=fun b z=>absurd (show b∈([]:List Addr) from z) (by simp)
 refine ⟨⟨e0.mod,S.kind,rfl,rfl,IS _,fun y z c h1 h2=>?_,fun y hy=>?_,fun y c _ h=>?_,fun _=>hd,Around.frames_deeper e0.frames,.inr ⟨rfl,rfl⟩,fun b z=>absurd z (noA b),e0.bs,e0.bsz,fun b _ _=>noA b,fun b z=>absurd z (noA b),e0.funs,e0.frf⟩,
  rfl,e0.bare,Un.kept hk,⟨_,x.toInCall.ns,fun i y v h1 h2 h3=>?_⟩,fun y c h=>⟨_,x.cell y c h⟩,e0.hok.fresh (IS _),fun y c h=>?_,fun p hp=>absurd (show p∈([]:List (Addr×Obj)) from hp) (by simp),e0.hok.kept hk,?_⟩
 ·exact name_of_addr x.apart (Ke h1) (Ke h2)
 ·have hy:scope.names.lookup y=some .cell\/scope.names.lookup y=some .free:=hy
  rcases hy with hy | hy
  ·exact mE hy
  ·exact absurd rfl (S.nofree _ (Ke hy))
 ·exact Ox (x.above y c (Ke h))
 ·have hi:i < vs.length:=by
   unfold start at h2
   by_cases hi:i < vs.length
   ·exact hi
   ·rw [Jq (by simpa using hi)] at h2
    rw [Md] at h2
    split at h2 <;> cases h2
  have ha:vs[i]?=some v:=by
   unfold start at h2
   rw [Jj (by simpa using hi),Jh] at h2
   cases e:vs[i]? with
   | none=>rw [e] at h2;cases h2
   | some a=>rw [e] at h2;cases h2;rfl
  obtain ⟨u,hu,rv⟩:=r.get ha
  have hp:ps[i]?=some y:=by
   rw [<- S.pre,List.getElem?_take_of_lt (by omega)];exact h1
  have ndP:ps.Nodup:=by rw [<- S.pre];exact S.nd.sublist (PM _ _)
  refine ⟨u,rv,?_⟩
  rcases S.par y (Jy hp) with k | k
  ·exact .inl ⟨k,ki ndP hp hu k⟩
  ·obtain ⟨c,e⟩:=mE (n:=s.heap.objs.size+1) k
   refine .inr ⟨.inl k,c,e,?_⟩
   have q:=x.cell y c e
   rw [kj ndP hp hu (by show scope.names.lookup y≠_;rw [k];decide)] at q
   exact q
 ·exact e0.hok.fresh (Ox (x.above y c (Ke h)))
 ·unfold start
  show _=N.length
  rw [Ji,IR,LG]
  omega
theorem E7 {CX:CXT} {P:Jp} {w:JQ} {K:IJ} {mg:Str->Option IP} {base:Heap} {k:Nat} {f:Addr} {name qual:Str} {params:Arguments} {body:List Stmt} {scope:MO} {dV kV doc pm cdv ct oc:IP} {an od:Option Addr}
  {osl:Array (Option IP)} {N ps:List Str} {sp:Sp} (lk:K.lookup f=some ⟨oc,od,.func (KC name qual params body scope dV kV doc pm an cdv ct),osl⟩) (hcd:NF K cdv qual=true) (S:aE N ps scope)
  (len:∀vs H Q E,sp vs H Q E->vs.length=ps.length)
  (hbody:∀(A:JY) (outer:List Env) (s:IM) (H:Hp) (vs:List V) (Q:VK) (E:XK),cg k (A.deeper (envOfC qual scope s.heap.objs.size f cdv))->sp vs H Q E ->
   ∃t,PSs (i7 CX P w K mg base N qual scope f cdv A outer s H E) body t/\t { nx:=fun _ H'=>Q .non H',rt:=Q } (start N vs) H) :
  jZ P w K mg base CX (k+1) f (KC name qual params body scope dV kV doc pm an cdv ct) ps sp:=by
 refine ⟨len,fun A outer s H args us vs Q E hr e0 hb r hsp=>?_⟩
 have hl:=len _ _ _ _ hsp
 have KX:K.In s.heap:=e0.mod.kin.keeps fun b o e=>(e0.bs b o e).1
 have lim:s.heap.NoLimit:=e0.mod.nolimit.keeps fun b o e=>(e0.bs b o e).1
 have hkind:∀y∈ps.zip us,scope.names.lookup y.1=some .local\/(scope.names.lookup y.1=some .cell/\((cellsFrom (s.heap.objs.size+1) scope.names []).lookup y.1).isSome=true):=fun ⟨n,v⟩ hy=>by
  rcases S.par n (Oz hy).1 with q | q
  ·exact .inl q
  ·exact .inr ⟨q,Oq _ _ _ (.inl q)⟩
 refine codeAny_call_function hr.depth (KX _ _ lk) rfl S.co S.gen rfl (PySem.W.codeRec_of KX hcd) (hb _ _ _ _ ?_)
 refine wpAny_newFunctionEnv_cells S.kind hkind fun env he s1 x=>?_
 subst he
 refine ⟨lim.keeps x.toInCall.keep,codeAny_func ?_⟩
 obtain ⟨t,ht,hq⟩:=hbody A outer s H vs Q E (hr.deeper _) hsp
 have I:Inv (i7 CX P w K mg base N qual scope f cdv A outer s H E) [] (start N vs) H s1:=qZ S hr.hd e0 hl r x
 refine J9 (ht [] s1 (start N vs) H _ I hq) (fun fl s' hs=>?_) fun e s' hs=>hs
 have fin:∀{U':St} {H':Hp} {v:V} {u:IP},Inv (i7 CX P w K mg base N qual scope f cdv A outer s H E) [] U' H' s'->RelV v u->Q v H'->CE outer P w H s Q u s':=
  fun {U' H' v u} J rv q=>⟨v,H',J.os,J.bare,J.base,J.hok,rv,q⟩
 cases fl with
 | ret u=>
  obtain ⟨v,U',H',J,rv,q⟩:=hs
  exact fin J rv q
 | next=>
  obtain ⟨U',H',J,q⟩:=hs
  exact fin (v:=V.non) (u:=JR) J rfl q
 | brk=>
  obtain ⟨_,_,_,q⟩:=hs
  exact LK q
 | cont=>
  obtain ⟨_,_,_,q⟩:=hs
  exact LK q
end L2
namespace L2
open PySem PySem.Spec PyProof.Rows
section
variable {X:Cx} {x:Str} {p pos:Pos} {e:Expr} {es:List Expr} {t:TA} {id T:String} {r:List V->Hp->VK->Prop}
def tCB (r:List V->Hp->VK->Prop) (t:TA):TE:=fun U H Q=>t U H fun vs H1=>r vs H1 Q
theorem fS (hc:b7 X (.builtin id) r) (hg:Gl X x) (hm:X.mg x=none) (hv:J1 x=some (.builtin id)) (ha:PA X (e::es) t) (hn:x≠"__name__":=by decide) (hdb:(x==("__debug__":Str))=false:=by decide)
  (he:Jf (e::es) X.env=(false,eval e X.env)::Jf es X.env:=by rfl) (hpl:(K8 pos (Jf es X.env)).any (·.1)=false:=by rfl):PE X (.Call (.Name x p) (e::es) [] pos) (tCB r t):=by
 intro pins s U H Q I h
 refine Nr (fC I hg hm hv ?_ hn hdb)
 exact PyProof.Rows.callWith_builtin1 (thn (ha pos pins s U H _ I h) fun us s1 zt1=>by obtain ⟨vs,H1,I1,r1,q1⟩:=zt1;exact hc pins s1 U H1 vs us Q I1 r1 q1) he hpl
theorem eV (hc:b7 X (.type T) r) (hg:Gl X x) (hm:X.mg x=none) (hv:J1 x=some (.type T)) (ha:PA X (e::es) t) (hn:x≠"__name__":=by decide) (hdb:(x==("__debug__":Str))=false:=by decide)
  (he:Jf (e::es) X.env=(false,eval e X.env)::Jf es X.env:=by rfl) (hpl:(K8 pos (Jf es X.env)).any (·.1)=false:=by rfl):PE X (.Call (.Name x p) (e::es) [] pos) (tCB r t):=by
 intro pins s U H Q I h
 refine Nr (fC I hg hm hv ?_ hn hdb)
 exact Kx (thn (ha pos pins s U H _ I h) fun us s1 zt1=>by obtain ⟨vs,H1,I1,r1,q1⟩:=zt1;exact hc pins s1 U H1 vs us Q I1 r1 q1) he hpl
end
end L2
namespace HT
open PySem PyProof.Rows
def lexLt:List Int->List Int->Bool
 | [],[]=>false
 | [],_::_=>true
 | _::_,[]=>false
 | x::xs,y::ys=>if x=y then lexLt xs ys else decide (x < y)
theorem cR (x y:Int) (xs ys:List Int):lexLt (x::xs) (y::ys)=if x=y then lexLt xs ys else decide (x < y):=rfl
section
variable {prog:Jp} {w:JQ} {A:JY} {E:IP->IM->Prop} {s:IM}
def sIx (n d:Nat):Option Int->Nat
 | none=>d
 | some v=>if v < 0 then (v+(n:Int)).toNat else min v.toNat n
theorem sX (n d:Nat):sIx n d none=d:=rfl
theorem B7 (n d:Nat) (hd:d<=n) (o:Option Int):sIx n d o<=n:=by
 cases o with
 | none=>exact hd
 | some v=>
  show (if v < 0 then (v+(n:Int)).toNat else min v.toNat n)<=n
  by_cases hv:v < 0
  ·rw [if_pos hv];omega
  ·rw [if_neg hv];exact Nat.min_le_right _ _
theorem pM (v:Int) (n d:Nat):(if v < 0 then max (v+(n:Int)) 0 else min v (n:Int))=((sIx n d (some v):Nat):Int):=by
 show (if v < 0 then max (v+(n:Int)) 0 else min v (n:Int))=(((if v < 0 then (v+(n:Int)).toNat else min v.toNat n):Nat):Int)
 by_cases hv:v < 0
 ·simp only [if_pos hv];omega
 ·simp only [if_neg hv];omega
theorem n6 (lo hi:Option Int) (n:Nat):LX lo hi 1 (n:Int)=(((sIx n 0 lo:Nat):Int),((sIx n n hi:Nat):Int)):=by
 have h1:¬ ((1:Int) < 0):=by omega
 unfold LX
 simp only [h1,if_false]
 refine Prod.ext ?_ ?_
 ·cases lo with
  | none=>rfl
  | some v=>exact pM v n 0
 ·cases hi with
  | none=>rfl
  | some v=>exact pM v n n
theorem n8 (i j:Nat):Le (i:Int) (j:Int) 1=j-i:=by
 unfold Le
 have h1:(1:Int) > 0:=by omega
 simp only [h1,if_true,Int.ediv_one]
 split <;> omega
theorem i8 {v:IP} {o:Option Int} {Q:Option Int->IM->Prop} (p:Qk v o) (h:Q o s):JB (JD prog w) A (Builtin.Slice.slicePartIndex v) Q E s:=by
 cases p with
 | none=>exact slicePart_none h
 | int i t=>exact slicePart_int h
theorem gU {sl:Addr} {vl vu:IP} {lo hi:Option Int} {n:Nat} {Q:Int×Int×Nat->IM->Prop} (hs:s.heap.IsSliceOf sl vl vu .none) (pl:Qk vl lo) (pu:Qk vu hi)
  (h:Q (((sIx n 0 lo:Nat):Int),1,sIx n n hi-sIx n 0 lo) s):JB (JD prog w) A (Nl (.ref sl) (pure (n:Int))) Q E s:=by
 obtain ⟨os,hos,hcs,hds⟩:=id hs
 unfold Nl Builtin.Slice.sliceFields
 refine II (II (Mq hos hds (x:=vl) rfl (II (Mq hos hds (x:=vu) rfl (II (Mq hos hds (x:=.none) rfl (IK ?_)))))))
 refine II (slicePart_none ?_)
 show JB _ _ (if ((1:Int)==0)=true then _ else _) _ _ s
 rw [if_neg (by decide)]
 refine II (i8 pl (II (i8 pu (II (IK ?_)))))
 show JB _ _ (match LX lo hi 1 (n:Int) with | (lo,hi)=>pure (lo,(1:Int),Le lo hi 1)) _ _ s
 rw [n6 lo hi n]
 show JB _ _ (pure (((sIx n 0 lo:Nat):Int),(1:Int),Le ((sIx n 0 lo:Nat):Int) ((sIx n n hi:Nat):Int) 1)) _ _ s
 rw [n8]
 exact IK h
theorem sY (xs:Array IP) (i k:Nat):((JS k).filterMap fun (m:Nat)=>xs[((i:Int)+(m:Int)*1).toNat]?).toArray=((xs.toList.drop i).take k).toArray:=by
 have e:(fun (m:Nat)=>xs[((i:Int)+(m:Int)*1).toNat]?)=fun m=>xs[i+m]?:=by
  funext m
  have:((i:Int)+(m:Int)*1).toNat=i+m:=by omega
  rw [this]
 rw [e]
 have:=pick_run xs i k
 rw [Pj] at this
 have e2:((fun x=>xs[x]?) ∘ fun x=>i+x)=fun m=>xs[i+m]?:=rfl
 rw [e2] at this
 rw [this]
theorem fT {t sl:Addr} {items:Array IP} {vl vu:IP} {lo hi:Option Int} {Q:IP->IM->Prop} (ht:IsTup s.heap t items) (hs:s.heap.IsSliceOf sl vl vu .none) (pl:Qk vl lo) (pu:Qk vu hi)
  (hw:¬ (sIx items.size 0 lo=0/\sIx items.size items.size hi=items.size))
  (h:Q (.ref s.heap.objs.size) { s with heap:=s.heap.push { cls:=.type "tuple",data:=.seq ((items.toList.drop (sIx items.size 0 lo)).take (sIx items.size items.size hi-sIx items.size 0 lo)).toArray } })
  (hsz:items.size<=JA):JB (JD prog w) A (Qi (.ref t) (.ref sl)) Q E s:=by
 have htake:sizeOk (.seq ((items.toList.drop (sIx items.size 0 lo)).take (sIx items.size items.size hi-sIx items.size 0 lo)).toArray):=by
  show ((items.toList.drop (sIx items.size 0 lo)).take (sIx items.size items.size hi-sIx items.size 0 lo)).toArray.size<=JA
  rw [Jb,Kf,Og,Jl]
  omega
 have hj:sIx items.size items.size hi<=items.size:=B7 _ _ (IS _) hi
 obtain ⟨os,hos,hcs,hds⟩:=id hs
 have hTs:s.TypeIs (.ref sl) "slice":=⟨os,hos,hcs⟩
 unfold Qi
 try with_reducible refine J5 ?_
 first | refine II (IK ?_) | skip
 refine II (wpAny_sequenceKey ht.typeIs (by decide) ?_)
 refine II (KS (name:=Nt "__getitem__") ht.typeIs Mr
  (J8 Mr ht.typeIs entry_tuple_getitem ?_ (args_tuple_getitem _ _)))
 show JB _ _ (Nm (.ref t) >>= _) _ _ s
 refine II (tupleItemsOf_ ht ?_)
 refine II (Qd hTs ?_)
 rw [if_pos (by decide)]
 refine II (gU hs pl pu ?_)
 have hno:¬ ((((sIx items.size 0 lo:Nat):Int)==0&&(1:Int)==1&&(sIx items.size items.size hi-sIx items.size 0 lo)==items.size)=true):=by
  intro q
  rw [JF,JF] at q
  have q1:((sIx items.size 0 lo:Nat):Int)=0:=eq_of_beq q.1.1
  have q2:sIx items.size items.size hi-sIx items.size 0 lo=items.size:=eq_of_beq q.2
  exact hw ⟨by omega,by omega⟩
 show JB _ _ (if (((sIx items.size 0 lo:Nat):Int)==0&&(1:Int)==1&&(sIx items.size items.size hi-sIx items.size 0 lo)==items.size)=true then _ else _) _ _ s
 rw [if_neg hno,sY]
 first
  | exact II (m:=Lk _) (JX (IK ⟨_,rfl,IK h⟩) htake)
  | exact II (m:=Lk _) (JX (II (IK (IK ⟨_,rfl,IK h⟩))) htake)
  | exact II (II (m:=Lk _) (JX (IK (IK ⟨_,rfl,IK h⟩)) htake))
  | exact II (II (m:=Lk _) (JX (IK ⟨_,rfl,IK h⟩) htake))
end
end HT
namespace L2
open PySem PySem.Spec PyProof.Rows
abbrev TO:=St->Hp->(Option Int->Hp->Prop)->Prop
def PO (X:Cx) (e:Option Expr) (t:TO):Prop:=
 ∀(pins:List (Addr×Obj)) (s:IM) (U:St) (H:Hp) (Q:Option Int->Hp->Prop),Inv X pins U H s->t U H Q ->
  JB (JD X.prog X.w) X.A (evalPart e X.env) (fun u s'=>∃o H',Inv X pins U H' s'/\Qk u o/\Q o H') X.xe s
def pN:TO:=fun _ H Q=>Q none H
def Ap (t:TE):TO:=fun U H Q=>t U H fun x H1=>∃i,x=.int i/\Q (some i) H1
theorem intsAre_of {ns:List Int}:∀{us:List IP},Vals (ns.map V.int) us->O7 us ns:=by
 induction ns with
 | nil=>intro us r;rw [JW] at r;cases r;exact .nil
 | cons n ns ih=>
  intro us r
  rw [Jd] at r
  cases r with
  | cons r1 r2=>
   obtain ⟨t,e⟩:=r1
   subst e
   exact .cons n t (ih r2)
section
variable {X:Cx} {e:Expr} {te:TE} {lo hi:Option Expr} {tl th:TO} {pos p2:Pos}
theorem xE:PO X none pN:=by
 intro pins s U H Q I h
 rw [evalPart_none]
 exact IK ⟨none,H,I,.none,h⟩
theorem xF (h:PE X e te):PO X (some e) (Ap te):=by
 intro pins s U H Q I hw
 rw [evalPart_some]
 refine thn (h pins s U H _ I hw) fun u s1 zr1=>?_
 obtain ⟨x,H1,I1,r1,q1⟩:=zr1
 obtain ⟨i,rfl,q⟩:=q1
 obtain ⟨t,rfl⟩:=r1
 exact ⟨some i,H1,I1,.int i t,q⟩
def SlR (X:Cx) (r:V->Option Int->Option Int->Hp->VK->Prop):Prop:=
 ∀(pins:List (Addr×Obj)) (s:IM) (U:St) (H:Hp) (x:V) (v vl vu:IP) (lo hi:Option Int) (sl:Addr) (Q:VK),Inv X pins U H s->RelV x v->s.heap.IsSliceOf sl vl vu .none->Qk vl lo->Qk vu hi->r x lo hi H Q ->
  ∃T id,typeLookup (.type T) "__getitem__"=pure (some (.builtin id))/\s.TypeIs v T/\JB (JD X.prog X.w) X.A (Qi v (.ref sl)) (EP X pins U Q) X.xe s
def tSl (r:V->Option Int->Option Int->Hp->VK->Prop) (te:TE) (tl th:TO):TE:=fun U H Q=>te U H fun x H1=>tl U H1 fun l H2=>th U H2 fun u H3=>r x l u H3 Q
theorem mF {r:V->Option Int->Option Int->Hp->VK->Prop} (hr:SlR X r) (he:PE X e te) (hl:PO X lo tl) (hu:PO X hi th):PE X (.Subscript e (.Slice lo hi none p2) pos) (tSl r te tl th):=by
 intro pins s U H Q I h
 refine Qw (thn (he pins s U H _ I h) fun v s1 zr1=>?_)
 obtain ⟨x,H1,I1,r1,q1⟩:=zr1
 refine wpAny_Slice (thn (hl pins s1 U H1 _ I1 q1) fun vl s2 ⟨l,H2,I2,pl,q2⟩=>thn (hu pins s2 U H2 _ I2 q2) fun vu s3 zr1=>?_)
 obtain ⟨u,H3,I3,pu,q3⟩:=zr1
 rw [evalPart_none]
 refine IK ?_
 have I4:Inv X pins U H3 { s3 with heap:=s3.heap.push { cls:=.type "slice",data:=.fields #[vl,vu,.none] } }:=I3.kept (t':=s3.toks) fun b ob q=>IN _ q
 obtain ⟨T,id,hT,ht,hg⟩:=hr pins { s3 with heap:=s3.heap.push { cls:=.type "slice",data:=.fields #[vl,vu,.none] } } U H3 x v vl vu l u s3.heap.objs.size Q I4 r1 (Heap.IsSliceOf.new ..) pl pu q3
 show JB (JD X.prog X.w) X.A (Pk e (.Slice lo hi none p2) v (.ref s3.heap.objs.size)) (EP X pins U Q) X.xe { s3 with heap:=s3.heap.push { cls:=.type "slice",data:=.fields #[vl,vu,.none] } }
 exact Pm (ops:=[.ref s3.heap.objs.size,v]) ht hT hg (by with_unfolding_all rfl)
def j4 (xs:List V) (lo hi:Option Int):List V:=(xs.drop (HT.sIx xs.length 0 lo)).take (HT.sIx xs.length xs.length hi-HT.sIx xs.length 0 lo)
theorem iA (xs:List V) (lo hi:Option Int):(j4 xs lo hi).length<=xs.length:=by
 unfold j4
 rw [Kf,Og]
 omega
def E8 (K:IJ):V->Option Int->Option Int->Hp->VK->Prop:=fun x lo hi H Q=>∃a xs,x=.ref a/\SqT K H a xs /\
 ¬ (HT.sIx xs.length 0 lo=0/\HT.sIx xs.length xs.length hi=xs.length)/\∀p,H p=none->Q (.ref p) (upd H p (.tup (j4 xs lo hi)))
theorem B8:SlR X (E8 X.K):=by
 intro pins s U H x v vl vu lo hi sl Q I rx hs pl pu h
 obtain ⟨a,xs,rfl,hx,hw,q⟩:=h
 cases rx
 obtain ⟨its,r,ht,hz⟩:=I.tuple hx
 have hlen:its.toArray.size=xs.length:=by rw [Jb];exact r.length.symm
 refine ⟨"tuple",_,PyProof.Rows.slot_tuple_getitem.lookup,ht.typeIs,?_⟩
 refine HT.fT ht hs pl pu (by rw [hlen];exact hw) ?_ (by rw [hlen];exact hz)
 rw [hlen]
 refine ⟨.ref s.heap.objs.size,_,I.laid (t':=s.toks) (o:=.tup (j4 xs lo hi)) (fun b ob q=>IN _ q) (IS _) ?_,rfl,q _ (I.hok.fresh (IS _))⟩
 exact ⟨KB (iA xs lo hi) hz,_,(r.drop (HT.sIx xs.length 0 lo)).take (HT.sIx xs.length xs.length hi-HT.sIx xs.length 0 lo),IsTup.new _ _⟩
end
end L2
namespace L2
open PySem PySem.Spec PyProof.Rows
def ixN (n:Nat) (i:Int):Option Nat:=if 0<=i then (if i < n then some i.toNat else none) else if -(n:Int)<=i then some (i+n).toNat else none
def atI {α:Type} (xs:List α) (i:Int):Option α:=(ixN xs.length i).bind fun j=>xs[j]?
theorem pO {n:Nat} {i:Int} {j:Nat} (h:ixN n i=some j):seqIndex? i n=some j/\j < n/\-(n:Int)<=i/\i < n:=by
 unfold ixN at h
 by_cases h0:0<=i
 ·rw [if_pos h0] at h
  by_cases h1:i < n
  ·rw [if_pos h1] at h
   have e:i.toNat=j:=Jx h
   exact ⟨by rw [Ql h0 h1,e],by omega,by omega,h1⟩
  ·rw [if_neg h1] at h;cases h
 ·rw [if_neg h0] at h
  by_cases h1:-(n:Int)<=i
  ·rw [if_pos h1] at h
   have e:(i+n).toNat=j:=Jx h
   exact ⟨by rw [Qe (by omega) h1,e],by omega,h1,by omega⟩
  ·rw [if_neg h1] at h;cases h
theorem kZ {α:Type} {xs:List α} {i:Int} {v:α} (h:atI xs i=some v):∃j,seqIndex? i xs.length=some j/\xs[j]?=some v/\j < xs.length/\-(xs.length:Int)<=i/\i < xs.length:=by
 unfold atI at h
 cases e:ixN xs.length i with
 | none=>rw [e] at h;cases h
 | some j=>
  rw [e] at h
  obtain ⟨h1,h2,h3,h4⟩:=pO e
  exact ⟨j,h1,h,h2,h3,h4⟩
theorem bu {α:Type} {xs:List α} {j:Nat} {v:α} (h:xs[j]?=some v):atI xs (j:Int)=some v:=by
 have hj:j < xs.length:=(List.getElem?_eq_some_iff.mp h).1
 have e:ixN xs.length (j:Int)=some j:=by
  unfold ixN
  rw [if_pos (by omega),if_pos (by omega)];simp
 unfold atI;rw [e];exact h
theorem fU {α:Type} (xs:List α) (v:α):atI (xs++[v]) (-1)=some v:=by
 have hl:(xs++[v]).length=xs.length+1:=by simp
 have e:ixN (xs++[v]).length (-1)=some xs.length:=by
  unfold ixN
  rw [hl,if_neg (by decide),if_pos (by omega)]
  congr 1
  omega
 unfold atI
 rw [e]
 show (xs++[v])[xs.length]?=some v
 simp
def cY (b:Expr):Prop:=∀o i,subscripted b false o i=operate [o,i] (Qi o i)
def IxR (X:Cx) (r:R2):Prop:=
 ∀(value slice:Expr) (pins:List (Addr×Obj)) (s:IM) (U:St) (H:Hp) (x y:V) (v u:IP) (Q:VK),Inv X pins U H s->RelV x v->RelV y u->r x y H Q ->
  subscripted slice false v u=operate [v,u] (Qi v u)->JB (JD X.prog X.w) X.A (Pk value slice v u) (EP X pins U Q) X.xe s
def MtR (X:Cx) (id:String) (r:V->List V->Hp->VK->Prop):Prop:=
 ∀(pins:List (Addr×Obj)) (s:IM) (U:St) (H:Hp) (x:V) (xs:List V) (v:IP) (us:List IP) (Q:VK),Inv X pins U H s->RelV x v->Vals xs us->r x xs H Q ->
  JB (JD X.prog X.w) X.A (call (.builtin id) (v::us)) (EP X pins U Q) X.xe s
section
variable {X:Cx} {a b:Expr} {ta tb:TE} {pos:Pos}
theorem IxR.or {r r':R2} (h:IxR X r) (h':IxR X r'):IxR X (fun x y H Q=>r x y H Q\/r' x y H Q):=by
 intro value slice pins s U H x y v u Q I rx ry q hs
 rcases q with q | q
 ·exact h value slice pins s U H x y v u Q I rx ry q hs
 ·exact h' value slice pins s U H x y v u Q I rx ry q hs
theorem mG {r:R2} (hr:IxR X r) (ha:PE X a ta) (hb:PE X b tb) (hs:cY b):PE X (.Subscript a b pos) (tOp r ta tb):=by
 intro pins s U H Q I h
 exact Qw (B0 ha hb I h fun v u s2 x y H2 I2 rx ry q=>hr a b pins s2 U H2 x y v u Q I2 rx ry q (hs _ _))
def E9 (K:IJ):R2:=fun x y H Q=>∃p xs i v,x=.ref p/\y=.int i/\SqL K H p xs/\atI xs i=some v/\Q v H
def Fb (K:IJ):R2:=fun x y H Q=>∃p xs i v,x=.ref p/\y=.int i/\SqT K H p xs/\atI xs i=some v/\Q v H
def Fc:R2:=fun x y H Q=>∃z i c,x=.str z/\y=.int i/\z.length<=JA/\atI z.cps.toList i=some c/\Q (.str ⟨#[c]⟩) H
theorem xG:IxR X (E9 X.K):=by
 intro value slice pins s U H x y v u Q I rx ry h hs
 obtain ⟨p,xs,i,z,rfl,rfl,hq,he,q⟩:=h
 cases rx
 obtain ⟨t,rfl⟩:=ry
 obtain ⟨its,r,pl,hz⟩:=I.list hq
 obtain ⟨j,h1,h2,h3,h4,h5⟩:=kZ he
 obtain ⟨w,ew,rw'⟩:=r.get h2
 have hl:=r.length
 have hn:=gS
 have fin:EP X pins U Q w s:=⟨z,H,I,rw',q⟩
 by_cases h0:0<=i
 ·have hj:i.toNat=j:=by
   rw [Ql h0 h5] at h1
   exact Jx h1
  exact item_listR pl.isList h0 (by omega) (by rw [hj];simpa using ew) fin hs
 ·have hj:(i+(its.toArray.size:Int)).toNat=j:=by
   rw [Qe (by omega) h4] at h1
   rw [Jb,<- hl]
   exact Jx h1
  exact Os (x:=w) pl.isList.typeIs slot_list_getitem.lookup
   (wpAny_getItem_list_neg (Q:=fun r s'=>r=w/\EP X pins U Q r s') pl.isList (by omega) (by rw [Jb] <;> omega) (by omega) (by rw [hj];simpa using ew) ⟨rfl,fin⟩) hs
theorem B9:IxR X (Fb X.K):=by
 intro value slice pins s U H x y v u Q I rx ry h hs
 obtain ⟨p,xs,i,z,rfl,rfl,hq,he,q⟩:=h
 cases rx
 obtain ⟨t,rfl⟩:=ry
 obtain ⟨its,r,pl,hz⟩:=I.tuple hq
 obtain ⟨j,h1,h2,h3,h4,h5⟩:=kZ he
 obtain ⟨w,ew,rw'⟩:=r.get h2
 have hl:=r.length
 have hn:=gS
 have fin:EP X pins U Q w s:=⟨z,H,I,rw',q⟩
 exact Os (x:=w) pl.typeIs slot_tuple_getitem.lookup
  (getItem_tuple (j:=j) (Q:=fun r s'=>r=w/\EP X pins U Q r s') pl (by omega) (by omega) (by rw [Jb,<- hl];exact h1) (by simpa using ew) ⟨rfl,fin⟩) hs
theorem Ca:IxR X Fc:=by
 intro value slice pins s U H x y v u Q I rx ry h hs
 obtain ⟨z,i,c,rfl,rfl,hz,he,q⟩:=h
 obtain ⟨t,rfl⟩:=rx
 obtain ⟨t',rfl⟩:=ry
 obtain ⟨j,h1,h2,h3,h4,h5⟩:=kZ he
 have hl:z.cps.toList.length=z.length:=by simp [Str.length]
 rw [hl] at h1 h4 h5
 have hn:=gS
 exact Pm (typeIs_str s z t) slot_str_getitem.lookup (getItem_str (c:=c) (by
  have e1:decide (i < -(2 ^ 63:Int))=false:=decide_eq_false (by omega)
  have e2:decide (i >= 2 ^ 63)=false:=decide_eq_false (by omega)
  rw [e1,e2,Bool.or_false]) (by rw [h1];simpa using h2) ⟨.str ⟨#[c]⟩,H,I.tok _,⟨_,rfl⟩,q⟩) hs
def rIx (K:IJ):R2:=fun x y H Q=>E9 K x y H Q\/Fb K x y H Q\/Fc x y H Q
theorem sZ:IxR X (rIx X.K):=xG.or (B9.or Ca)
theorem n9 (its:List IP) (n j:Nat) (u:IP):KH (·.setIfInBounds j u) { cls:=.type "list",data:=.seq its.toArray n }={ cls:=.type "list",data:=.seq (its.set j u).toArray n }:=by
 simp [KH]
theorem Inv.lst {pins:List (Addr×Obj)} {U:St} {H:Hp} {s:IM} {p:Addr} {xs:List V} (I:Inv X pins U H s) (h:H p=some (.lst xs)) :
  ∃(its:List IP) (n:Nat),Vals xs its/\s.heap.get? p=some { cls:=.type "list",data:=.seq its.toArray n }/\xs.length<=JA:=by
 obtain ⟨z,its,n,r,e⟩:=I.hok p _ h
 exact ⟨its,n,r,e,z⟩
theorem Inv.lstUpd {pins:List (Addr×Obj)} {U:St} {H:Hp} {s:IM} {p:Addr} {xs ys:List V} {its its':List IP} {n n':Nat} {f:Obj->Obj} (I:Inv X pins U H s) (h:H p=some (.lst xs))
  (ho:s.heap.get? p=some { cls:=.type "list",data:=.seq its.toArray n }) (hf:f { cls:=.type "list",data:=.seq its.toArray n }={ cls:=.type "list",data:=.seq its'.toArray n' }) (r:Vals ys its') (hz:ys.length<=JA) (t:Nat) :
  Inv X pins U (upd H p (.lst ys)) { s with heap:=s.heap.update p f,toks:=t }:=by
 have e:(s.heap.update p f).get? p=some { cls:=.type "list",data:=.seq its'.toArray n' }:=by
  rw [MG f ho (by rw [hf] <;> rfl),hf]
 refine I.write (x:=p) (e:=p) (by rw [h];trivial) (.inl rfl) (fun b u hb q=>(K6 _ _ (LS hb)).trans q) ⟨_,e⟩ ?_
 exact ⟨hz,its',n',r,e⟩
def tf:V->V->V->Hp->(Hp->Prop)->Prop:=fun o i v H Q=>∃p xs k j,o=.ref p/\i=.int k/\H p=some (.lst xs)/\ixN xs.length k=some j/\Q (upd H p (.lst (xs.set j v)))
theorem set_list:EW X tf:=by
 intro pins s U H o i v ov iv u Q I ro ri rv h
 obtain ⟨p,xs,k,j,rfl,rfl,hp,hj,q⟩:=h
 cases ro
 obtain ⟨t,rfl⟩:=ri
 obtain ⟨its,n,r,ho,hz⟩:=I.lst hp
 obtain ⟨h1,h2,h3,h4⟩:=pO hj
 have hl:=r.length
 have hn:=gS
 have I':Inv X pins U (upd H p (.lst (xs.set j v))) { s with heap:=s.heap.update p (KH (·.setIfInBounds j u)) }:=
  I.lstUpd hp ho (n9 its n j u) (r.set rv j) (by rw [Na];exact hz) s.toks
 by_cases h0:0<=k
 ·have hk:k.toNat=j:=by
   rw [Ql h0 h4] at h1
   exact Jx h1
  exact PySem.W.ki_setAt ho h0 (by omega) (by rw [Jb,<- hl];exact h4) (by rw [hk];exact ⟨_,I',q⟩)
 ·have hk:(k+(its.toArray.size:Int)).toNat=j:=by
   rw [Qe (by omega) h3] at h1
   rw [Jb,<- hl]
   exact Jx h1
  exact PySem.W.ki_setBack ho (by omega) (by rw [Jb,<- hl];exact h3) (by omega) (by rw [hk];exact ⟨_,I',q⟩)
theorem lg (lo hi:Option Int) (n:Nat):(Ms lo hi none n).1=((HT.sIx n 0 lo:Nat):Int)/\(Ms lo hi none n).2.1=((HT.sIx n n hi:Nat):Int)/\(Ms lo hi none n).2.2=1:=by
 refine ⟨?_,?_,rfl⟩
 ·cases lo with
  | none=>simp [Ms,HT.sIx]
  | some i=>
   simp only [Ms,HT.sIx,Option.getD_none,show (1:Int) > 0 by decide,if_true]
   by_cases h:i < 0
   ·simp only [h,if_true] <;> omega
   ·simp only [h,if_false] <;> omega
 ·cases hi with
  | none=>simp [Ms,HT.sIx]
  | some i=>
   simp only [Ms,HT.sIx,Option.getD_none,show (1:Int) > 0 by decide,if_true]
   by_cases h:i < 0
   ·simp only [h,if_true] <;> omega
   ·simp only [h,if_false] <;> omega
theorem j5 (its:List IP) (lo hi:Option Int):slicePick its.toArray lo hi none=((its.drop (HT.sIx its.length 0 lo)).take (HT.sIx its.length its.length hi-HT.sIx its.length 0 lo)).toArray:=by
 obtain ⟨h1,h2,h3⟩:=lg lo hi its.toArray.size
 unfold slicePick
 rw [h1,h2,h3]
 simp only [sliceRange_one,pick_run,Jb] <;> rfl
def Fe (K:IJ):V->Option Int->Option Int->Hp->VK->Prop:=fun x lo hi H Q=>∃a xs,x=.ref a/\SqL K H a xs/\∀p,H p=none->Q (.ref p) (upd H p (.lst (j4 xs lo hi)))
theorem xH:SlR X (Fe X.K):=by
 intro pins s U H x v vl vu lo hi sl Q I rx hs pl pu h
 obtain ⟨a,xs,rfl,hx,q⟩:=h
 cases rx
 obtain ⟨its,r,ht,hz⟩:=I.list hx
 have hlen:=r.length
 refine ⟨"list",_,slot_list_getitem.lookup,ht.isList.typeIs,?_⟩
 refine wpAny_getItem_list_slice ht.isList hs pl pu .none (by simp) ?_ (by rw [Jb] <;> omega)
 rw [j5,<- hlen]
 refine ⟨.ref s.heap.objs.size,_,I.laid (t':=s.toks) (o:=.lst (j4 xs lo hi)) (fun b ob q=>IN _ q) (IS _) ?_,rfl,q _ (I.hok.fresh (IS _))⟩
 exact ⟨KB (iA xs lo hi) hz,_,0,(r.drop (HT.sIx xs.length 0 lo)).take (HT.sIx xs.length xs.length hi-HT.sIx xs.length 0 lo),Je _ rfl⟩
theorem lh:b7 X (.builtin "len") (fun xs H Q=>∃p ys,xs=[.ref p]/\(SqL X.K H p ys\/SqT X.K H p ys)/\Q (.int ys.length) H):=by
 intro pins s U H xs us Q I r h
 obtain ⟨p,ys,rfl,hq,q⟩:=h
 obtain ⟨u,rfl,rx⟩:=vals1 r
 cases rx
 have hn:=gS
 rcases hq with hq | hq
 ·obtain ⟨its,r',pl,hz⟩:=I.list hq
  have hlen:=r'.length
  exact Calls.call_len_list pl.isList (by simp only [Jb] <;> omega) ⟨.int ys.length,H,I.tok _,⟨s.toks+1,by rw [Jb,hlen]⟩,q⟩
 ·obtain ⟨its,r',pl,hz⟩:=I.tuple hq
  have hlen:=r'.length
  exact len_tuple pl (by simp only [Jb] <;> omega) ⟨.int ys.length,H,I.tok _,⟨s.toks+1,by rw [Jb,hlen]⟩,q⟩
theorem li:b7 X (.type "list") (fun xs H Q=>∃p ys,xs=[.ref p]/\(SqL X.K H p ys\/SqT X.K H p ys)/\∀l,H l=none->Q (.ref l) (upd H l (.lst ys))):=by
 intro pins s U H xs us Q I r h
 obtain ⟨p,ys,rfl,hq,q⟩:=h
 obtain ⟨u,rfl,rx⟩:=vals1 r
 cases rx
 have fin:∀(its:List IP),Vals ys its->ys.length<=JA->∀(h':Heap) (c':Nat),(∀b o',s.heap.get? b=some o'->h'.get? b=some o') ->
   h'.get? s.heap.objs.size=some { cls:=.type "list",dict:=none,data:=.seq its.toArray c',slots:=#[] }->EP X pins U Q (.ref s.heap.objs.size) { s with heap:=h' }:=fun its r' hz h' c' kp e=>
  ⟨.ref s.heap.objs.size,_,I.laid (t':=s.toks) kp (IS _) (show bt X.prog X.w _ h' _ (.lst ys) from ⟨hz,its,c',r',e⟩),rfl,q _ (I.hok.fresh (IS _))⟩
 rcases hq with hq | hq
 ·obtain ⟨its,r',pl,hz⟩:=I.list hq
  have hlen:=r'.length
  obtain ⟨o,ho,hc,n,hd⟩:=pl.isList
  exact call_list_seq p (.inl rfl) ho hc hd (fun h' c' kp e=>fin its r' hz h' c' kp e) (by simp only [Jb] <;> omega)
 ·obtain ⟨its,r',pl,hz⟩:=I.tuple hq
  have hlen:=r'.length
  obtain ⟨o,ho,hc,n,hd⟩:=pl
  exact call_list_seq p (.inr rfl) ho hc hd (fun h' c' kp e=>fin its r' hz h' c' kp e) (by simp only [Jb] <;> omega)
theorem j6:b7 X (.type "tuple") (fun xs H Q=>∃p ys,xs=[.ref p]/\((SqL X.K H p ys/\∀l,H l=none->Q (.ref l) (upd H l (.tup ys)))\/(SqT X.K H p ys/\Q (.ref p) H))):=by
 intro pins s U H xs us Q I r h
 obtain ⟨p,ys,rfl,h⟩:=h
 obtain ⟨u,rfl,rx⟩:=vals1 r
 cases rx
 rcases h with ⟨hq,q⟩ | ⟨hq,q⟩
 ·obtain ⟨its,r',pl,hz⟩:=I.list hq
  have hlen:=r'.length
  refine call_tuple_list pl.isList (fun h' kp=>?_) (by simp only [Jb] <;> omega)
  have I1:Inv X pins U H { s with heap:=h' }:=I.kept (t':=s.toks) kp
  have I2:Inv X pins U (upd H h'.objs.size (.tup ys)) { s with heap:=h'.push { cls:=.type "tuple",data:=.seq its.toArray } }:=
   I1.laid (t':=s.toks) (fun b o e=>IN _ e) (IS _) (show bt X.prog X.w _ _ _ (.tup ys) from ⟨hz,its,r',IsTup.new _ _⟩)
  exact ⟨.ref h'.objs.size,_,I2,rfl,q _ (I1.hok.fresh (IS _))⟩
 ·obtain ⟨its,r',pl,hz⟩:=I.tuple hq
  exact call_tuple_same pl ⟨.ref p,H,I,rfl,q⟩
def tyV (K:IJ) (T:String) (x:V) (H:Hp):Prop:=match x with
 | .str _=>T="str"
 | .int _=>T="int"
 | .ref p=>(T="list"/\∃xs,SqL K H p xs)\/(T="tuple"/\∃o,K.lookup p=some o/\o.cls=.type "tuple"/\o.dict=none) \/
   (T="dict"/\((∃kvs,H p=some (.dK kvs))\/∃kvs,H p=some (.dT kvs)))\/(T="set"/\∃S n,H p=some (.set S n))
 | _=>False
theorem Cb {pins:List (Addr×Obj)} {U:St} {H:Hp} {s:IM} {T:String} {x:V} {v:IP} (I:Inv X pins U H s) (r:RelV x v) (ty:tyV X.K T x H) :
  s.TypeIs v T/\∀a,v=.ref a->∃ob,s.heap.get? a=some ob/\ob.dict=none:=by
 cases x with
 | str z=>
  obtain ⟨t,rfl⟩:=r
  cases (show T="str" from ty)
  exact ⟨typeIs_str s z t,fun _ e=>nomatch e⟩
 | int i=>
  obtain ⟨t,rfl⟩:=r
  cases (show T="int" from ty)
  exact ⟨typeIs_int s i t,fun _ e=>nomatch e⟩
 | ref p=>
  cases r
  rcases ty with ⟨rfl,xs,hq⟩ | ⟨rfl,o,hk,hc,hd⟩ | ⟨rfl,hk⟩ | ⟨rfl,S,n,hk⟩
  ·obtain ⟨its,_,pl,_⟩:=I.list hq
   refine ⟨pl.isList.typeIs,fun a e=>?_⟩
   cases e
   obtain ⟨o,n,e,c,hd,_⟩:=pl
   exact ⟨o,e,hd⟩
  ·refine ⟨⟨o,I.kIn p o hk,hc⟩,fun a e=>?_⟩
   cases e
   exact ⟨o,I.kIn _ o hk,hd⟩
  ·have z:∃o,s.heap.get? p=some o/\o.ExactDict:=by
    rcases hk with ⟨kvs,hk⟩ | ⟨kvs,hk⟩
    ·obtain ⟨_,_,_,_,o,_,_,e,ex,_⟩:=I.hok p _ hk
     exact ⟨o,e,ex⟩
    ·obtain ⟨_,_,_,_,o,_,_,e,ex,_⟩:=I.hok p _ hk
     exact ⟨o,e,ex⟩
   obtain ⟨o,e,ex⟩:=z
   refine ⟨⟨o,e,ex.1⟩,fun a e2=>?_⟩
   cases e2
   exact ⟨o,e,ex.2.1⟩
  ·obtain ⟨o,_,_,_,e,ex,_⟩:=I.hok p _ hk
   refine ⟨⟨o,e,ex.1⟩,fun a e2=>?_⟩
   cases e2
   exact ⟨o,e,ex.2.1⟩
 | _=>exact LK ty
def tBM (K:IJ) (T:String) (r:V->List V->Hp->VK->Prop) (to:TE) (t:TA):TE:=fun U H Q=>to U H fun x H1=>tyV K T x H1/\t U H1 fun xs H2=>r x xs H2 Q
variable {o e:Expr} {es:List Expr} {to:TE} {t:TA} {name:Str} {apos cpos:Pos} {T id:String} {r:V->List V->Hp->VK->Prop}
theorem Ff (pa:PlainAttrs T) (slot:Slot T name id) (hty:typeOf (.builtin id)=pure (.type "method_descriptor")) (hm:MtR X id r) (ho:PE X o to) (ha:PA X (e::es) t)
  (hbase:Lw o name X.env (eval o X.env)=eval o X.env:=by rfl)
  (hfew:((K8 cpos (Jf (e::es) X.env)).all (fun x=>!x.1)&&(Po cpos (Nb [] X.env)).all (fun x=>x.1.isSome)
   && decide ((e::es).length+([]:List Nc).length+(if ([]:List Nc).isEmpty then 0 else 1) < 30))=true:=by rfl)
  (hline:(apos.endLine==cpos.line)=true:=by rfl) (hs:Jf (e::es) X.env=(false,eval e X.env)::Jf es X.env:=by rfl) (hplain:(K8 cpos (Jf es X.env)).any (·.1)=false:=by rfl) :
  PE X (.Call (.Attribute o name apos) (e::es) [] cpos) (tBM X.K T r to t):=by
 intro pins s U H Q I h
 refine Mj hbase hfew hline rfl (thn (ho pins s U H _ I h) fun v s1 zr1=>?_)
 obtain ⟨x,H1,I1,r1,ty,q1⟩:=zr1
 obtain ⟨h1,h2⟩:=Cb I1 r1 ty
 refine ⟨T,id,pa,slot,hty,h1,h2,?_⟩
 have hA:=ha cpos pins s1 U H1 _ I1 q1
 rw [hs] at hA ⊢
 refine LA (by show (false||(K8 cpos (Jf es X.env)).any (·.1))=false;rw [hplain] <;> rfl) (MR ?_)
 exact thn hA fun us s2 zt1=>by obtain ⟨vs,H2,I2,r2,q2⟩:=zt1;exact hm pins s2 U H2 x vs v us Q I2 r1 r2 q2
end
end L2
namespace L2
open PySem PySem.Spec PyProof.Rows
def MtM (X:Cx) (id:String) (r:V->List V->Hp->VK->Prop):Prop:=
 ∀(pins:List (Addr×Obj)) (s:IM) (U:St) (H:Hp) (x:V) (xs:List V) (v:IP) (us:List IP) (Q:VK),Inv X pins U H s->RelV x v->Vals xs us->r x xs H Q ->
  JB (JD X.prog X.w) X.A (call (.builtin id) (v::us)) (EP X pins U Q) X.xe s
theorem Vals.one:∀{x:V} {us:List IP},Vals [x] us->∃u,us=[u]/\RelV x u:=by
 intro x us h
 cases h with
 | cons r h=>cases h;exact ⟨_,rfl,r⟩
theorem Vals.two:∀{x y:V} {us:List IP},Vals [x,y] us->∃u v,us=[u,v]/\RelV x u/\RelV y v:=by
 intro x y us h
 cases h with
 | cons r h=>
  cases h with
  | cons q h=>cases h;exact ⟨_,_,rfl,r,q⟩
section
variable {X:Cx} {pins:List (Addr×Obj)} {U:St} {H:Hp} {s:IM} {l b:Addr} {xs ys zs:List V}
theorem Inv.lset {its its':List IP} {n:Nat} {f:Array IP->Array IP} {t':Nat} (I:Inv X pins U H s) (hH:H l=some (.lst xs))
  (e:s.heap.get? l=some { cls:=.type "list",data:=.seq its.toArray n }) (hf:f its.toArray=its'.toArray) (hv:Vals ys its') (hz:ys.length<=JA) :
  Inv X pins U (upd H l (.lst ys)) { s with heap:=s.heap.update l (KH f),toks:=t' }:=by
 have q:=PySem.IsL.update e f
 rw [hf] at q
 refine I.write (x:=l) (e:=l) (by rw [hH];exact trivial) (.inl rfl) (fun b' u hb hu=>(K6 s.heap (KH f) (LS hb)).trans hu) ⟨_,q⟩ ?_
 exact ⟨hz,its',_,hv,q⟩
theorem Inv.lnew {its:List IP} {t':Nat} (I:Inv X pins U H s) (hv:Vals ys its) (hz:ys.length<=JA) :
  Inv X pins U (upd H s.heap.objs.size (.lst ys)) { s with heap:=s.heap.push { cls:=.type "list",data:=.seq its.toArray },toks:=t' }:=
 I.laid (fun _ _ q=>IN _ q) (IS _) ⟨hz,its,0,hv,Je _ rfl⟩
theorem Inv.fresh (I:Inv X pins U H s):H s.heap.objs.size=none:=I.hok.fresh (IS _)
theorem Inv.lstM (I:Inv X pins U H s) (hH:H l=some (.lst xs)):xs.length<=JA/\∃(its:List IP) (n:Nat),Vals xs its/\xs.length=its.length/\s.heap.get? l=some { cls:=.type "list",data:=.seq its.toArray n }:=by
 obtain ⟨z,its,n,r,e⟩:=I.hok l _ hH
 exact ⟨z,its,n,r,r.length,e⟩
end
section
variable {X:Cx}
def iM:V->List V->Hp->VK->Prop:=fun x vs H Q=>∃l xs y,x=.ref l/\vs=[y]/\H l=some (.lst xs)/\xs.length < JA/\Q .non (upd H l (.lst (xs++[y])))
theorem rf:MtM X "list.append" iM:=by
 intro pins s U H x vs v us Q I rx rv h
 obtain ⟨l,xs,y,rfl,rfl,hH,hz,q⟩:=h
 cases rx
 obtain ⟨u,rfl,ru⟩:=rv.one
 obtain ⟨z,its,n,r,hl,e⟩:=I.lstM hH
 refine call_meets F.slot_list_append ⟨_,e,rfl⟩ F.entry_list_append (F.args_list_append_2 _ _) (PN l its.toArray n u (by rw [Jb];omega)) ⟨e,?_⟩
 refine ⟨.non,_,I.lset (its':=its++[u]) hH e (by simp) (r.append (.cons ru .nil)) ?_,rfl,q⟩
 rw [Ji,Kc]
 omega
def Fg:R2:=fun x y H Q=>∃l b xs zs,x=.ref l/\y=.ref b/\H l=some (.lst xs)/\H b=some (.lst zs)/\xs.length+zs.length<=JA/\∀p,H p=none->Q (.ref p) (upd H p (.lst (xs++zs)))
theorem Cd:OpR X (MV .Add) Fg:=by
 intro pins s U H x y v u Q I rx ry h
 obtain ⟨l,b,xs,zs,rfl,rfl,hH,hB,hz,q⟩:=h
 cases rx
 cases ry
 obtain ⟨z,its,n,r,hl,e⟩:=I.lstM hH
 obtain ⟨z2,its2,n2,r2,hl2,e2⟩:=I.lstM hB
 refine PySem.P.add_list e e2 ?_ (by rw [Jb,Jb];omega)
 have ea:its.toArray++its2.toArray=(its++its2).toArray:=by simp
 rw [ea]
 exact ⟨.ref _,_,I.lnew (t':=s.toks) (r.append r2) (by rw [Ji];omega),rfl,q _ I.fresh⟩
end
end L2
namespace Att
open PySem PySem.W PySem.Calls PyProof.Rows
theorem iI {P:Params} {h:Heap}:∀(ns:List Int) (vs:List IP),WellAll P h vs (ns.map WData.int)->O7 vs ns:=by
 intro ns
 induction ns with
 | nil=>
  intro vs w
  rw [JW] at w
  cases w
  exact .nil
 | cons n ns ih=>
  intro vs w
  rw [Jd] at w
  cases w with
  | cons a b=>
   cases a
   exact .cons _ _ (ih _ b)
theorem rh {l:OpenLaw} {n:Nat} (hn:l.most=some n) {P:Params} {h:Heap} {args:List WData} {vals:List IP}
  (hpre:l.row.toRowW.claim.pre args=true) (hwl:WellAll P h vals args) :
  ∃a vs ns,vals=[Jz a]/\args=[WData.list (ns.map WData.int)]/\h.get? a=some { cls:=.type "list",data:=.seq vs.toArray }/\O7 vs ns/\ns.length<=n:=by
 have hsh:WShape.hasAll [] args [.list .int]=true:=(pre_splitW hpre).1
 have hc:l.pre.holds [] { args:=args }=true:=(pre_splitW hpre).2
 obtain ⟨d,r,rfl,h1,h2⟩:=hasAllW_cons hsh
 obtain rfl:=hasAllW_nil h2
 obtain ⟨xs,rfl,h3⟩:=hasW_list h1
 obtain ⟨ns,rfl⟩:=items_int h3
 have hlen:ns.length<=n:=by
  unfold OpenLaw.pre at hc
  have h4:(WTm.not (.lt (.lit (.int (n:Int))) (.len (.arg 0)))).holds [] { args:=[.list (ns.map .int)] }=true:=by
   have h4:=(holds_andW hc).1
   rw [hn] at h4
   exact h4
  have h5:=condW_of h4 (w_not (w_lt w_lit (w_len_list (w_arg rfl))))
  rw [IR] at h5
  refine Nat.le_of_not_lt fun q=>?_
  have q':(n:Int) < ((ns.length:Nat):Int):=by omega
  first
   | (rw [decide_eq_true q'] at h5;exact absurd h5 (by decide))
   | (simp at h5;omega)
 cases hwl with
 | cons w1 w2=>
  cases w2
  cases w1 with
  | list ho hall=>exact ⟨_,_,ns,rfl,rfl,ho,iI ns _ hall,hlen⟩
theorem rj (l:OpenLaw) (args:List WData):l.row.toRowW.claim.post args (.bool true) args=true:=
 postW_of (r:=l.row.toRowW) (X:=(true==true))
  (show WShape.has [] (.bool true) .bool=true by first | rfl | decide | simp [WShape.has,WShape.arms,WShape.armsAll])
  (show (WTm.eq .res (.lit (.bool true))).value [] { args:=args,res:=some (.bool true),after:=args }=some (.bool (true==true)) from w_eq_bool (w_res rfl) w_lit) rfl
theorem mH {l:OpenLaw} {n:Nat} {q:Jp} {loose:List Str} {XP:(Str->Option IP)->Heap->Prop} {YP:JQ->Heap->Prop} {d:DefRec}
  (hn:l.most=some n) (hdf:d.params.defaults=[])
  (call:∀(w:JQ) (s₀ s₁:IM) (mg mb:Str->Option IP) (fa:Addr) (o:Obj) (pm cd doc:IP) (a:Addr) (vs:List IP) (ns:List Int),
   Ground q loose [] XP w s₀ mg mb s₁.heap->YP w s₁.heap ->
   s₁.heap.get? fa=some o->o.data=.func (docDef d.name d.params d.body d.scope pm cd doc)->s₁.heap.CodeRec cd d.name->mg d.name=some (.ref fa) ->
   s₁.heap.get? a=some { cls:=.type "list",data:=.seq vs.toArray }->O7 vs ns->ns.length<=n->s₁.gens=#[] ->
   L0 (JD l.prog w) PP (.call (.ref fa) ⟨[.ref a],[]⟩) (fun r s'=>r=.ok (.ret (.bool true))/\OldK s₁.heap s'.heap/\s'.os=s₁.os/\N4 s'.gens) s₁) :
  WalkO q loose XP YP l.row.toRowW d [] (fun f vs=>Qx f vs):=by
 intro w s₀ s₁ mg mb G Y fa o pm cd doc dV kV ho hd hcd hD hmg hg args vals as hpre hlay hrd hwl hlo
 obtain rfl:dV=.none:=Dflts.none hD hdf
 obtain rfl:kV=.none:=Dflts.noKw hD
 obtain ⟨a,vs,ns,rfl,rfl,hobj,hints,hlen⟩:=rh hn hpre hwl
 refine enter_call (Oy (call w s₀ s₁ mg mb fa o pm cd doc a vs ns G Y ho (fd_plain hd) hcd hmg hobj hints hlen hg) fun r s' hq=>?_)
 obtain ⟨rfl,h2,h3,h4⟩:=hq
 exact ⟨.inl ⟨.bool true,.bool true,[],rfl,fun _=>rfl,.bool true,rj l _,fun _=>⟨NV,fun _ hm=>(nomatch hm)⟩⟩,h2,h3,h4⟩
end Att
namespace L2
open PySem PySem.Spec PyProof.Rows
theorem km:∀{vs:List IP} {ns:List Int},O7 vs ns->Vals (ns.map V.int) vs
 | _,_,.nil=>.nil
 | _,_,.cons n t h=>.cons ⟨t,rfl⟩ (km h)
def Only (H:Hp):Prop:=∀b,H b=none\/∃o xs,H b=some (.frz o (.lst xs))
theorem tj {P:Jp} {w:JQ} {K:IJ} {mg mb:Str->Option IP} {CX:CXT} {k:Nat} {fa a:Addr} {fd:LN} {x:Str} {sp:Sp} {s₁:IM} {vs:List IP} {ns:List Int}
  (KX:K.In s₁.heap) (hns:s₁.heap.Ns JC mg) (hb:s₁.heap.Ns Qs mb) (hbb:∀x:Str,x≠"__name__"->mb x=J1 x) (hlim:s₁.heap.NoLimit) (hg:s₁.gens=#[])
  (ha:s₁.heap.get? a=some { cls:=.type "list",data:=.seq vs.toArray }) (hi:O7 vs ns) (hl:ns.length<=JA) (hr:cg k PP)
  (F:∀base:Heap,K.In base->base.Ns JC mg->jZ P w K mg base CX k fa fd [x] sp) (hbind:∀(s:IM) (u:IP),PL s fd ⟨[u],[]⟩ [(x,u)])
  (hsp:∀H:Hp,Only H->SqL K H a (ns.map V.int)->sp [.ref a] H (fun v _=>v=.bl true) fun _ _ _=>False)
  (hCX:∀H e s',CX [] H s₁ (fun _ _ _=>False) e s'->False) :
  L0 (JD P w) PP (.call (.ref fa) ⟨[.ref a],[]⟩) (fun r s'=>r=.ok (.ret (.bool true))/\OldK s₁.heap s'.heap/\s'.os=s₁.os/\N4 s'.gens) s₁:=by
 have rv:=km hi
 have lenV:=hi.length
 -- from an abstract heap in which nothing but the script may be tracked
 have core:∀H:Hp,Only H->SqL K H a (ns.map V.int)->HOk P w H s₁.heap->(∀b,H b≠none->b=a)->(H a≠none->K.lookup a=none) ->
   L0 (JD P w) PP (.call (.ref fa) ⟨[.ref a],[]⟩) (fun r s'=>r=.ok (.ret (.bool true))/\OldK s₁.heap s'.heap/\s'.os=s₁.os/\N4 s'.gens) s₁:=by
  intro H hO hS hok hA hK
  have base_of:∀{b:Addr} {o:Obj},s₁.heap.get? b=some o->H b=none->(kY s₁.heap H).get? b=some o:=fun e n=>sI e n
  have noA:∀{b:Addr} {o:Obj} {es:Array Ll} {ep:Nat},s₁.heap.get? b=some o->o.data=.dict es ep->H b=none:=fun {b o es ep} e d=>by
   cases q:H b with
   | none=>rfl
   | some u=>
    have e':b=a:=hA b (by rw [q];simp)
    subst e'
    rw [ha] at e;cases e
    have d':QF vs.toArray _=Data.dict es ep:=d
    cases d'
  have nsK:∀{b:Addr} {m:Str->Option IP},s₁.heap.Ns b m->(kY s₁.heap H).Ns b m:=fun {b m} zt1=>by obtain ⟨o,es,ep,e,d,r⟩:=zt1;exact ⟨o,es,ep,base_of e (noA e d),d,r⟩
  have hKb:K.In (kY s₁.heap H):=fun b o e=>base_of (KX b o e) (by
   cases q:H b with
   | none=>rfl
   | some u=>
    have e':b=a:=hA b (by rw [q];simp)
    subst e'
    rw [hK (by rw [q];simp)] at e;cases e)
  have hM:Mod K mg (kY s₁.heap H):=⟨hKb,nsK hns,⟨mb,nsK hb,hbb⟩,let ⟨mc,h1,h2⟩:=hlim;⟨mc,nsK h1,h2⟩⟩
  have e0:Env0 P w K mg (kY s₁.heap H) PP [] s₁ H:=⟨rfl,hM,fun b o e=>xm e,MJ (qS _ _),trivial,fun b hb=>absurd (show b∈([]:List Addr) from hb) (by simp),hok,.of_eq hg⟩
  refine Oy ((F _ hKb (nsK hns)).run PP [] s₁ H ⟨[.ref a],[]⟩ [.ref a] [.ref a] _ _ hr e0 (hbind s₁ (.ref a)) (.cons rfl .nil) (hsp H hO hS)) fun r s' h=>?_
  cases r with
  | error e=>exact (hCX H e s' h).elim
  | ok fl=>
   cases fl with
   | next=>exact LK h
   | brk=>exact LK h
   | cont=>exact LK h
   | ret u=>
    obtain ⟨v,H',os,bare,un,hok',r',q⟩:=h
    have q':v=.bl true:=q
    subst q'
    obtain rfl:u=NO true:=r'
    refine ⟨rfl,OldK.of_keep fun b o e=>?_,os,bare⟩
    cases q:H b with
    | none=>exact un.keep b o e q (by intro z;exact absurd (show b∈([]:List Addr) from z) (by simp)) (by simp)
    | some u=>
     rcases hO b with z | ⟨ob,xs,z⟩
     ·rw [q] at z;cases z
     ·have z2:=un.frzs b ob _ z
      obtain ⟨e1,_⟩:=hok b _ z
      obtain ⟨e2,_⟩:=hok' b _ z2
      rw [e] at e1;cases e1
      exact e2
 cases hk:K.lookup a with
 | some o=>
  -- the script is one of the module's own objects
  have e:=KX a o hk
  rw [ha] at e
  cases e
  refine core (fun _=>none) (fun _=>.inl rfl) (.inr ⟨_,vs.toArray,_,hk,rfl,rfl,rfl,by rw [Jb,lenV];exact hl,by simpa using rv⟩) (fun b u z=>by have z':(none:Option HO)=some u:=z;cases z') (fun b z=>absurd rfl z) fun z=>absurd rfl z
 | none=>
  refine core (fun b=>if b=a then some (.frz { cls:=.type "list",data:=.seq vs.toArray } (.lst (ns.map V.int))) else none) (fun b=>?_) (.inl (.inr ⟨{ cls:=.type "list",data:=.seq vs.toArray },if_pos rfl⟩)) (fun b u z=>?_) (fun b z=>?_) fun _=>hk
  ·by_cases hb:b=a
   ·exact .inr ⟨_,_,if_pos hb⟩
   ·exact .inl (if_neg hb)
  ·by_cases hb:b=a
   ·have z':=(if_pos hb).symm.trans z
    cases z'
    subst hb
    exact ⟨ha,by rw [IR];exact hl,vs,_,rv,ha⟩
   ·have z':=(if_neg hb).symm.trans z
    cases z'
  ·by_cases hb:b=a
   ·exact hb
   ·exact absurd (if_neg hb) z
end L2
namespace L2
open PySem PySem.Spec PyProof.Rows
theorem xJ {l:OA} {n k:Nat} {q:Jp} {loose:List Str} {XP:(Str->Option IP)->Heap->Prop} {YP:JQ->Heap->Prop} {d:DefRec} {K:Params->IJ} {CX:JQ->CXT} {sp:JQ->Sp} {x:Str}
  (hn:l.most=some n) (hn2:n<=JA) (hdf:d.params.defaults=[]) (hr:cg k PP)
  (hY:∀(w:JQ) (h:Heap),YP w h->(K w.params).In h)
  (F:∀(w:JQ) (mg:Str->Option IP) (fa:Addr) (h:Heap),(K w.params).In h->h.Ns JC mg->mg d.name=some (.ref fa) ->
   ∃fd:LN,(∀(s:IM) (u:IP),PL s fd ⟨[u],[]⟩ [(x,u)]) /\
    ∀base:Heap,(K w.params).In base->base.Ns JC mg->jZ l.prog w (K w.params) mg base (CX w) k fa fd [x] (sp w))
  (hsp:∀(w:JQ) (H:Hp) (a:Addr) (ns:List Int),ns.length<=n->Only H->SqL (K w.params) H a (ns.map V.int)->sp w [.ref a] H (fun v _=>v=.bl true) fun _ _ _=>False)
  (hCX:∀(w:JQ) (H:Hp) (s:IM) (e:IP) (s':IM),CX w [] H s (fun _ _ _=>False) e s'->False) :
  PySem.W.WalkO q loose XP YP l.row.toRowW d [] (fun f vs=>Qx f vs):=by
 refine Att.mH hn hdf fun w s₀ s₁ mg mb fa o pm cd doc a vs ns G Y ho hd hcd hmg hobj hints hlen hg=>?_
 have KX:=hY w _ Y
 obtain ⟨fd,hb,hF⟩:=F w mg fa _ KX G.T.g hmg
 exact tj KX G.T.g G.T.b G.T.builtins G.T.nolimit hg hobj hints (KB hlen hn2) hr hF hb (fun H hO hS=>hsp w H a ns hlen hO hS) fun H e s'=>hCX w H s₁ e s'
end L2
namespace L2
open PySem PySem.Spec PyProof.Rows
def cj (s:Stmt):Arguments:=match s with
 | .FunctionDef _ a _ _ _ _ _ _ _ _=>a
 | _=>{ posonlyargs:=[],args:=[],vararg:=none,kwonlyargs:=[],kw_defaults:=[],kwarg:=none,defaults:=[] }
def bw (s:Stmt):List Stmt:=match s with
 | .FunctionDef _ _ b _ _ _ _ _ _ _=>b
 | _=>[]
def aj (s:Stmt):MO:=match s with
 | .FunctionDef _ _ _ _ _ _ sc _ _ _=>sc
 | _=>{ kind:=.function,names:=[],isGenerator:=false,isCoroutine:=false }
abbrev CX0:CXT:=fun _ _ _ _ _ _=>False
abbrev E0:XK:=fun _ _ _=>False
theorem Fh {X:Cx}:n5 CX0 X E0:=fun _ _ _ _ _ _ _ h=>h.elim
structure Fun (K:IJ) (x qual:Str) (st:Stmt) (f:Addr) (fd:LN):Prop where
 ex:∃(oc:IP) (od:Option Addr) (kV doc pm:IP) (an:Option Addr) (cdv ct:IP) (osl:Array (Option IP)),
  fd=KC x qual (cj st) (bw st) (aj st) .none kV doc pm an cdv ct/\K.lookup f=some ⟨oc,od,.func fd,osl⟩/\NF K cdv qual=true
 kp:MA K (.ref f)=true
section
variable {P:Jp} {w:JQ} {K:IJ} {mg:Str->Option IP} {base:Heap}
theorem Fun.ok {x qual:Str} {st:Stmt} {f:Addr} {fd:LN} {N ps:List Str} {k:Nat} {sp:Sp} (F:Fun K x qual st f fd) (S:aE N ps (aj st)) (len:∀vs H Q E,sp vs H Q E->vs.length=ps.length)
  (hbody:∀(cdv:IP) (A:JY) (outer:List Env) (s:IM) (H:Hp) (vs:List V) (Q:VK) (E:XK),cg k (A.deeper (envOfC qual (aj st) s.heap.objs.size f cdv))->sp vs H Q E ->
   ∃t,PSs (i7 CX0 P w K mg base N qual (aj st) f cdv A outer s H E).nox (bw st) t/\t { nx:=fun _ H'=>Q .non H',rt:=Q } (start N vs) H):jZ P w K mg base CX0 (k+1) f fd ps sp:=by
 obtain ⟨oc,od,kV,doc,pm,an,cdv,ct,osl,rfl,lk,hcd⟩:=F.ex
 refine E7 lk hcd S len fun A outer s H vs Q E hr hsp=>?_
 obtain ⟨t,h,q⟩:=hbody cdv A outer s H vs Q E hr hsp
 exact ⟨t,h.nox,q⟩
theorem Fun.binds {x qual:Str} {st:Stmt} {f:Addr} {fd:LN} {ps:List Str} (F:Fun K x qual st f fd)
  (h:∀(kV doc pm:IP) (an:Option Addr) (cdv ct:IP) (us:List IP),us.length=ps.length->N7 (KC x qual (cj st) (bw st) (aj st) .none kV doc pm an cdv ct) ⟨us,[]⟩=pure (ps.zip us)):Binds K fd ps []:=by
 obtain ⟨oc,od,kV,doc,pm,an,cdv,ct,osl,rfl,lk,hcd⟩:=F.ex
 exact .all (h kV doc pm an cdv ct)
theorem Ce {x qual:Str} {st:Stmt} {f:Addr} {oc:IP} {od an:Option Addr} {osl:Array (Option IP)} {kV doc pm cdv ct:IP} (l:K.lookup f=some ⟨oc,od,.func (KC x qual (cj st) (bw st) (aj st) .none kV doc pm an cdv ct),osl⟩)
  (c:NF K cdv qual=true) (k:MA K (.ref f)=true):Fun K x qual st f (KC x qual (cj st) (bw st) (aj st) .none kV doc pm an cdv ct):=⟨⟨oc,od,kV,doc,pm,an,cdv,ct,osl,rfl,l,c⟩,k⟩
end
section
variable {X:Cx}
theorem pv (i:Nat) {x:Str} {pos:Pos} (hN:X.N[i]?=some x:=by rfl) (hv:Vis X.env.scope x:=by first | exact IW rfl | exact Kr (IW rfl) | exact Kr (Kr rfl)) (hd:(x==("__debug__":Str))=false:=by decide)
  (hcd:(x==("__classdict__":Str))=false:=by decide):PE X (.Name x pos) (cF i):=BJ hN hv hd hcd
end
end L2
section
namespace L2
open PySem PySem.Spec PyProof.Rows
theorem oe:J1 "int"=some (.type "int"):=by decide +kernel
theorem xK:J1 "bool"=some (.type "bool"):=by decide +kernel
theorem xM:J1 "list"=some (.type "list"):=by decide +kernel
theorem i9:J1 "tuple"=some (.type "tuple"):=by decide +kernel
theorem ck:J1 "len"=some (.builtin "len"):=by decide +kernel
theorem tm:J1 "abs"=some (.builtin "abs"):=by decide +kernel
theorem cD:J1 "isinstance"=some (.builtin "isinstance"):=by decide +kernel
def Has (P:Jp) (w:JQ) (K:IJ) (mg:Str->Option IP) (base:Heap) (k:Nat) (x:Str) (ps:List Str) (sp:Sp):Prop:=
 ∃(f:Addr) (fd:LN),jZ P w K mg base CX0 k f fd ps sp/\mg x=some (.ref f)/\MA K (.ref f)=true/\Binds K fd ps []/\∃(oc:IP) (od:Option Addr) (osl:Array (Option IP)),K.lookup f=some ⟨oc,od,.func fd,osl⟩
theorem kn {X:Cx} {j k:Nat} {x:Str} {ps:List Str} {sp:Sp} {e:Expr} {es:List Expr} {t:TA} {p pos:Pos} (E:Has X.prog X.w X.K X.mg X.base k x ps sp) (hr:cg j X.A) (ha:PA X (e::es) t)
  (hk:k<=j:=by decide) (hg:Gl X x:=by rfl) (hdb:(x==("__debug__":Str))=false:=by decide) (he:Jf (e::es) X.env=(false,eval e X.env)::Jf es X.env:=by rfl)
  (hpl:(K8 pos (Jf es X.env)).any (·.1)=false:=by rfl):PE X (.Call (.Name x p) (e::es) [] pos) (iz sp [] E0 t):=by
 obtain ⟨f,fd,F,hm,kp,hb,_⟩:=E
 exact xD F (hr.mono hk) hg hm kp hb .nil Fh ha hdb he hpl
def Src (K:IJ) (mg:Str->Option IP) (x:Str) (st:Stmt):Prop:=∃(f:Addr) (fd:LN),Fun K x x st f fd/\mg x=some (.ref f)
theorem Src.has {P:Jp} {w:JQ} {K:IJ} {mg:Str->Option IP} {base:Heap} {x:Str} {st:Stmt} {N ps:List Str} {k:Nat} {sp:Sp} (S:Src K mg x st) (sc:aE N ps (aj st))
  (hb:∀(kV doc pm:IP) (an:Option Addr) (cdv ct:IP) (us:List IP),us.length=ps.length->N7 (KC x x (cj st) (bw st) (aj st) .none kV doc pm an cdv ct) ⟨us,[]⟩=pure (ps.zip us))
  (len:∀vs H Q E,sp vs H Q E->vs.length=ps.length)
  (hbody:∀(f:Addr) (cdv:IP) (A:JY) (outer:List Env) (s:IM) (H:Hp) (vs:List V) (Q:VK) (E:XK),cg k (A.deeper (envOfC x (aj st) s.heap.objs.size f cdv))->sp vs H Q E ->
   ∃t,PSs (i7 CX0 P w K mg base N x (aj st) f cdv A outer s H E).nox (bw st) t/\t { nx:=fun _ H'=>Q .non H',rt:=Q } (start N vs) H):Has P w K mg base (k+1) x ps sp:=by
 obtain ⟨f,fd,F,hm⟩:=S
 exact ⟨f,fd,F.ok sc len fun cdv A outer s H vs Q E hr h=>hbody f cdv A outer s H vs Q E hr h,hm,F.kp,F.binds hb,by obtain ⟨oc,od,kV,doc,pm,an,cdv,ct,osl,_,lk,_⟩:=F.ex;exact ⟨oc,od,osl,lk⟩⟩
theorem aQ {K:IJ} {h:Heap} {mg:Str->Option IP} {x:Str} {st:Stmt} {f:Addr} {oc:IP} {od an:Option Addr} {osl:Array (Option IP)} {kV doc pm cdv ct:IP} (X:K.In h) (G:h.Ns JC mg)
  (a:J2 K JC x=some (some (.ref f))) (l:K.lookup f=some ⟨oc,od,.func (KC x x (cj st) (bw st) (aj st) .none kV doc pm an cdv ct),osl⟩)
  (c:NF K cdv x=true) (k:MA K (.ref f)=true):Src K mg x st:=⟨f,_,Ce l c k,PySem.W.mg_of X G a⟩
theorem xN {P:Jp} {w:JQ} {K:IJ} {mg:Str->Option IP} {k:Nat} {st:Stmt} {fa:Addr} {x:Str} {sp:Sp} (S:Src K mg "law" st) (hfa:mg "law"=some (.ref fa))
  (hb:∀(kV doc pm:IP) (an:Option Addr) (cdv ct:IP) (v:IP),N7 (KC "law" "law" (cj st) (bw st) (aj st) .none kV doc pm an cdv ct) ⟨[v],[]⟩=pure [(x,v)])
  (all:∀base:Heap,Has P w K mg base k "law" [x] sp) :
  ∃fd:LN,(∀(s:IM) (v:IP),PL s fd ⟨[v],[]⟩ [(x,v)])/\∀base:Heap,K.In base->base.Ns JC mg->jZ P w K mg base CX0 k fa fd [x] sp:=by
 obtain ⟨f,fd,F,hm⟩:=S
 have e:=hfa.symm.trans hm
 cases e
 obtain ⟨oc,od,kV,doc,pm,an,cdv,ct,osl,rfl,lk,_⟩:=F.ex
 refine ⟨_,fun s v=>.of_eq (hb kV doc pm an cdv ct v),fun base _ _=>?_⟩
 obtain ⟨f',fd',G',hm',_,_,oc',od',osl',lk'⟩:=all base
 have e:=hm.symm.trans hm'
 cases e
 rw [lk] at lk'
 injection lk' with e1
 injection e1 with _ _ e2 _
 injection e2 with e3
 rw [e3]
 exact G'
def tH (ms:List Int):Int:=Qy (Lg (ms.map Qz))
def tu (x:List Int×Addr×IP):Ll:=⟨tH x.1,.ref x.2.1,x.2.2⟩
abbrev EV:List (List Int×Addr×V)->List (List Int×Addr×IP)->Prop:=Paired fun p q=>p.1=q.1/\p.2.1=q.2.1/\RelV p.2.2 q.2.2
def DctP (a:Addr) (es:List (List Int×Addr×V)) (h:Heap):Prop:=
 es.length<=JA/\(a==KW)=false/\(es.map (·.1)).Nodup/\∃xs,EV es xs/\∃o ds ep,h.get? a=some o/\o.ExactDict/\o.data=.dict ds ep/\ds.toList=xs.map tu
def bK (a:Addr) (ob:Obj) (es:List (List Int×Addr×V)):HO:=.ext fun h=>DctP a es h/\h.get? a=some ob
theorem DctP.ok {P:Jp} {w:JQ} {H:Hp} {h:Heap} {a:Addr} {ob:Obj} {es:List (List Int×Addr×V)} (d:DctP a es h) (q:h.get? a=some ob):bt P w H h a (bK a ob es):=
 ⟨⟨d,q⟩,⟨ob,q⟩,fun _ _ zt1 k=>by obtain ⟨⟨z,m,nd,xs,ev,o,ds,ep,e,r⟩,q⟩:=zt1;exact ⟨⟨z,m,nd,xs,ev,o,ds,ep,k o e,r⟩,k ob q⟩⟩
theorem dQ {X:Cx} {pins:List (Addr×Obj)} {U:St} {H:Hp} {s:IM} {a:Addr} {ob:Obj} {es:List (List Int×Addr×V)} (I:Inv X pins U H s) (e:H a=some (bK a ob es)):DctP a es s.heap/\s.heap.get? a=some ob:=
 (show bt X.prog X.w H s.heap a (.ext fun h=>DctP a es h/\h.get? a=some ob) from I.hok a _ e).1
theorem fV {X:Cx} {pins:List (Addr×Obj)} {U:St} {H:Hp} {s:IM} {a:Addr} {ob:Obj} {es:List (List Int×Addr×V)} (I:Inv X pins U H s) (e:H a=some (bK a ob es)):DctP a es s.heap:=(dQ I e).1
inductive TyO (K:IJ) (H:Hp):V->String->Prop where
 | non:TyO K H .non "NoneType"
 | bl (x:Bool):TyO K H (.bl x) "bool"
 | int (i:Int):TyO K H (.int i) "int"
 | str (x:Str):TyO K H (.str x) "str"
 | lst {a:Addr} {xs:List V} (e:SqL K H a xs):TyO K H (.ref a) "list"
 | tup {a:Addr} {xs:List V} (e:SqT K H a xs):TyO K H (.ref a) "tuple"
 | dK {a:Addr} {kvs:List (Key×V)} (e:H a=some (.dK kvs)):TyO K H (.ref a) "dict"
 | dT {a:Addr} {kvs:List (List Key×V)} (e:H a=some (.dT kvs)):TyO K H (.ref a) "dict"
 | dE {a:Addr} {ob:Obj} {es:List (List Int×Addr×V)} (e:H a=some (bK a ob es)):TyO K H (.ref a) "dict"
def rm (t c:String):Option Bool:=ND [] (.type t) (.type c)
theorem tw {K:IJ} {t c:String}:ND K (.type t) (.type c)=rm t c:=rfl
theorem lj:rm "int" "int"=some true:=by decide +kernel
theorem j7:rm "int" "bool"=some false:=by decide +kernel
def Cf (K:IJ):List V->Hp->VK->Prop:=fun xs H Q=>∃x t c b,xs=[x,.ty c]/\TyO K H x t/\rm t c=some b/\Q (.bl b) H
theorem tx {X:Cx}:b7 X (.builtin "isinstance") (Cf X.K):=by
 intro pins s U H xs us Q I r h
 obtain ⟨x,t,c,b,rfl,ty,e,q⟩:=h
 obtain ⟨u,w',rfl,rx,rc⟩:=vals2 r
 obtain rfl:w'=PF c:=rc
 have e':ND X.K (.type t) (.type c)=some b:=by rw [tw];exact e
 have fin:∀tk,EP X pins U Q (.bool b) { s with toks:=tk }:=fun tk=>⟨.bl b,H,I.tok tk,rfl,q⟩
 cases ty with
 | non=>exact cO I rx (.non) e' fin
 | bl y=>exact cO I rx (.bl y) e' fin
 | int i=>exact cO I rx (.int i) e' fin
 | str y=>exact cO I rx (.str y) e' fin
 | dK ea=>exact cO I rx (.dK ea) e' fin
 | dT ea=>exact cO I rx (.dT ea) e' fin
 | @dE a ob es ea=>
  cases rx
  obtain ⟨_,_,_,_,_,o,_,_,h1,h2,_⟩:=fV I ea
  exact Ka NU I.kIn ⟨o,h1,h2.1⟩ e' (fun z=>nomatch z) fin
 | lst ea=>
  cases rx
  obtain ⟨its,_,pl,_⟩:=I.list ea
  obtain ⟨o,h1,h2,_⟩:=pl.isList
  exact Ka NT I.kIn ⟨o,h1,h2⟩ e' (fun z=>nomatch z) fin
 | tup ea=>
  cases rx
  obtain ⟨its,_,p,_⟩:=I.tuple ea
  obtain ⟨o,h1,h2,_⟩:=p
  exact Ka Pi I.kIn ⟨o,h1,h2⟩ e' (fun z=>nomatch z) fin
section
variable {X:Cx}
def ja (K:IJ) (H:Hp) (ps:List Addr) (mss:List (List Int)):Prop:=Paired (fun p ms=>SqT K H p (QG V.int ms)) ps mss
end
def pP:List IP->Option (List Int)
 | []=>some []
 | .int i _::r=>(pP r).map (i::·)
 | _::_=>none
theorem mI:∀{us:List IP} {ns:List Int},pP us=some ns->Vals (ns.map V.int) us
 | [],ns,e=>by cases e;exact .nil
 | u::r,ns,e=>by
  cases u with
  | int i t=>
   obtain ⟨ms,h1,rfl⟩:=Option.map_eq_some_iff.mp (show (pP r).map (i::·)=some ns from e)
   exact .cons ⟨t,rfl⟩ (mI h1)
  | _=>cases e
def og (K:IJ) (a:Addr):Option (List IP):=match K.lookup a with
 | some ⟨.type "tuple",_,.seq its _,_⟩=>if its.toList.length<=1000 then some its.toList else none
 | _=>none
theorem pQ {K:IJ} {H:Hp} {a:Addr} {us:List IP} {xs:List V} (e:og K a=some us) (r:Vals xs us):SqT K H a xs:=by
  unfold og at e
  split at e
  · rename_i c its n sl lk
    split at e
    · rename_i hz
      cases e
      have hs:JA=16777216:=J7
      exact .inr ⟨_, its, n, lk, rfl, rfl, by have : its.toList.length = its.size := by simp
                                              lia,r⟩
    · cases e
  · cases e
def okT (K:IJ) (v:IP) (ns:List Int):Bool:=match v with
 | .ref a=>(match og K a with | some us=>decide (pP us=some ns) | none=>false)
 | _=>false
theorem Cg {K:IJ} {H:Hp} {v:IP} {ns:List Int} (e:okT K v ns=true):∃a,v=.ref a/\SqT K H a (ns.map V.int):=by
 unfold okT at e
 split at e
 ·rename_i a
  split at e
  ·rename_i us h
   exact ⟨a,rfl,pQ h (mI (of_decide_eq_true e))⟩
  ·cases e
 ·cases e
def xO (K:IJ):List IP->List (List Int)->Bool
 | [],[]=>true
 | v::r,ns::s=>okT K v ns&&xO K r s
 | _,_=>false
theorem lq {K:IJ} {H:Hp}:∀{us:List IP} {nss:List (List Int)},xO K us nss=true->∃ps,Vals (ps.map V.ref) us/\ja K H ps nss
 | [],[],_=>⟨[],.nil,.nil⟩
 | u::r,ns::s,e=>by
  rw [xO,JF] at e
  obtain ⟨a,rfl,h⟩:=Cg (H:=H) e.1
  obtain ⟨ps,h1,h2⟩:=lq e.2
  exact ⟨a::ps,.cons rfl h1,.cons h h2⟩
 | [],_::_,e=>by cases e
 | _::_,[],e=>by cases e
def xP (K:IJ) (v:IP) (nss:List (List Int)):Bool:=match v with
 | .ref a=>(match og K a with | some us=>xO K us nss | none=>false)
 | _=>false
def TTup (K:IJ) (v:V) (nss:List (List Int)):Prop:=∃a ps,v=.ref a/\∀H:Hp,SqT K H a (ps.map V.ref)/\ja K H ps nss
theorem xQ {K:IJ} {v:IP} {nss:List (List Int)} (e:xP K v nss=true):∃x,RelV x v/\TTup K x nss:=by
 unfold xP at e
 split at e
 ·rename_i a
  split at e
  ·rename_i us h
   obtain ⟨ps,h1,h2⟩:=lq (H:=fun _=>none) e
   refine ⟨.ref a,rfl,a,ps,rfl,fun H=>⟨pQ h h1,?_⟩⟩
   obtain ⟨ps',h1',h2'⟩:=lq (H:=H) e
   have:=h1.inj h1'
   have e2:ps=ps':=by
    have:=congrArg (QG (fun v=>match v with | V.ref i=>i | _=>0)) this
    simpa [Jt,NW] using this
   rw [e2]
   exact h2'
  ·cases e
 ·cases e
def xR (K:IJ):List Ll->List (Int×List (List Int))->Bool
 | [],[]=>true
 | e::r,p::s=>N3 p.1 e.key&&decide (e.hash=Qz p.1)&&xP K e.val p.2&&xR K r s
 | _,_=>false
def okD (K:IJ) (d:Addr) (rows:List (Int×List (List Int))):Bool:=match K.lookup d with
 | some ⟨.type "dict",none,.dict es _,sl⟩=>sl.size==0&&xR K es.toList rows&&decide (rows.map (·.1)).Nodup
 | _=>false
theorem pR {P:Jp} {w:JQ} {K:IJ}:∀{es:List Ll} {rows:List (Int×List (List Int))},xR K es rows=true ->
  ∃kvs:List (Int×IP),Pairs (LF P w) es kvs/\(∀e∈es,∃k,(LF P w).is k e.key=true/\e.hash=(LF P w).hash k)/\kvs.map (·.1)=rows.map (·.1) /\
   ∀k nss,(k,nss)∈rows->(rows.map (·.1)).Nodup->∃v,PQ kvs k=some v/\xP K v nss=true
 | [],[],_=>⟨[],.nil,(fun _ h=>nomatch h),rfl,(fun _ _ h=>nomatch h)⟩
 | e::r,p::s,h=>by
  rw [xR,JF,JF,JF] at h
  obtain ⟨⟨⟨h1,h2⟩,h3⟩,h4⟩:=h
  obtain ⟨kvs,g1,g2,g3,g4⟩:=pR (P:=P) (w:=w) h4
  refine ⟨(p.1,e.val)::kvs,.cons h1 rfl g1,fun x hx=>?_,by simp [g3],fun k nss hk nd=>?_⟩
  ·rcases List.mem_cons.mp hx with rfl | hx
   ·exact ⟨p.1,h1,of_decide_eq_true h2⟩
   ·exact g2 x hx
  ·rw [Jd,Nd] at nd
   rcases List.mem_cons.mp hk with rfl | hk
   ·exact ⟨e.val,by simp [PQ],h3⟩
   ·obtain ⟨v,e1,e2⟩:=g4 k nss hk nd.2
    refine ⟨v,?_,e2⟩
    have ne:¬ p.1=k:=fun z=>nd.1 (List.mem_map.mpr ⟨(k,nss),hk,z.symm⟩)
    unfold PQ at e1 ⊢
    rw [List.find?_cons_of_neg (by simpa using ne)]
    exact e1
 | [],_::_,h=>by cases h
 | _::_,[],h=>by cases h
def Fi (K:IJ) (rows:List (Int×List (List Int))):R2:=fun x y H Q=>∃d k nss,x=.ref d/\y=.int k/\okD K d rows=true/\(k,nss)∈rows/\∀v,TTup K v nss->Q v H
theorem xS {X:Cx} {rows:List (Int×List (List Int))}:IxR X (Fi X.K rows):=by
 intro value slice pins s U H x y v u Q I rx ry h hs
 obtain ⟨d,k,nss,rfl,rfl,hd,hk,q⟩:=h
 cases rx
 obtain ⟨t,rfl⟩:=ry
 unfold okD at hd
 split at hd
 ·rename_i es n sl lk
  rw [JF,JF] at hd
  obtain ⟨⟨h1,h2⟩,h3⟩:=hd
  obtain ⟨kvs,g1,g2,g3,g4⟩:=pR (P:=X.prog) (w:=X.w) h2
  have nd:=of_decide_eq_true h3
  obtain ⟨v,e1,e2⟩:=g4 k nss hk nd
  have sl0:sl=#[]:=by
   have:sl.size=0:=by simpa using h1
   exact Array.eq_empty_of_size_eq_zero this
  have D:s.heap.DictOf (LF X.prog X.w) d kvs:=⟨_,es,n,I.kIn d _ lk,⟨rfl,rfl,sl0⟩,rfl,fun e he=>g2 e (by simpa using he),g1,by rw [g3];exact nd⟩
  obtain ⟨x,rx,tt⟩:=xQ e2
  exact Pm D.typeIs slot_dict_getitem.lookup (wpAny_getItem_of (k:=k) (by show N3 k (.int k t)=true;simp [N3]) D.mapOf e1 ⟨x,H,I.tok _,rx,q x tt⟩) hs
 ·cases hd
end L2
end
variable {H:L2.Hp} {vs:List L2.V} {es:List (List Int×PySem.Addr×L2.V)} {U:L2.St} {pins:List (PySem.Addr×PySem.Obj)} {ix:List Nat} {v:L2.V} {K:IJ} {ns:List Int} {ms:List Int} {mss:List (List Int)} {tg:List PySem.Str} {cs:List PySem.Str} {bo:List Int}
section
namespace L2
open PySem PySem.Spec PyProof.Rows
def cn (env:Env):List (Str×Lb)->List (Str×Addr)->List (Str×Addr)
 | [],acc=>acc
 | (n,k)::r,acc=>cn env r (if (k==J0)=true then (match env.cells.lookup n with | some c=>(n,c)::acc | none=>acc) else acc)
theorem eh {env:Env}:∀{l:List (Str×Lb)} {acc:List (Str×Addr)} {n:Str} {c:Addr},(n,c)∈cn env l acc->(n,c)∈acc\/env.cells.lookup n=some c
 | [],_,_,_,h=>.inl h
 | (m,k)::r,acc,n,c,h=>by
  unfold cn at h
  rcases eh h with h | h
  ·split at h
   ·split at h
    ·rename_i c' e
     rcases List.mem_cons.mp h with h | h
     ·cases h;exact .inr e
     ·exact .inl h
    ·exact .inl h
   ·exact .inl h
  ·exact .inr h
theorem ko {env:Env}:∀{l:List (Str×Lb)} {acc:List (Str×Addr)} {p:Str×Addr},p∈acc->p∈cn env l acc
 | [],_,_,h=>h
 | (m,k)::r,acc,p,h=>by
  unfold cn
  refine ko ?_
  split
  ·split
   ·exact IZ _ h
   ·exact h
  ·exact h
theorem mJ {env:Env}:∀{l:List (Str×Lb)} {acc:List (Str×Addr)} {n:Str} {c:Addr},(n,J0)∈l->env.cells.lookup n=some c->(n,c)∈cn env l acc
 | (m,k)::r,acc,n,c,h,e=>by
  unfold cn
  rcases List.mem_cons.mp h with h | h
  ·cases h
   refine ko ?_
   rw [if_pos (show (J0==J0)=true from rfl),e]
   exact IQ
  ·exact mJ h e
theorem cellOf_eq {env:Env} {n:Str} {c:Addr} (h:env.cells.lookup n=some c):cellOf env n=pure c:=by
 unfold cellOf
 rw [h]
theorem fF {env:Env} {scope:MO} (h:∀n,(n,J0)∈scope.names->∃c,env.cells.lookup n=some c):closureFor scope env=pure (cn env scope.names []):=by
 have all:∀(l:List (Str×Lb)) (acc:List (Str×Addr)),(∀n,(n,J0)∈l->∃c,env.cells.lookup n=some c) ->
   (forIn l acc fun (x:Str×Lb) (cs:List (Str×Addr))=>(if (x.2==J0)=true then (do let c <- cellOf env x.1;pure (Me ((x.1,c)::cs))) else pure (Me cs):Sem (ForInStep (List (Str×Addr)))))=pure (cn env l acc):=by
  intro l
  induction l with
  | nil=>intro acc _;rfl
  | cons x r ih=>
   intro acc hl
   obtain ⟨n,k⟩:=x
   rw [OB]
   unfold cn
   cases hk:(k==J0) with
   | true=>
    have hk':k=J0:=by simpa using hk
    subst hk'
    obtain ⟨c,e⟩:=hl n IQ
    simp only [if_true,cellOf_eq e,pure_bind,e]
    exact ih _ fun m hm=>hl m (IZ _ hm)
   | false=>
    simp only [Jk,if_false,pure_bind]
    exact ih _ fun m hm=>hl m (IZ _ hm)
 have q:=all scope.names [] h
 unfold closureFor
 first
  | (simp only [bind_pure_comp,map_pure] at q ⊢;rw [q];rfl)
  | (rw [q];rfl)
  | exact q
def aA (X:Cx) (scope:MO) (N:List Str) (C:Addr) (fp:List Addr) (s₀:IM) (H₀:Hp):Cx:=
 { X with N:=N,s₀:=s₀,H₀:=H₀,env:=MW scope (cn X.env scope.names []) C X.env,outer:=X.stack,stack:=X.stack,ex:=fp,fn:=fun _=>false,pn:=[],xe:=fun _ _=>False }
def capt (n:Nat) (ix:List Nat) (U:St):St:=JP n none++ix.map fun i=>(U[i]?).getD none
structure bC (X:Cx) (scope:MO) (tg cs:List Str) (ix:List Nat):Prop where
 kind:scope.kind=.function
 nocell:∀y∈scope.names,y.2≠.cell
 names:∀y∈scope.names,y.2=.local->scope.names.lookup y.1=some .local
 nd:(tg++cs).Nodup
 at_:ix.map (fun i=>X.N[i]?)=cs.map some
 free:∀x∈cs,(x,J0)∈scope.names/\scope.names.lookup x=some .free
 out:∀x,(x,J0)∈scope.names->X.env.scope.names.lookup x=some .cell\/X.env.scope.names.lookup x=some .free
theorem fW {f:Str×Lb->Str×Lb} (hf:∀p,(f p).1=p.1):∀(names:List (Str×Lb)) (x:Str),(names.map f).lookup x=(names.lookup x).map fun k=>(f (x,k)).2
 | [],_=>rfl
 | p::r,x=>by
  have e:f p=(p.1,(f p).2):=by rw [<- hf p]
  rw [Jd,e,List.lookup_cons,List.lookup_cons,fW hf r x]
  cases q:x==p.1 with
  | false=>rfl
  | true=>
   have z:x=p.1:=by simpa using q
   subst z
   rfl
def freed (env:Env) (p:Str×Lb):Bool:=p.2==J0&&env.scope.kind==.function&&env.kindOf p.1==some .cell
theorem fX {env:Env} {names:List (Str×Lb)} {x:Str} :
  (names.map fun (n,k)=>if (k==J0&&env.scope.kind==.function&&env.kindOf n==some .cell) then (n,N8) else (n,k)).lookup x=(names.lookup x).map fun k=>if freed env (x,k)=true then .cell else k:=by
 refine (fW (fun p=>?_) names x).trans ?_
 ·dsimp only
  split <;> rfl
 ·congr 1
  funext k
  unfold freed
  dsimp only
  split <;> rfl
theorem cM {env:Env} {names:List (Str×Lb)} {x:Str} {k:Lb}
  (h:(names.map fun (n,k)=>if (k==J0&&env.scope.kind==.function&&env.kindOf n==some .cell) then (n,N8) else (n,k)).lookup x=some k) (hk:k=.cell\/k=.free) (nc:∀y∈names,y.2≠.cell):(x,J0)∈names:=by
 rw [fX] at h
 cases q:names.lookup x with
 | none=>rw [q] at h;cases h
 | some k0=>
  have hm:=Ke q
  suffices z:k0=.free by rw [<- z];exact hm
  rw [q] at h
  by_cases c:freed env (x,k0)=true
  ·unfold freed at c
   simp only [JF,beq_iff_eq] at c
   exact c.1.1
  ·have h2:k0=k:=by simpa [c] using h
   rcases hk with e | e
   ·exact absurd (h2.trans e) (nc _ hm)
   ·exact h2.trans e
theorem fj {env:Env} {names:List (Str×Lb)} {x:Str} (h:names.lookup x=some .free) :
  (names.map fun (n,k)=>if (k==J0&&env.scope.kind==.function&&env.kindOf n==some .cell) then (n,N8) else (n,k)).lookup x=some .cell \/
  (names.map fun (n,k)=>if (k==J0&&env.scope.kind==.function&&env.kindOf n==some .cell) then (n,N8) else (n,k)).lookup x=some .free:=by
 rw [fX,h]
 by_cases c:freed env (x,.free)=true
 ·exact .inl (by simp [c])
 ·exact .inr (by simp [c])
section
variable {X:Cx} {pins:List (Addr×Obj)} {U:St} {H H1:Hp} {s:IM}
theorem Inv.track {D:Addr} {o:HO} (I:Inv X pins U H s) (hn:H D=none) (hs:X.s₀.heap.objs.size<=D) (hL:D≠X.env.locals) (hc:∀x c,X.env.cells.lookup x=some c->c≠D) (hp:∀p∈X.pn++pins,p.1≠D)
  (new:bt X.prog X.w (upd H D o) s.heap D o):Inv X pins U (upd H D o) s:=by
 have nb:∀b ob,X.s₀.heap.get? b=some ob->b≠D:=fun b ob e z=>by subst z;exact absurd (Js (Jg e) hs) (Kp _)
 refine ⟨I.ok,I.os,I.bare,⟨I.base.keep,I.base.slot,fun b ob e n hx=>?_,I.base.there,fun b xs e=>?_,fun b ob u e=>?_,fun b ps e=>?_⟩,I.loc,I.cell,?_,fun x c e=>?_,fun p hpp=>?_,fun b u e=>?_,I.len⟩
 ·rw [aL (nb b ob e)];exact I.base.free b ob e n hx
 ·have q:=I.base.tups b xs e
  rw [aL (bg q hn)];exact q
 ·have q:=I.base.frzs b ob u e
  rw [aL (bg q hn)];exact q
 ·obtain ⟨more,q⟩:=I.base.tbls b ps e
  exact ⟨more,by rw [aL (bg q hn)];exact q⟩
 ·rw [aL hL.symm];exact I.free
 ·rw [aL (hc x c e)];exact I.freeC x c e
 ·obtain ⟨a,b,c,d,e⟩:=I.pin p hpp
  exact ⟨a,by rw [aL (hp p hpp)];exact b,c,d,e⟩
 ·by_cases hb:b=D
  ·subst hb;rw [aJ] at e;cases e;exact new
  ·rw [aL hb] at e
   exact (I.hok b u e).stay (fun _ _ _ q=>q) (fun c q=>by rw [aL (bg q hn)];exact q) fun c xs q=>by rw [aL (bg q hn)];exact q
theorem dF {X:Cx} {tg cs:List Str} (hat:ix.map (fun i=>X.N[i]?)=cs.map some) {i:Nat} {x:Str} (h1:(tg++cs)[i]?=some x) (h2:(capt tg.length ix U)[i]?=some (some v)) :
  x∈cs/\∃k:Nat,X.N[k]?=some x/\U[k]?=some (some v):=by
 unfold capt at h2
 by_cases hi:i < tg.length
 ·rw [Jj (by simpa using hi),Md,if_pos hi] at h2
  cases h2
 ·rw [Jq (by simpa using hi),LG,Jh] at h2
  rw [Jq (by lia)] at h1
  cases e:ix[i-tg.length]? with
  | none=>rw [e] at h2;cases h2
  | some k=>
   rw [e] at h2
   have h2:(U[k]?).getD none=some v:=Jx h2
   have q:=congrArg (fun l=>l[i-tg.length]?) hat
   simp only [Jh,e,h1,Mc] at q
   refine ⟨Jy h1,k,Jx q,?_⟩
   cases z:U[k]? with
   | none=>rw [z] at h2;cases h2
   | some y=>rw [z] at h2;exact congrArg some h2
end
def PTs (X:Cx) (ifs:List Expr) (t:TT):Prop:=
 ∀(pins:List (Addr×Obj)) (s:IM) (U:St) (H:Hp) (Q:Bool->Hp->Prop),Inv X pins U H s->t U H Q ->
  JB (JD X.prog X.w) X.A (forIn ifs true fun c r=>if r=true then do let ok <- Qh c X.env (eval c X.env);pure (Me ok) else pure (Me r)) (TP X pins U Q) X.xe s
def Aq:TT:=fun _ H Q=>Q true H
theorem xT {X:Cx}:PTs X [] Aq:=fun _ _ _ H _ I h=>wpAny_tests_nil ⟨H,I,h⟩
theorem xU {X:Cx} {c:Expr} {t:TT} (h:PT X c t):PTs X [c] t:=fun pins s U H Q I hw=>wpAny_tests_one (h pins s U H Q I hw)
def cS (n:Nat) (ix:List Nat) (g:TG):Prop:=∀x U H Q,g x (capt n ix U) H Q->g x (capt n ix U) H fun U2 H2=>(U2.length=(capt n ix U).length/\∀(i:Nat) (v:V),(capt n ix U)[i]?=some (some v)->U2[i]?=some (some v))/\Q U2 H2
theorem gV {n:Nat} {j:Nat} (h:j < n) (e:(capt n ix U)[j]?=some (some v)):False:=by
 unfold capt at e
 rw [Jj (by simpa using h),Md,if_pos h] at e
 cases e
theorem bQ {n:Nat} {j:Nat} (h:j < n):cS n ix (bJ j):=fun x U H Q q=>⟨⟨by simp,fun i v e=>by
 by_cases hi:j=i
 ·subst hi;exact (gV h e).elim
 ·rw [JO hi];exact e⟩,q⟩
theorem bL {n:Nat} {m j k:Nat} (h:j < n) (h':k < n):cS n ix (sQ K m (iy (bJ j) (iy (bJ k) sO))):=fun x U H Q q=>by
 obtain ⟨a,xs,e1,hq,hl,v,r,e2,v',r',e3,e4,q⟩:=q
 refine ⟨a,xs,e1,hq,hl,v,r,e2,v',r',e3,e4,⟨by simp,fun i v e=>?_⟩,q⟩
 by_cases hi:j=i
 ·subst hi;exact (gV h e).elim
 ·by_cases hk:k=i
  ·subst hk;exact (gV h' e).elim
  ·rw [JO hk,JO hi];exact e
def mK (wi:TI) (n:Nat) (ix:List Nat) (g:TG) (tc:TT) (te:TE):TE:=fun U H Q=>wi U H fun J H1=>∃W:Nat->Nat->List V->Hp->Prop,(∃m,W 0 m [] H1)/\∀i m ys H2,W i m ys H2 ->
 (J.stop i H2/\ys.length<=JA/\∀D,H2 D=none->Q (.ref D) (upd H2 D (.lst ys))) \/
 (J.go i H2/\ys.length < JA/\∃Nx:List V->Hp->Prop,(∀ys' H',Nx ys' H'->∃m',m' < m/\W (i+1) m' ys' H') /\
  ∀x H3,J.yld i H2 x H3->g x (capt n ix U) H3 fun U2 H4=>tc U2 H4 fun b H5=>if b=true then te U2 H5 fun v H6=>Nx (ys++[v]) H6 else Nx ys H5)
section
variable {X:Cx} {pins:List (Addr×Obj)} {U:St} {H H1:Hp} {s:IM}
theorem jb {scope:MO} {tg cs:List Str} {fp:List Addr} {s4:IM} (S:bC X scope tg cs ix) (I:Inv X pins U H s) (hf:∀b∈fp,iG X pins H b) (ho:∀b∈fp,∃o,s.heap.get? b=some o) {C:Addr} (hC:s.heap.objs.size<=C)
  (hk:∀b o,s.heap.get? b=some o->s4.heap.get? b=some o) (hns:s4.heap.Ns C fun _=>none) (os:s4.os=s.os) (bare:N4 s4.gens) (hn:H C=none) :
  Inv (aA X scope (tg++cs) C fp s H) [] (capt tg.length ix U) H s4:=by
 have clX:∀x c,(cn X.env scope.names []).lookup x=some c->X.env.cells.lookup x=some c:=fun x c e=>by
  rcases eh (Ke e) with h | h
  ·cases h
  ·exact h
 have hasC:∀x,(x,J0)∈scope.names->∃c,(cn X.env scope.names []).lookup x=some c:=fun x hx=>by
  obtain ⟨c,e⟩:=I.ok.has x (S.out x hx)
  have m:=mJ (acc:=[]) hx e
  cases q:(cn X.env scope.names []).lookup x with
  | some c'=>exact ⟨c',rfl⟩
  | none=>
   have:=List.lookup_eq_none_iff.mp q (x,c) m
   simp at this
 refine ⟨⟨I.ok.mod,?_,I.ok.glob,I.ok.blt,hC,fun x y c e1 e2=>I.ok.inj x y c (clX x c e1) (clX y c e2),fun x hx=>?_,fun x c h=>?_,I.ok.hd,I.ok.frames,.inl rfl,fun b hb=>⟨?_,fun x c e=>?_⟩,I.bs,KB I.ok.bsz I.sz,fun b o e hb=>?_,fun b hb hx=>?_,I.stack,I.stkFree⟩,
  os,bare,Un.kept hk,⟨_,hns,fun i x v e1 e2 e3=>?_⟩,fun x c e=>?_,hn,fun x c e=>I.freeC x c (clX x c e),fun p hp=>(by cases hp),I.hok.kept hk,?_⟩
 ·show (relabel scope X.env).kind=.function
  exact S.kind
 ·have hx':(relabel scope X.env).names.lookup x=some .cell\/(relabel scope X.env).names.lookup x=some .free:=hx
  rcases hx' with h | h
  ·exact hasC x (cM h (.inl rfl) S.nocell)
  ·exact hasC x (cM h (.inr rfl) S.nocell)
 ·cases h
 ·obtain ⟨o,e⟩:=ho b hb
  exact JG (Js (Jg e) hC)
 ·exact (hf b hb).2.2.2.2.1 x c (clX x c e)
 ·obtain ⟨_,_,_,h,_⟩:=hf b hb
  rcases h with h | h
  ·exact I.ok.noex b o e h
  ·exact absurd (Js (Jg (I.ok.bs b o e).1) h) (Kp _)
 ·have hx:b∈frs X.stack:=hx
  obtain ⟨_,h1,h2,_⟩:=hf b hb
  rcases List.mem_cons.mp (I.stkSub b hx) with h | h
  ·exact h1 h
  ·exact h2 h
 ·obtain ⟨hx,k,h1,h2⟩:=dF (X:=X) S.at_ e1 e2
  obtain ⟨hx1,hx2⟩:=S.free x hx
  obtain ⟨m,hnm,hl⟩:=I.loc
  have ov:=S.out x hx1
  obtain ⟨u,r,l⟩:=hl k x v h1 h2 (by rcases ov with z | z;exact .inr (.inl z);exact .inr (.inr z))
  refine ⟨u,r,?_⟩
  rcases l with ⟨l,_⟩ | ⟨_,c,lc,ic⟩
  ·have l:X.env.scope.names.lookup x=some .local:=l
   rcases ov with z | z <;> rw [z] at l <;> cases l
  ·obtain ⟨c',e'⟩:=hasC x hx1
   have:=(clX x c' e').symm.trans lc
   cases this
   refine .inr ⟨fj hx2,c,e',?_⟩
   obtain ⟨o,ho1,ho2⟩:=ic
   exact ⟨o,hk c o ho1,ho2⟩
 ·obtain ⟨v,o,ho1,ho2⟩:=I.cell x c (clX x c e)
  exact ⟨v,o,hk c o ho1,ho2⟩
 ·show (capt tg.length ix U).length=(tg++cs).length
  have:=congrArg K4 S.at_
  simp only [IR] at this
  unfold capt
  simp [this]
theorem kq {use:Option (IP->Sem Unit)} {Qc:IP->IM->Prop} {pos':Pos} {elt target iter:Expr} {ifs:List Expr} {scope:MO} {pos:Pos} {tg cs:List Str} {wi:TI} {g:TG} {tc:TT} {te:TE} (S:bC X scope tg cs ix) (hcalm:X.calm=true) (kg:cS tg.length ix g)
    (hi:PI X target iter wi) (hg:∀C fp s H,PG (aA X scope (tg++cs) C fp s H) target g) (hc:∀C fp s H,PTs (aA X scope (tg++cs) C fp s H) ifs tc) (he:∀C fp s H,PE (aA X scope (tg++cs) C fp s H) elt te)
    (hs:∀x,Kh iter X.env x=pure x) {pins:List (Addr×Obj)} {s:IM} {U:St} {H:Hp} {Q:VK} (I:Inv X pins U H s) (h:mK wi tg.length ix g tc te U H Q)
    (fin:∀D C H' s' v,Inv X pins U H' s'->Q (.ref D) H'->iG X pins H' C->(∃m,s'.heap.Ns C m)->QH (JD X.prog X.w) X.A X.xe use Qc (.ref D) C (.ok v) s') :
    JB (JD X.prog X.w) X.A (comprehension (.ListComp elt [⟨target,iter,ifs,0⟩] scope pos) scope X.env pos' (newList []) false (eval iter X.env) use) Qc X.xe s:=by
  refine L6 (use:=use) (cl:=cn X.env scope.names []) rfl hs (fF fun n hn=>I.ok.has n (S.out n hn)) S.kind S.names ?_
  refine J9 (hi pins s U H _ I h) (fun v s1 h1=>J9 h1 (fun itv s2 h2=>?_) fun _ _ e=>e) fun _ _ e=>e
  obtain ⟨it,fp,tn,J,H2,rfl,I2,T,st2,f2,W,⟨m0,w0⟩,turn⟩:=h2
  refine JX (MS S.nocell (by intro y hy;simp at hy) (fun h1 hns1 hsb1=>?_) S.kind)
  dsimp only at hns1 hsb1 ⊢
  generalize hP:s2.heap.push { cls:=.type "list",dict:=none,data:=.seq ([]:List IP).toArray }=P2 at hns1 hsb1 ⊢
  have hCs:P2.objs.size=s2.heap.objs.size+1:=by rw [<- hP,MB]
  have hDC:s2.heap.objs.size≠P2.objs.size:=by rw [hCs];exact JG (Oh _)
  have hCle:s2.heap.objs.size<=P2.objs.size:=by rw [hCs];exact Mt _
  generalize hCg:P2.objs.size=C at *
  have old:∀b o,s2.heap.get? b=some o->h1.get? b=some o:=fun b o e=>hsb1.extBut b o (JG (Js (Jg e) hCle)) (IN _ (hP▸IN _ e))
  generalize hDg:s2.heap.objs.size=D at *
  have hD0:h1.get? D=some { cls:=.type "list",data:=.seq ([]:List IP).toArray 0 }:=hsb1.extBut _ _ hDC (IN _ (hP▸hDg▸Je _ rfl))
  have nC:H2 C=none:=I2.hok.fresh (by rw [hDg];exact hCle)
  have nD:H2 D=none:=I2.hok.fresh (by rw [hDg];exact IS _)
  have fo:∀b∈fp,∃o,s2.heap.get? b=some o:=fun b hb=>let ⟨o,e,_⟩:=T.obj _ _ st2 b hb;⟨o,e⟩
  have Dfp:D∉fp:=fun z=>by
    obtain ⟨o,e⟩:=fo D z
    have:=Jg e
    rw [hDg] at this
    exact absurd this (Kp _)
  have Dfs:D∉frs X.stack:=fun z=>by
    rcases List.mem_cons.mp (I2.stkSub D z) with e | e
    · have:=I2.lt
      rw [<- e,hDg] at this
      exact absurd this (Kp _)
    · exact I2.nofs (by rw [hDg];exact IS _) e
  have DcY:∀x c,(cn X.env scope.names []).lookup x=some c->c≠D:=fun x c e=>by
    rcases eh (Ke e) with h | h
    · cases h
    · exact (I2.fpOk (H':=H2) (b:=D) (by rw [hDg];exact IS _) nD).2.2.2.2.1 x c h
  -- the block's context
  have Yok:∀s4:IM,s4={ s2 with heap:=h1,toks:=s2.toks+([]:List (Str×IP)).length }->Inv (aA X scope (tg++cs) C fp s2 H2) [] (capt tg.length ix U) H2 s4:=by
    rintro s4 rfl
    exact jb S I2 f2 fo (by rw [hDg];exact hCle) old (by simpa using hns1) rfl I2.bare nC
  -- the loop
  have loop:∀s4:IM,s4={ s2 with heap:=h1,toks:=s2.toks+([]:List (Str×IP)).length } ->
      L0 (JD X.prog X.w) X.A (.compLoop (.ListComp elt [⟨target,iter,ifs,0⟩] scope pos) 0 (.ref it) (.ref D) (MW scope (cn X.env scope.names []) C X.env)) (QH (JD X.prog X.w) X.A X.xe use Qc (.ref D) C) s4:=by
    intro s4 e4
    refine Qf rfl (fun n s'=>∃i ys its k H',Inv (aA X scope (tg++cs) C fp s2 H2) [] (capt tg.length ix U) H' s'/\tn i s'.heap/\(∀b∈fp,H' b=none)/\H' D=none/\s'.heap.get? D=some { cls:=.type "list",data:=.seq (its:List IP).toArray k }/\Vals ys its/\W i n ys H')
      ?_ m0 ⟨0,[],[],0,H2,Yok s4 e4,?_,fun b hb=>(f2 b hb).1,nD,by rw [e4];exact hD0,.nil,w0⟩
    · rintro n s5 ⟨i,ys,its,k,H5,I5,st5,fr5,d5,o5,v5,w5⟩
      show JB _ X.A ((QI (.ListComp elt [⟨target,iter,ifs,0⟩] scope pos) 0 (.ref it) (.ref D) (MW scope (cn X.env scope.names []) C X.env)).onRaise (fun x=>do Qm x (MW scope (cn X.env scope.names []) C X.env);OC x)) _ _ s5
      refine Qn ?_
      rw [compTurn_list]
      have pin0:Inv (aA X scope (tg++cs) C fp s2 H2) [(D,{ cls:=.type "list",data:=.seq its.toArray k })] (capt tg.length ix U) H5 s5:=I5.pins_of fun p hp=>by
        have e:p=(D,{ cls:=.type "list",data:=.seq its.toArray k }):=by simpa using hp
        subst e
        exact ⟨o5,d5,hDC,Dfs,fun v z=>by have z':QF _ _=M9 v:=z;cases z'⟩
      have fpY:∀{H':Hp},(∀b∈fp,H' b=none)->∀b∈fp,iG (aA X scope (tg++cs) C fp s2 H2) [(D,{ cls:=.type "list",data:=.seq its.toArray k })] H' b:=fun hn b hb=>
        ⟨hn b hb,(I5.ok.exf b hb).1,fun z=>I5.ok.exfs b hb z,.inl hb,(I5.ok.exf b hb).2,fun p hp z=>by
          have hp:p∈([]:List (Addr×Obj))++[(D,{ cls:=.type "list",data:=.seq its.toArray k })]:=hp
          have e:p=(D,{ cls:=.type "list",data:=.seq its.toArray k }):=by simpa using hp
          subst e
          have z:D=b:=z
          exact Dfp (z▸hb)⟩
      refine II (KR (II ?_))
      rcases turn i n ys H5 w5 with ⟨stop,hz,qn⟩ | ⟨go,hz,Nx,hN,step⟩
      · refine thn (T.done (aA X scope (tg++cs) C fp s2 H2) rfl rfl rfl hcalm i _ s5 _ H5 _ pin0 (fpY fr5) st5 stop) fun r s6 zr1=>?_
        obtain ⟨hr,I6⟩:=zr1
        subst hr
        refine IK ?_
        obtain ⟨mC,hnsC,_⟩:=id I6.loc
        have IX:Inv X pins U H5 s6:=I2.call' (ch:=fp) I6.os I6.base I6.hok I6.bare fun b hb=>let ⟨_,a1,_,a3,a4,a5⟩:=f2 b hb;⟨a3,a1,a4,a5⟩
        obtain ⟨_,b1,_,b3,b4,b5⟩:=I2.fpOk (H':=H5) (b:=D) (by rw [hDg];exact IS _) d5
        obtain ⟨_,c1,c2,c3,c4,c5⟩:=I2.fpOk (H':=H5) (b:=C) (by rw [hDg];exact hCle) I6.free
        have gD:s6.heap.get? D=some { cls:=.type "list",data:=.seq its.toArray k }:=(I6.pin (D,{ cls:=.type "list",data:=.seq its.toArray k }) (IU _ IQ)).1
        have IXD:Inv X pins U (upd H5 D (.lst ys)) s6:=IX.track d5 (by rw [<- hDg];exact I2.sz) b1 b4 b5 ⟨hz,its,k,v5,gD⟩
        exact fin D C _ s6 _ IXD (qn D d5) ⟨by rw [aL (LS hDC)];exact I6.free,c1,c2,c3,c4,c5⟩ ⟨mC,hnsC⟩
      · refine thn (T.item (aA X scope (tg++cs) C fp s2 H2) rfl rfl rfl hcalm i _ s5 _ H5 _ pin0 (fpY fr5) st5 go) fun r s6 zr1=>?_
        obtain ⟨u,hr,h6⟩:=zr1
        subst hr
        refine II (thn h6 fun _ s7 zr1=>?_)
        obtain ⟨x,H7,I7,r7,y7,st7,fr7⟩:=zr1
        have I7':=I7.pinned (fpY fr7) (T.obj _ _ st7)
        -- the next turn
        have again:∀{U2:St} {H8:Hp} {s8:IM} {ys':List V} {its':List IP} {k':Nat} , Inv (aA X scope (tg++cs) C fp s2 H2) [] U2 H8 s8->(U2.length=(capt tg.length ix U).length/\∀(i:Nat) (v:V),(capt tg.length ix U)[i]?=some (some v)->U2[i]?=some (some v)) ->
            (∀b∈fp,∀o,s7.heap.get? b=some o->s8.heap.get? b=some o)->(∀b∈fp,H8 b=none)->H8 D=none->s8.heap.get? D=some { cls:=.type "list",data:=.seq its'.toArray k' }->Vals ys' its'->Nx ys' H8 ->
            ∃m,m < n/\∃i ys its k H',Inv (aA X scope (tg++cs) C fp s2 H2) [] (capt tg.length ix U) H' s8/\tn i s8.heap/\(∀b∈fp,H' b=none)/\H' D=none/\s8.heap.get? D=some { cls:=.type "list",data:=.seq (its:List IP).toArray k }/\Vals ys its/\W i m ys H':=by
          intro U2 H8 s8 ys' its' k' I8 kp fk fn dn dg vv nx
          obtain ⟨m',hm,w8⟩:=hN ys' H8 nx
          exact ⟨m',hm,i+1,ys',its',k',H8,I8.weak kp.1.symm kp.2,T.keep _ _ _ st7 fk,fn,dn,dg,vv,w8⟩
        refine II (J9 (hg C fp s2 H2 _ s7 _ H7 x u _ I7' r7 (kg x U H7 _ (step x H7 y7))) (fun _ s8 zr1=>?_) fun _ _ z=>z.elim)
        obtain ⟨U8,H8,I8,kp8,q8⟩:=zr1
        refine II (J9 (hc C fp s2 H2 _ s8 U8 H8 _ I8 q8) (fun ok s9 zr1=>?_) fun _ _ z=>z.elim)
        obtain ⟨H9,I9,q9⟩:=zr1
        have pinsOf:∀{U':St} {H':Hp} {s':IM},Inv (aA X scope (tg++cs) C fp s2 H2) ([(D,{ cls:=.type "list",data:=.seq its.toArray k })]++fD fp s7.heap) U' H' s' ->
            (∀b∈fp,∀o,s7.heap.get? b=some o->s'.heap.get? b=some o)/\(∀b∈fp,H' b=none)/\H' D=none/\s'.heap.get? D=some { cls:=.type "list",data:=.seq its.toArray k }:=by
          intro U' H' s' I'
          refine ⟨fun b hb o e=>(I'.pin (b,o) (IU _ (IU _ (bP hb e)))).1,fun b hb=>?_,(I'.pin (D,{ cls:=.type "list",data:=.seq its.toArray k }) (IU _ (J3 _ IQ))).2.1,(I'.pin (D,{ cls:=.type "list",data:=.seq its.toArray k }) (IU _ (J3 _ IQ))).1⟩
          obtain ⟨o,e,d⟩:=T.obj _ _ st7 b hb
          exact (I'.pin (b,o) (IU _ (IU _ (bP hb e)))).2.1
        cases ok with
        | false=>
          obtain ⟨p1,p2,p3,p4⟩:=pinsOf I9
          exact IK ⟨rfl,again (I9.pins_of fun p hp=>nomatch hp) kp8 p1 p2 p3 p4 v5 q9⟩
        | true=>
          have q9:te U8 H9 fun v H6=>Nx (ys++[v]) H6:=q9
          refine II (II (J9 (he C fp s2 H2 _ s9 U8 H9 _ I9 q9) (fun y s10 zr1=>?_) fun _ _ z=>z.elim))
          obtain ⟨v,H10,I10,rv,nx⟩:=zr1
          obtain ⟨p1,p2,p3,p4⟩:=pinsOf I10
          have hl5:=v5.length
          refine II (call_meets F.slot_list_append ⟨_,p4,rfl⟩ F.entry_list_append (F.args_list_append_2 _ _) (PN D its.toArray k y (by rw [Jb];lia)) ⟨p4,?_⟩)
          have g10:=PySem.IsL.update p4 (·.push y)
          rw [show its.toArray.push y=(its++[y]).toArray by simp] at g10
          have I11:Inv (aA X scope (tg++cs) C fp s2 H2) [] U8 H10 s10:=I10.pins_of fun p hp=>nomatch hp
          have I12:Inv (aA X scope (tg++cs) C fp s2 H2) [] U8 H10 { s10 with heap:=s10.heap.update D (KH (·.push y)) }:=
            I11.turned (t':=s10.toks) (fun b o hb e=>(K6 s10.heap (KH (·.push y)) (LS hb)).trans e) p3 hDC (.inr (by show s2.heap.objs.size<=D;rw [hDg];exact IS _)) DcY (fun p hp=>nomatch hp)
          refine IK (IK ⟨rfl,again (its':=its++[y]) I12 kp8 (fun b hb o e=>?_) p2 p3 g10 (v5.append (.cons rv .nil)) nx⟩)
          exact (K6 s10.heap (KH (·.push y)) (fun z:D=b=>Dfp (z▸hb))).trans (p1 b hb o e)
    · rw [e4];exact T.keep _ _ _ st2 fun b _ o e=>old b o e
  exact codeAny_compStart_list (loop _ rfl) (T.self _ 0 _ _ _ (T.keep _ _ _ st2 fun b _ o e=>old b o e) (loop _ rfl))
theorem xV {elt target iter:Expr} {ifs:List Expr} {scope:MO} {pos:Pos} {tg cs:List Str} {wi:TI} {g:TG} {tc:TT} {te:TE} (S:bC X scope tg cs ix) (hcalm:X.calm=true) (kg:cS tg.length ix g)
  (hi:PI X target iter wi) (hg:∀C fp s H,PG (aA X scope (tg++cs) C fp s H) target g) (hc:∀C fp s H,PTs (aA X scope (tg++cs) C fp s H) ifs tc) (he:∀C fp s H,PE (aA X scope (tg++cs) C fp s H) elt te)
  (hs:∀x,Kh iter X.env x=pure x:=by intro _;rfl):PE X (.ListComp elt [⟨target,iter,ifs,0⟩] scope pos) (mK wi tg.length ix g tc te):=by
 intro pins s U H Q I h
 rw [eval_ListComp]
 refine kq S hcalm kg hi hg hc he hs I h fun D C H' s' v I' q fp z=>?_
 obtain ⟨f0,c1,_,c3,c4,c5⟩:=fp
 obtain ⟨m,hm⟩:=z
 exact ⟨m,hm,fun h' sb=>⟨.ref D,H',I'.turned (t':=s'.toks) (fun b o hb e=>(sb.2 b hb).trans e) f0 c1 c3 c4 c5,rfl,q⟩⟩
end
end L2
end
section
namespace L2
open PySem PySem.Spec PyProof.Rows
theorem lex_irrefl:∀a:List Int,HT.lexLt a a=false
 | []=>rfl
 | x::r=>by rw [HT.cR,if_pos rfl];exact lex_irrefl r
theorem lex_trans:∀a b c:List Int,HT.lexLt a b=true->HT.lexLt b c=true->HT.lexLt a c=true
 | [],_,[],h1,h2=>by
  rename_i b
  cases b with
  | nil=>exact h1
  | cons y r=>cases h2
 | [],_,_::_,_,_=>rfl
 | x::r,[],_,h1,_=>by cases h1
 | x::r,y::t,[],_,h2=>by cases h2
 | x::r,y::t,z::u,h1,h2=>by
  rw [HT.cR] at *
  by_cases e1:x=y
  ·rw [if_pos e1] at h1
   by_cases e2:y=z
   ·rw [if_pos e2] at h2
    rw [if_pos (e1.trans e2)]
    exact lex_trans r t u h1 h2
   ·rw [if_neg e2] at h2
    rw [if_neg (by lia)]
    rw [e1];exact h2
  ·rw [if_neg e1] at h1
   have h1:=of_decide_eq_true h1
   by_cases e2:y=z
   ·rw [if_neg (by lia)]
    exact decide_eq_true (by lia)
   ·rw [if_neg e2] at h2
    have h2:=of_decide_eq_true h2
    rw [if_neg (by lia)]
    exact decide_eq_true (by lia)
theorem eW:∀a b:List Int,HT.lexLt a b=false->HT.lexLt b a=false->a=b
 | [],[],_,_=>rfl
 | [],_::_,h,_=>by cases h
 | _::_,[],_,h=>by cases h
 | x::r,y::t,h1,h2=>by
  rw [HT.cR] at *
  by_cases e:x=y
  ·rw [if_pos e] at h1
   rw [if_pos e.symm] at h2
   rw [e,eW r t h1 h2]
  ·rw [if_neg e] at h1
   rw [if_neg (LS e)] at h2
   have h1:=of_decide_eq_false h1
   have h2:=of_decide_eq_false h2
   lia
theorem fY:∀a b c:List Int,HT.lexLt a c=true->HT.lexLt a b=true\/HT.lexLt b c=true:=fun a b c h=>by
 cases h1:HT.lexLt a b with
 | true=>exact .inl rfl
 | false=>
  right
  cases h2:HT.lexLt b a with
  | true=>exact lex_trans b a c h2 h
  | false=>rw [<- eW a b h1 h2];exact h
def lexOrd:NX:=⟨List Int,HT.lexLt,lex_irrefl,lex_trans,fY,eW⟩
def lexLe (a b:List Int):Bool:=!HT.lexLt b a
theorem mL (a b c:List Int) (h1:lexLe a b=true) (h2:lexLe b c=true):lexLe a c=true:=by
 unfold lexLe at *
 cases h:HT.lexLt c a with
 | false=>rfl
 | true=>
  rcases fY c b a h with z | z
  ·rw [z] at h2;cases h2
  ·rw [z] at h1;cases h1
theorem mM (a b:List Int):(lexLe a b||lexLe b a)=true:=by
 unfold lexLe
 cases h:HT.lexLt b a with
 | false=>rfl
 | true=>
  cases h':HT.lexLt a b with
  | false=>rfl
  | true=>have:=lex_trans a b a h' h;rw [lex_irrefl] at this;cases this
theorem oh (a b:List Int) (h1:lexLe a b=true) (h2:lexLe b a=true):a=b:=by
 unfold lexLe at *
 exact eW a b (by simpa using h2) (by simpa using h1)
def srt (l:List (List Int)):List (List Int):=l.mergeSort lexLe
theorem bD (l:List (List Int)):(srt l).Perm l:=List.mergeSort_perm l lexLe
theorem fG (l:List (List Int)):(srt l).Pairwise (fun a b=>lexLe a b=true):=List.pairwise_mergeSort (le:=lexLe) mL mM l
theorem fv:∀{a b:List (List Int)},a.Perm b->a.Pairwise (fun a b=>lexLe a b=true)->b.Pairwise (fun a b=>lexLe a b=true)->a=b
 | [],b,p,_,_=>(List.perm_nil.mp p.symm).symm
 | x::r,[],p,_,_=>by have:=p.length_eq;simp at this
 | x::r,y::t,p,ha,hb=>by
  rw [Nu] at ha hb
  have e:x=y:=by
   have hx:x∈y::t:=p.mem_iff.mp IQ
   have hy:y∈x::r:=p.mem_iff.mpr IQ
   rcases List.mem_cons.mp hx with h | h
   ·exact h
   ·rcases List.mem_cons.mp hy with h' | h'
    ·exact h'.symm
    ·exact oh x y (ha.1 y h') (hb.1 x h)
  subst e
  rw [fv (List.Perm.cons_inv p) ha.2 hb.2]
theorem lr {a l:List (List Int)} (p:a.Perm l) (h:a.Pairwise (fun a b=>lexLe a b=true)):a=srt l:=fv (p.trans (bD l).symm) h (fG l)
section
variable {X:Cx} {pins:List (Addr×Obj)} {U:St} {H:Hp} {s:IM}
theorem Inv.kept_led {h':Heap} {m:Str->Option IP} (I:Inv X pins U H s) (F':Fr X.base X.env.locals h' m) (N':News X.base X.env.locals h' (fQ X.base s.heap X.env.locals)):∀b o,b≠X.env.locals->s.heap.get? b=some o->h'.get? b=some o:=fun b o hb e=>by
 cases q:X.base.get? b with
 | some u=>
  have:=I.bk b u q
  rw [e] at this;cases this
  exact F'.keep b _ q
 | none=>exact (N' (b,o) (mw hb q e)).1
theorem Inv.led {h':Heap} {m:Str->Option IP} {t':Nat} (I:Inv X pins U H s) (hm:s.heap.Ns X.env.locals m) (F':Fr X.base X.env.locals h' m) (N':News X.base X.env.locals h' (fQ X.base s.heap X.env.locals)) :
  Inv X pins U H { s with heap:=h',toks:=t' }:=by
 have k:=I.kept_led F' N'
 refine I.step (g':=s.gens) (d':=s.drawn) (ch:=[]) (fun _ z=>nomatch z) (fun b o hb _ _ e _=>k b o hb e) (fun b o hb _ _ e _=>⟨o.slots,k b o hb e⟩) (fun _ _ _ _ n=>n) (fun b o _ e=>?_) (fun _ _ e=>e) (fun _ _ _ e=>e) (fun b ps e=>⟨#[],by rw [e];simp⟩) (fun m' hm'=>?_) (fun b u e=>?_) I.bare
 ·by_cases hb:b=X.env.locals
  ·obtain ⟨o',_,_,ho,_⟩:=F'.ns
   exact ⟨o',by rw [hb];exact ho⟩
  ·exact ⟨o,k b o hb e⟩
 ·have em:m'=m:=by
   obtain ⟨o,es,ep,ho,hd,_,hf⟩:=hm
   obtain ⟨o2,es2,ep2,ho2,hd2,_,hf2⟩:=hm'
   rw [ho] at ho2;cases ho2
   rw [hd] at hd2;cases hd2
   funext x
   rw [<- hf x,<- hf2 x]
  rw [em];exact F'.ns
 ·refine (I.hok b u e).stay (fun c v hc q=>k c v ?_ q) (fun _ q=>q) fun _ _ q=>q
  rcases hc with z | z
  ·rw [z];exact bg e I.free
  ·exact bg z I.free
end
section
variable {prog:Jp} {w:JQ} {A:JY} {E:IP->IM->Prop} {s:IM}
theorem tD {a:Addr} {vs:List IP} {n:Nat} {R:PySem.Fin->IM->Prop} (ho:s.heap.get? a=some (MK "list" vs.toArray n)) (hf:vs.length < 2)
  (h:R (.done (.ret .none)) { s with heap:=sortedHeap s.heap a vs vs.toArray }):JB (JD prog w) A (Builtin.«list.sort» ⟨[.ref a],[]⟩) R E s:=by
 have hlt:a < s.heap.objs.size:=Jg ho
 have few:vs.toArray.size < 2:=by rw [Jb];exact hf
 have hz:vs.length<=JA:=by rw [J7];lia
 obtain ⟨e,he⟩:∃e,(s.heap.update a (KH fun _=>#[])).get? a=some (MK "list" #[] e):=⟨_,get?_update_seq ho (fun _=>#[])⟩
 rw [list_sort_plain]
 refine II (listItems_at ho rfl (II (N9 ho rfl (II (O8 he rfl (II (O3 (II (Oa (J5 ?_))) (hsz:=hz))))) (by rw [Jb];lia))))
 have he2:(((s.heap.update a (KH fun _=>#[])).push (MK "tuple" vs.toArray 0)).push (MK "list" #[] 0)).get? a=some (MK "list" #[] e):=IN _ (IN _ he)
 dsimp only
 rw [if_pos few,if_pos few]
 refine II (IK ?_);rw [StateT.run_pure];refine II (IK ?_);dsimp only
 have em:Array.map (fun x:IP×IP=>x.2) (IY (PR general' (vs.toArray.zip vs.toArray) #[] 7 none))=vs.toArray:=by
  show Array.map (fun x:IP×IP=>x.2) (vs.toArray.zip vs.toArray)=vs.toArray
  apply Array.ext <;> simp
 refine II (O8 he2 rfl (II (N9 he2 rfl ?_ (hsz2:=by rw [em,Jb];lia))))
 rw [em]
 simp only [bne_self_eq_false,Jk,if_false]
 exact IK h
theorem oi {l:Addr} {vs:List IP} {Q:IP->IM->Prop} (hl:s.heap.IsList l vs.toArray) (hf:vs.length < 2) (h:Q (.ref (s.heap.objs.size+1)) { s with heap:=sortedAll s.heap vs vs.toArray }):JB (JD prog w) A (call (.builtin "sorted") [.ref l]) Q E s:=by
 have hz:vs.length<=JA:=by rw [J7];lia
 have z1:((s.heap.push (MK "list" #[] 0)).update s.heap.objs.size (KH (·++vs.toArray))).objs.size=s.heap.objs.size+1:=by rw [Heap.size_update,size_push']
 have z2:(((s.heap.push (MK "list" #[] 0)).update s.heap.objs.size (KH (·++vs.toArray))).push (MK "list" vs.toArray 0)).get? (s.heap.objs.size+1)=some (MK "list" vs.toArray 0):=z1▸Je _ rfl
 have col:=fun R r=>collect_list (prog:=prog) (w:=w) (A:=A.in1) (E:=E) (Q:=R) hl r hz
 refine NG kind_sorted plain_sorted entry_sorted (args_sorted1 _) (II (m:=checkCount "sorted" 1 1 _) (IK (II (m:=collect (.ref l)) (col _ (II (Oa ?_ (hsz:=hz)))))))
 dsimp only
 rw [z1]
 refine II (J5 (J8 slot_list_sort ⟨_,z2,rfl⟩ entry_list_sort (tD z2 hf ⟨_,rfl,IK ⟨_,rfl,h⟩⟩) (args_list_sort _)))
end
section
variable {X:Cx} {pins:List (Addr×Obj)} {U:St} {H:Hp} {s:IM}
theorem xW {prog:Jp} {w:JQ} {A:JY} {Q:Bool->IM->Prop}:∀(ns ms:List Int) {us vs:List IP} (i:Nat) {fin:Bool},Vals (ns.map V.int) us->Vals (ms.map V.int) vs->fin=decide (us.length < vs.length)->Q (HT.lexLt ns ms) s ->
  PySem.W.KatLex prog w A true fin Q (us.zip vs) i s:=by
 intro ns
 induction ns with
 | nil=>
  intro ms us vs i fin r r' hf h
  have r:Vals [] us:=r
  cases r
  cases ms with
  | nil=>
   have r':Vals [] vs:=r'
   cases r'
   subst hf
   exact h
  | cons m ms=>
   have r':Vals (V.int m::ms.map V.int) vs:=r'
   cases r' with
   | cons a b=>
    subst hf
    exact h
 | cons n ns ih=>
  intro ms us vs i fin r r' hf h
  have r:Vals (V.int n::ns.map V.int) us:=r
  cases r with
  | cons q1 t=>
   cases ms with
   | nil=>
    have r':Vals [] vs:=r'
    cases r'
    subst hf
    exact h
   | cons m ms=>
    have r':Vals (V.int m::ms.map V.int) vs:=r'
    cases r' with
    | cons q2 t'=>
     obtain ⟨tk,rfl⟩:=q1
     obtain ⟨tk',rfl⟩:=q2
     rw [HT.cR] at h
     rw [Pp]
     refine PySem.W.kat_cons (SeqAt.EqAt.int_int n tk m tk' prog w _ _ ?_)
     by_cases e:n=m
     ·rw [if_pos e] at h
      rw [show (n==m)=true by simpa using e]
      refine PySem.W.kat_yes (ih ms (i+1) t t' ?_ h)
      rw [hf]
      simp
     ·rw [if_neg e] at h
      rw [show (n==m)=false by simpa using e]
      refine PySem.W.kat_no ?_
      by_cases hi:i=0
      ·subst hi
       exact oneLt_int h
      ·rw [show (true&&i==0)=false by simp [hi]]
       exact PySem.W.kat_one _ _ (lt_int (show PySem.W.BoolBack _ (NO _) _ from h))
theorem tE {h:Heap} {p:Addr} {its:List IP} (hne:ms≠[]) (r:Vals (ms.map V.int) its) (ht:IsTup h p its.toArray):∃(f:IP) (o:Obj) (n:Nat),(∃i t,f=LD i t)/\h.get? p=some o/\o.cls=.type "tuple"/\o.data=.seq its.toArray n/\its.toArray[0]?=some f:=by
 obtain ⟨o,ho,hc,n,hd⟩:=ht
 cases ms with
 | nil=>exact absurd rfl hne
 | cons m ms=>
  have r:Vals (V.int m::ms.map V.int) its:=r
  cases r with
  | cons r1 r2=>
   obtain ⟨t,rfl⟩:=r1
   exact ⟨_,o,n,⟨m,t,rfl⟩,ho,hc,hd,by simp⟩
theorem om {h:Heap} (hT:∀a xs,SqT X.K H a xs->∃its:List IP,Vals xs its/\IsTup h a its.toArray) {ps:List Addr} (ht:ja X.K H ps mss):(∀ms∈mss,ms≠[]) ->
  ∃fs:List IP,PySem.W.KatTups h (ps.map Jz) fs/\fs.length=ps.length/\∀v∈fs,∃i t,v=LD i t:=by
 unfold ja at ht
 induction ht with
 | nil=>exact fun _=>⟨[],trivial,rfl,(fun _ h=>nomatch h)⟩
 | cons hp t ih=>
  intro hne
  obtain ⟨fs,h1,h2,h3⟩:=ih fun m hm=>hne m (IZ _ hm)
  obtain ⟨its,r,tt⟩:=hT _ _ hp
  obtain ⟨f,o,n,hi,ho,hc,hd,h0⟩:=tE (hne _ IQ) r tt
  refine ⟨f::fs,PySem.W.KatTups.cons ho hc hd h0 h1,by simp [h2],fun v hv=>?_⟩
  rcases List.mem_cons.mp hv with rfl | hv
  ·exact hi
  ·exact h3 v hv
theorem gW:∀{ps:List Addr} {us:List IP},Vals (ps.map V.ref) us->us=ps.map Jz
 | [],_,.nil=>rfl
 | p::ps,_,.cons r t=>by
  rw [gW t]
  cases r
  rfl
theorem kr:∀(ps:List Addr),Vals (ps.map V.ref) (ps.map Jz)
 | []=>.nil
 | p::ps=>.cons rfl (kr ps)
end
end L2
end
section
namespace L2
open PySem PySem.Spec PyProof.Rows
def oo (scope osc:MO) (N tg cs:List Str) (ix:List Nat):Prop:=
 (∀y∈scope.names,y.2≠.cell)/\(∀y∈scope.names,y.2=.local->scope.names.lookup y.1=some .local)/\(tg++cs).Nodup/\ix.map (fun i=>N[i]?)=cs.map some /\
 (∀x∈cs,(x,J0)∈scope.names/\scope.names.lookup x=some .free)/\∀y∈scope.names,y.2=.free->osc.names.lookup y.1=some .cell\/osc.names.lookup y.1=some .free
instance (scope osc:MO) (N tg cs:List Str) (ix:List Nat):Decidable (oo scope osc N tg cs ix):=by unfold oo;infer_instance
theorem aP {X:Cx} {scope:MO} {tg cs:List Str} (osc:MO) (N:List Str) (h:oo scope osc N tg cs ix) (hk:scope.kind=.function:=by rfl) (ho:X.env.scope=osc:=by rfl) (hN:X.N=N:=by rfl):bC X scope tg cs ix:=by
 obtain ⟨h1,h2,h3,h4,h5,h6⟩:=h
 exact ⟨hk,h1,h2,h3,by rw [hN];exact h4,h5,fun x hx=>by rw [ho];exact h6 (x,.free) hx rfl⟩
end L2
end
section
namespace L2
open PySem PySem.Spec PyProof.Rows
section
variable {X:Cx} {pins:List (Addr×Obj)} {U:St} {H H1:Hp} {s:IM}
theorem tF {elt target iter:Expr} {ifs:List Expr} {scope:MO} {pos spos py:Pos} {yy:Str} {ii:Nat} {tg cs:List Str} {wi:TI} {g:TG} {tc:TT} {te:TE} (hN0:X.N.Nodup) (hi0:X.N[ii]?=some yy) (hx0:Loc X.env.scope yy)
  (S:bC X scope tg cs ix) (hcalm:X.calm=true) (kg:cS tg.length ix g)
  (hi:PI X target iter wi) (hg:∀C fp s H,PG (aA X scope (tg++cs) C fp s H) target g) (hc:∀C fp s H,PTs (aA X scope (tg++cs) C fp s H) ifs tc) (he:∀C fp s H,PE (aA X scope (tg++cs) C fp s H) elt te)
  (hf0:X.fn yy=true\/X.env.scope.names.lookup yy=some .local)
  (hsw:LW (.ListComp elt [⟨target,iter,ifs,0⟩] scope pos) (some (.Name yy py)) spos.line X.env=pure true)
  (hs:∀x,Kh iter X.env x=pure x:=by intro _;rfl):PS X (.Assign [.Name yy py] (.ListComp elt [⟨target,iter,ifs,0⟩] scope pos) spos) (dD (mK wi tg.length ix g tc te) (bJ ii)):=by
 intro pins s U H Dn I h
 rw [exec_Assign_Name_used _ _ _ _ hsw]
 refine II (KR (II ?_))
 show JB _ X.A (do let _ <- comprehension (.ListComp elt [⟨target,iter,ifs,0⟩] scope pos) scope X.env _ (newList []) false (eval iter X.env) (some (Oe (.Name yy py) X.env))) _ _ s
 refine II (J9 (kq (use:=some (Oe (.Name yy py) X.env)) (Qc:=fun _ s'=>SP X pins Dn .next s') S hcalm kg hi hg hc he hs I h fun D C H' s' v I' q fp z=>?_) (fun _ s' hq=>IK (IK hq)) fun _ _ e=>e)
 obtain ⟨f0,c1,_,c3,c4,c5⟩:=fp
 obtain ⟨m,hm⟩:=z
 show JB _ X.A (Oe (.Name yy py) X.env (.ref D)) _ _ s'
 refine PH (kd (v:=.ref D) I' hN0 hi0 hx0 rfl (fun s'' I'' zq=>?_) hf0)
 obtain ⟨a,sb,ha⟩:=zq
 have hCa:C≠a:=by
  rcases ha with rfl | ha
  ·exact c1
  ·exact (c4 _ _ ha).symm
 exact ⟨m,hm.sameBut sb hCa,fun h' sb'=>⟨_,_,I''.turned (t':=s''.toks) (it:=C) (fun b o hb e=>(sb'.2 b hb).trans e) f0 c1 c3 c4 c5,q⟩⟩
end
end L2
end
section
namespace VL
open PySem L2
def IsM:Option HO->Prop
 | some (.lst _)=>True
 | some (.ext _)=>True
 | _=>False
theorem IsM.ne {o:Option HO} (h:IsM o):o≠none:=by rintro rfl;exact h
abbrev AP:=Addr->Prop
abbrev FP:=Option Addr->Prop
structure Fj where
 ok:IJ->AP->FP->Hp->Addr->Prop
 mono:∀{K:IJ} {N N':AP} {F F':FP} {H H':Hp} {v:Addr},(∀a,N a->H a≠none->N' a/\H' a=H a)->(∀o,F o->F' o)->ok K N F H v->ok K N' F' H' v
 avoid:∀{K:IJ} {N N':AP} {F:FP} {H:Hp} {v:Addr},(∀a,¬N' a->IsM (H a))->(∀a,F (some a)->N' a)->ok K N F H v->ok K N' F H v
 both:∀{K:IJ} {N:AP} {F F':FP} {H:Hp} {v:Addr},(∀a,N a->IsM (H a)->F (some a)->F' (some a))->(F none->F' none)->ok K N F H v->ok K N F' H v
 reN:∀{K:IJ} {N N':AP} {F:FP} {H:Hp} {v:Addr},(∀a,IsM (H a)->N' a)->ok K N F H v->ok K N' F H v
inductive D where
 | int (i:Int) | bl (b:Bool) | non | str (x:Str) | ty (n:String) | tup (ds:List D) | lst (ds:List D) | dic (ks:List (List Int)) (vs:List D) | exc (c:IP) | dib (kds:List D) (vs:List D) | oth (k:Fj)
def kT (ms:List Int):D:=.tup (ms.map .int)
def Ig:D->Int
 | .int i=>i
 | .bl b=>if b then 1 else 0
 | _=>0
def Ci:D->Bool
 | .int _=>true
 | .bl _=>true
 | _=>false
def kN:D->List Int
 | .tup ds=>ds.map Ig
 | _=>[]
def Ih:D->Bool
 | .tup ds=>ds.all Ci
 | _=>false
def Any:AP:=fun _=>True
def AnyF:FP:=fun _=>True
def Fr (H0:Hp):FP:=fun o=>∃a,o=some a/\H0 a=none
mutual
inductive Rep (K:IJ) (N:AP) (F:FP) (H:Hp):V->D->Prop where
 | int (i:Int):Rep K N F H (.int i) (.int i)
 | bl (b:Bool):Rep K N F H (.bl b) (.bl b)
 | non:Rep K N F H .non .non
 | str (x:Str):Rep K N F H (.str x) (.str x)
 | ty (x:String):Rep K N F H (.ty x) (.ty x)
 | tup {a:Addr} {vs:List V} {ds:List D} (n:N a) (h:Rd H a (.tup vs)) (r:Reps K N F H vs ds):Rep K N F H (.ref a) (.tup ds)
 | tupK {a:Addr} {vs:List V} {ds:List D} (h:SqT K (fun _=>none) a vs) (r:Reps K N F H vs ds):Rep K N F H (.ref a) (.tup ds)
 | lst {a:Addr} {vs:List V} {ds:List D} (n:N a) (f:F (some a)) (h:H a=some (.lst vs)) (r:Reps K N F H vs ds):Rep K N F H (.ref a) (.lst ds)
 | lstF {a:Addr} {vs:List V} {ds:List D} {o:Obj} (n:N a) (f:F none) (h:H a=some (.frz o (.lst vs))) (r:Reps K N F H vs ds):Rep K N F H (.ref a) (.lst ds)
 | lstK {a:Addr} {vs:List V} {ds:List D} (f:F none) (h:SqL K (fun _=>none) a vs) (r:Reps K N F H vs ds):Rep K N F H (.ref a) (.lst ds)
 | dic {a:Addr} {ob:Obj} {es:List (List Int×Addr×V)} {ks:List (List Int)} {ds:List D} (n:N a) (f:F (some a)) (h:H a=some (bK a ob es)) (e:es.map (·.1)=ks) (rk:Reps K N F H (es.map fun x=>.ref x.2.1) (ks.map kT)) (r:Reps K N F H (es.map (·.2.2)) ds):Rep K N F H (.ref a) (.dic ks ds)
 | exc {x:Addr} {c:IP} {o:Obj} (n:N x) (h:H x=some (.frz o (.own x))) (e:o.cls=c):Rep K N F H (.ref x) (.exc c)
 | dib {a:Addr} {ob:Obj} {es:List (List Int×Addr×V)} {kds:List D} {ds:List D} (n:N a) (f:F (some a)) (h:H a=some (bK a ob es)) (e:es.map (·.1)=kds.map kN) (g:kds.all Ih=true) (rk:Reps K N F H (es.map fun x=>.ref x.2.1) kds) (r:Reps K N F H (es.map (·.2.2)) ds):Rep K N F H (.ref a) (.dib kds ds)
 | oth {a:Addr} {k:Fj} (h:k.ok K N F H a):Rep K N F H (.ref a) (.oth k)
inductive Reps (K:IJ) (N:AP) (F:FP) (H:Hp):List V->List D->Prop where
 | nil:Reps K N F H [] []
 | cons {v:V} {d:D} {vs:List V} {ds:List D} (h:Rep K N F H v d) (t:Reps K N F H vs ds):Reps K N F H (v::vs) (d::ds)
end
section
variable {K:IJ} {N N':AP} {F F':FP} {H H' H0:Hp}
theorem Rd.there {a:Addr} {u:HO} (h:Rd H a u):H a≠none:=by rcases h with h | ⟨o,h⟩ <;> simp [h]
theorem Rd.keep {a:Addr} {u:HO} (h:Rd H a u) (e:H' a=H a):Rd H' a u:=by
 rcases h with h | ⟨o,h⟩
 ·exact .inl (e.trans h)
 ·exact .inr ⟨o,e.trans h⟩
mutual
theorem Rep.mono (hN:∀a,N a->H a≠none->N' a/\H' a=H a) (hF:∀o,F o->F' o) {v:V} {d:D}:Rep K N F H v d->Rep K N' F' H' v d
 | .int i=>.int i
 | .bl i=>.bl i
 | .non=>.non
 | .str i=>.str i
 | .ty i=>.ty i
 | .tup n h r=>.tup (hN _ n (Rd.there h)).1 (Rd.keep h (hN _ n (Rd.there h)).2) (Reps.mono hN hF r)
 | .tupK h r=>.tupK h (Reps.mono hN hF r)
 | .lst n f h r=>.lst (hN _ n (by simp [h])).1 (hF _ f) ((hN _ n (by simp [h])).2.trans h) (Reps.mono hN hF r)
 | .lstF n f h r=>.lstF (hN _ n (by simp [h])).1 (hF _ f) ((hN _ n (by simp [h])).2.trans h) (Reps.mono hN hF r)
 | .lstK f h r=>.lstK (hF _ f) h (Reps.mono hN hF r)
 | .dic n f h e rk r=>.dic (hN _ n (by simp [h])).1 (hF _ f) ((hN _ n (by simp [h])).2.trans h) e (Reps.mono hN hF rk) (Reps.mono hN hF r)
 | .exc n h e=>.exc (hN _ n (by simp [h])).1 ((hN _ n (by simp [h])).2.trans h) e
 | .dib n f h e g rk r=>.dib (hN _ n (by simp [h])).1 (hF _ f) ((hN _ n (by simp [h])).2.trans h) e g (Reps.mono hN hF rk) (Reps.mono hN hF r)
 | .oth (k:=k) h=>.oth (k.mono hN hF h)
theorem Reps.mono (hN:∀a,N a->H a≠none->N' a/\H' a=H a) (hF:∀o,F o->F' o) {vs:List V} {ds:List D}:Reps K N F H vs ds->Reps K N' F' H' vs ds
 | .nil=>.nil
 | .cons h t=>.cons (Rep.mono hN hF h) (Reps.mono hN hF t)
end
theorem Rep.any {d:D} (h:Rep K N F H v d):Rep K Any AnyF H v d:=h.mono (fun _ _ _=>⟨trivial,rfl⟩) (fun _ _=>trivial)
theorem Reps.any {ds:List D} (h:Reps K N F H vs ds):Reps K Any AnyF H vs ds:=h.mono (fun _ _ _=>⟨trivial,rfl⟩) (fun _ _=>trivial)
mutual
theorem Rep.avoid (h1:∀a,¬N' a->IsM (H a)) (h2:∀a,F (some a)->N' a) {v:V} {d:D}:Rep K N F H v d->Rep K N' F H v d
 | .int i=>.int i
 | .bl i=>.bl i
 | .non=>.non
 | .str i=>.str i
 | .ty i=>.ty i
 | .tup (a:=a) n h r=>.tup (JE fun z=>by
   have e:=h1 a z
   rcases h with h | ⟨o,h⟩ <;> rw [h] at e <;> exact e) h (Reps.avoid h1 h2 r)
 | .tupK h r=>.tupK h (Reps.avoid h1 h2 r)
 | .lst n f h r=>.lst (h2 _ f) f h (Reps.avoid h1 h2 r)
 | .lstF (a:=a) n f h r=>.lstF (JE fun z=>by
   have e:=h1 a z
   rw [h] at e;exact e) f h (Reps.avoid h1 h2 r)
 | .lstK f h r=>.lstK f h (Reps.avoid h1 h2 r)
 | .dic n f h e rk r=>.dic (h2 _ f) f h e (Reps.avoid h1 h2 rk) (Reps.avoid h1 h2 r)
 | .exc (x:=a) n h e=>.exc (JE fun z=>by
   have e:=h1 a z
   rw [h] at e;exact e) h e
 | .dib n f h e g rk r=>.dib (h2 _ f) f h e g (Reps.avoid h1 h2 rk) (Reps.avoid h1 h2 r)
 | .oth (k:=k) h=>.oth (k.avoid h1 h2 h)
theorem Reps.avoid (h1:∀a,¬N' a->IsM (H a)) (h2:∀a,F (some a)->N' a) {vs:List V} {ds:List D}:Reps K N F H vs ds->Reps K N' F H vs ds
 | .nil=>.nil
 | .cons h t=>.cons (Rep.avoid h1 h2 h) (Reps.avoid h1 h2 t)
end
mutual
def flat:D->Bool
 | .lst _=>false
 | .dic _ _=>false
 | .dib _ _=>false
 | .oth _=>false
 | .tup ds=>flats ds
 | _=>true
def flats:List D->Bool
 | []=>true
 | d::r=>flat d&&flats r
end
theorem iB:∀ms:List Int,flats (ms.map D.int)=true
 | []=>rfl
 | _::r=>by simp [flats,flat,iB r]
theorem jc:∀ks:List (List Int),flats (ks.map kT)=true
 | []=>rfl
 | _::r=>by simp [flats,kT,flat,iB,jc r]
mutual
theorem Rep.flat {v:V} {d:D}:Rep K N F H v d->VL.flat d=true->Rep K N F' H v d:=fun hh ee=>by
 cases hh with
 | int i=>exact .int i
 | bl i=>exact .bl i
 | non=>exact .non
 | str i=>exact .str i
 | ty i=>exact .ty i
 | tup n h r=>have e:=ee;exact .tup n h (Reps.flat r (by simpa [VL.flat] using e))
 | tupK h r=>have e:=ee;exact .tupK h (Reps.flat r (by simpa [VL.flat] using e))
 | lst n f h r=>have e:=ee;simp [VL.flat] at e
 | lstF n f h r=>have e:=ee;simp [VL.flat] at e
 | lstK f h r=>have e:=ee;simp [VL.flat] at e
 | dic n f h _ _ r=>have e:=ee;simp [VL.flat] at e
 | exc n h e0=>exact .exc n h e0
 | dib n f h _ _ _ r=>have e:=ee;simp [VL.flat] at e
 | oth h=>have e:=ee;simp [VL.flat] at e
theorem Reps.flat {vs:List V} {ds:List D}:Reps K N F H vs ds->flats ds=true->Reps K N F' H vs ds:=fun hh ee=>by
 cases hh with
 | nil=>exact .nil
 | cons h t=>
  have e:=ee
  simp only [flats,JF] at e
  exact .cons (Rep.flat h e.1) (Reps.flat t e.2)
end
theorem Reps.length:∀{vs:List V} {ds:List D},Reps K N F H vs ds->vs.length=ds.length
 | _,_,.nil=>rfl
 | _,_,.cons _ t=>by simp [Reps.length t]
theorem Reps.get:∀{vs:List V} {ds:List D} {i:Nat} {v:V},Reps K N F H vs ds->vs[i]?=some v->∃d,ds[i]?=some d/\Rep K N F H v d
 | _,_,0,_,.cons h _,e=>by simp at e;subst e;exact ⟨_,rfl,h⟩
 | _,_,i+1,v,.cons _ t,e=>by
  obtain ⟨d,h1,h2⟩:=Reps.get (i:=i) (v:=v) t (by simpa using e)
  exact ⟨d,by simpa using h1,h2⟩
 | _,_,_,_,.nil,e=>by simp at e
theorem Reps.getD:∀{vs:List V} {ds:List D} {i:Nat} {d:D},Reps K N F H vs ds->ds[i]?=some d->∃v,vs[i]?=some v/\Rep K N F H v d
 | _,_,0,_,.cons h _,e=>by simp at e;subst e;exact ⟨_,rfl,h⟩
 | _,_,i+1,v,.cons _ t,e=>by
  obtain ⟨d,h1,h2⟩:=Reps.getD (i:=i) (d:=v) t (by simpa using e)
  exact ⟨d,by simpa using h1,h2⟩
 | _,_,_,_,.nil,e=>by simp at e
theorem Reps.append:∀{vs ws:List V} {ds es:List D},Reps K N F H vs ds->Reps K N F H ws es->Reps K N F H (vs++ws) (ds++es)
 | _,_,_,_,.nil,s=>s
 | _,_,_,_,.cons h t,s=>.cons h (Reps.append t s)
theorem Reps.take:∀{vs:List V} {ds:List D} (n:Nat),Reps K N F H vs ds->Reps K N F H (vs.take n) (ds.take n)
 | _,_,0,_=>by simpa using .nil
 | _,_,_+1,.nil=>by simpa using .nil
 | _,_,n+1,.cons h t=>by simpa using .cons h (Reps.take n t)
theorem Reps.drop:∀{vs:List V} {ds:List D} (n:Nat),Reps K N F H vs ds->Reps K N F H (vs.drop n) (ds.drop n)
 | _,_,0,h=>by simpa using h
 | _,_,_+1,.nil=>by simpa using .nil
 | _,_,n+1,.cons h t=>by simpa using Reps.drop n t
theorem Reps.set {d:D} (h:Rep K N F H v d):∀{vs:List V} {ds:List D} (i:Nat),Reps K N F H vs ds->Reps K N F H (vs.set i v) (ds.set i d)
 | _,_,_,.nil=>by simpa using .nil
 | _,_,0,.cons _ t=>by simpa using .cons h t
 | _,_,i+1,.cons q t=>by simpa using .cons q (Reps.set h i t)
theorem Reps.ints:∀{ns:List Int},Reps K N F H (ns.map V.int) (ns.map D.int)
 | []=>.nil
 | _::r=>.cons (.int _) (Reps.ints (ns:=r))
theorem Reps.toInts:∀{vs:List V} {ns:List Int},Reps K N F H vs (ns.map D.int)->vs=ns.map V.int
 | _,[],.nil=>rfl
 | _,n::ns,.cons h t=>by cases h;rw [Reps.toInts t];rfl
theorem fZ {a:Addr} (h:SqT K (fun _=>none) a vs):SqT K H a vs:=by
 rcases h with (h | ⟨o,h⟩) | h
 ·cases h
 ·cases h
 ·exact .inr h
theorem jd {a:Addr} (h:SqL K (fun _=>none) a vs):SqL K H a vs:=by
 rcases h with (h | ⟨o,h⟩) | h
 ·cases h
 ·cases h
 ·exact .inr h
theorem Rep.sqT {ds:List D} (h:Rep K N F H v (.tup ds)):∃a vs,v=.ref a/\SqT K H a vs/\Reps K N F H vs ds:=by
 cases h with
 | tup n h r=>exact ⟨_,_,rfl,.inl h,r⟩
 | tupK h r=>exact ⟨_,_,rfl,fZ h,r⟩
theorem Rep.sqL {ds:List D} (h:Rep K N F H v (.lst ds)):∃a vs,v=.ref a/\SqL K H a vs/\Reps K N F H vs ds:=by
 cases h with
 | lst n f h r=>exact ⟨_,_,rfl,.inl (.inl h),r⟩
 | lstF n f h r=>exact ⟨_,_,rfl,.inl (.inr ⟨_,h⟩),r⟩
 | lstK f h r=>exact ⟨_,_,rfl,jd h,r⟩
theorem Rep.of_sqL {a:Addr} {ds:List D} (h:SqL K H a vs) (n:N a) (f:∀o,F o) (r:Reps K N F H vs ds):Rep K N F H (.ref a) (.lst ds):=by
 rcases h with (h | ⟨o,h⟩) | h
 ·exact .lst n (f _) h r
 ·exact .lstF n (f _) h r
 ·exact .lstK (f _) (.inr h) r
end
structure Fk where
 ok:IJ->Hp->AP->Hp->Addr->Prop
 ism:∀{K:IJ} {H0:Hp} {N:AP} {H:Hp} {a:Addr},ok K H0 N H a->IsM (H a)
 mono:∀{K:IJ} {H0:Hp} {N N':AP} {H H':Hp} {a:Addr},(∀b,N b->H b≠none->N' b/\H' b=H b)->H' a=H a->ok K H0 N H a->ok K H0 N' H' a
inductive Sl where
 | no | val (d:D) | fre (d:D) | own (ds:List D) | pen (ad:Option Addr) (ns:List Int) | odi (ks:List (List Int)) (vs:List D) | obj (k:Fk)
def Sl.mut:Sl->Bool
 | .own _=>true
 | .pen _ _=>true
 | .odi _ _=>true
 | .obj _=>true
 | _=>false
def Mo (Z:AP) (U:St) (S:List Sl) (a:Addr):Prop:=(∃(i:Nat) (s:Sl),S[i]?=some s/\s.mut=true/\U[i]?=some (some (V.ref a)))\/Z a
abbrev NM (Z:AP) (U:St) (S:List Sl):AP:=fun a=>¬Mo Z U S a
def rn (K:IJ) (H0:Hp) (N:AP) (H:Hp) (o:Option V):Sl->Prop
 | .no=>True
 | .val d=>∃v,o=some v/\Rep K N AnyF H v d
 | .fre d=>∃v,o=some v/\Rep K N (Fr H0) H v d
 | .own ds=>∃a vs,o=some (.ref a)/\H a=some (.lst vs)/\H0 a=none/\Reps K N (Fr H0) H vs ds
 | .pen ad ns=>∃a,o=some (.ref a)/\(∀b,ad=some b->a=b)/\H a=some (.lst (ns.map .int))
 | .odi ks ds=>∃a es,o=some (.ref a)/\(∃ob,H a=some (bK a ob es))/\H0 a=none/\(es.map (·.1)=ks/\Reps K N AnyF H (es.map fun x=>V.ref x.2.1) (ks.map kT))/\Reps K N (Fr H0) H (es.map (·.2.2)) ds
 | .obj k=>∃a,o=some (.ref a)/\H0 a=none/\k.ok K H0 N H a
structure OK (K:IJ) (H0:Hp) (Z:AP) (U:St) (H:Hp) (S:List Sl):Prop where
 len:U.length=S.length
 at_:∀(i:Nat) (o:Option V) (s:Sl),U[i]?=some o->S[i]?=some s->rn K H0 (NM Z U S) H o s
 inj:∀(i j:Nat) (a:Addr) (s t:Sl),S[i]?=some s->S[j]?=some t->s.mut=true->t.mut=true->U[i]?=some (some (V.ref a))->U[j]?=some (some (V.ref a))->i=j
 dom:∀a,H a=none->H0 a=none
 zl:∀a,Z a->IsM (H a)
 nz:∀(i:Nat) (s:Sl) (a:Addr),S[i]?=some s->s.mut=true->U[i]?=some (some (V.ref a))->¬Z a
def Step (Z:AP) (U:St) (S:List Sl) (H:Hp) (U':St) (S':List Sl) (H':Hp):Prop:=(∀a,NM Z U S a->H a≠none->H' a=H a/\NM Z U' S' a)/\(∀a,H' a=none->H a=none)/\∀a,Z a->H a≠none->H' a=H a
section
variable {K:IJ} {N N':AP} {F F':FP} {H H' H'' H0:Hp} {Z:AP} {U U' U'':St} {S S' S'':List Sl}
theorem Step.refl:Step Z U S H U S H:=⟨fun _ n _=>⟨rfl,n⟩,fun _ h=>h,fun _ _ _=>rfl⟩
theorem Step.trans (a:Step Z U S H U' S' H') (b:Step Z U' S' H' U'' S'' H''):Step Z U S H U'' S'' H'':=
 ⟨fun x n h=>by
  obtain ⟨e1,n1⟩:=a.1 x n h
  obtain ⟨e2,n2⟩:=b.1 x n1 (by rw [e1];exact h)
  exact ⟨e2.trans e1,n2⟩,fun x h=>a.2.1 x (b.2.1 x h),fun x z h=>by
  have e1:=a.2.2 x z h
  exact (b.2.2 x z (by rw [e1];exact h)).trans e1⟩
theorem Rep.step {d:D} (h:Rep K (NM Z U S) F H v d) (st:Step Z U S H U' S' H'):Rep K (NM Z U' S') F H' v d:=h.mono (fun a n e=>⟨(st.1 a n e).2,(st.1 a n e).1⟩) fun _ x=>x
theorem Reps.step {ds:List D} (h:Reps K (NM Z U S) F H vs ds) (st:Step Z U S H U' S' H'):Reps K (NM Z U' S') F H' vs ds:=h.mono (fun a n e=>⟨(st.1 a n e).2,(st.1 a n e).1⟩) fun _ x=>x
theorem Rep.stp {d:D} (h:Rep K (NM Z U S) F H v d) (st:∀a,NM Z U S a->H a≠none->H' a=H a/\NM Z U' S' a):Rep K (NM Z U' S') F H' v d:=h.mono (fun a n e=>⟨(st a n e).2,(st a n e).1⟩) fun _ x=>x
theorem Reps.stp {ds:List D} (h:Reps K (NM Z U S) F H vs ds) (st:∀a,NM Z U S a->H a≠none->H' a=H a/\NM Z U' S' a):Reps K (NM Z U' S') F H' vs ds:=h.mono (fun a n e=>⟨(st a n e).2,(st a n e).1⟩) fun _ x=>x
theorem OK.mo (k:OK K H0 Z U H S) {a:Addr} (h:Mo Z U S a):IsM (H a):=by
 rcases h with ⟨i,s,e1,e2,e3⟩ | h
 case inr=>exact k.zl a h
 have q:=k.at_ i _ s e3 e1
 cases s with
 | no=>cases e2
 | val d=>cases e2
 | fre d=>cases e2
 | own ds=>obtain ⟨b,vs,h1,h2,_⟩:=q;cases h1;rw [h2];trivial
 | pen ad ns=>obtain ⟨b,h1,_,h2⟩:=q;cases h1;rw [h2];trivial
 | odi ks ds=>obtain ⟨b,kvs,h1,⟨ob,h2⟩,_⟩:=q;cases h1;rw [h2];trivial
 | obj k=>obtain ⟨b,h1,_,h2⟩:=q;cases h1;exact k.ism h2
theorem OK.grow (k:OK K H0 Z U H S) (h:∀a,H a≠none->H' a=H a):OK K H0 Z U H' S where
 len:=k.len
 inj:=k.inj
 nz:=k.nz
 zl:=fun a z=>by
  have e:=k.zl a z
  rw [h a e.ne];exact e
 dom:=fun a e=>k.dom a (JE fun z=>by rw [h a z] at e;exact z e)
 at_:=fun i o s e1 e2=>by
  have q:=k.at_ i o s e1 e2
  have hm:∀a,NM Z U S a->H a≠none->NM Z U S a/\H' a=H a:=fun a n e=>⟨n,h a e⟩
  cases s with
  | no=>trivial
  | val d=>obtain ⟨v,e,r⟩:=q;exact ⟨v,e,r.mono hm fun _ x=>x⟩
  | fre d=>obtain ⟨v,e,r⟩:=q;exact ⟨v,e,r.mono hm fun _ x=>x⟩
  | own ds=>obtain ⟨a,vs,e,e',e0,r⟩:=q;exact ⟨a,vs,e,by rw [h a (by simp [e'])];exact e',e0,r.mono hm fun _ x=>x⟩
  | pen ad ns=>obtain ⟨a,e,e1,e'⟩:=q;exact ⟨a,e,e1,by rw [h a (by simp [e'])];exact e'⟩
  | odi ks ds=>obtain ⟨a,vs,e,⟨ob,e'⟩,e0,ek,r⟩:=q;exact ⟨a,vs,e,⟨ob,by rw [h a (by simp [e'])];exact e'⟩,e0,⟨ek.1,ek.2.mono hm fun _ x=>x⟩,r.mono hm fun _ x=>x⟩
  | obj k=>obtain ⟨a,e,e0,r⟩:=q;exact ⟨a,e,e0,k.mono hm (h a (k.ism r).ne) r⟩
theorem Step.grow (h:∀a,H a≠none->H' a=H a):Step Z U S H U S H':=⟨fun a n e=>⟨h a e,n⟩,fun a e=>JE fun z=>by rw [h a z] at e;exact z e,fun a _ e=>h a e⟩
theorem aV {p:Addr} {o:HO} (hp:H p=none):∀a,H a≠none->upd H p o a=H a:=fun a e=>aL fun z=>e (by rw [z];exact hp)
end
inductive VR where
 | d (x:D) | own (i:Nat)
def getO:Option Sl->Option D
 | some (.own ds)=>some (.lst ds)
 | some (.pen _ ns)=>some (.lst (ns.map .int))
 | some (.odi ks vs)=>some (.dic ks vs)
 | _=>none
def get (S:List Sl):VR->Option D
 | .d x=>some x
 | .own i=>getO S[i]?
def fq (K:IJ) (F:FP) (Z:AP) (U:St) (S:List Sl) (H:Hp) (v:V):VR->Prop
 | .d x=>Rep K (NM Z U S) F H v x
 | .own i=>U[i]?=some (some v)
section
variable {K:IJ} {N N':AP} {F F':FP} {H H' H'' H0:Hp} {Z:AP} {U U' U'':St} {S S' S'':List Sl}
theorem fq.step {r:VR} (h:fq K F Z U S H v r) (st:Step Z U S H U S' H'):fq K F Z U S' H' v r:=by
 cases r with
 | d x=>exact Rep.step h st
 | own i=>exact h
theorem fq.get {r:VR} {x:D} (h:fq K F Z U S H v r) (k:OK K H0 Z U H S) (e:get S r=some x):Rep K Any AnyF H v x:=by
 cases r with
 | d y=>cases e;exact Rep.any h
 | own i=>
  have h:U[i]?=some (some v):=h
  have e:getO S[i]?=some x:=e
  cases es:S[i]? with
  | none=>rw [es] at e;cases e
  | some s=>
   rw [es] at e
   cases s with
   | no=>cases e
   | val d=>cases e
   | fre d=>cases e
   | own ds=>
    cases e
    obtain ⟨a,vs,h1,h2,h3,h4⟩:=k.at_ i _ _ h es
    cases h1
    exact .lst trivial trivial h2 h4.any
   | pen ad ns=>
    cases e
    obtain ⟨a,h1,_,h2⟩:=k.at_ i _ _ h es
    cases h1
    exact .lst trivial trivial h2 Reps.ints
   | odi ks ds=>
    cases e
    obtain ⟨a,kvs,h1,⟨ob,h2⟩,h3,h4,h5⟩:=k.at_ i _ _ h es
    cases h1
    exact .dic trivial trivial h2 h4.1 h4.2.any h5.any
   | obj k=>cases e
end
abbrev VT:=List Sl->(VR->List Sl->Prop)->Prop
abbrev VTT:=List Sl->(Bool->List Sl->Prop)->Prop
abbrev VTA:=List Sl->(List VR->List Sl->Prop)->Prop
abbrev VTN:=List Sl->(List D->List Sl->Prop)->Prop
def FM (H0:Hp) (m:Bool):FP:=fun o=>m=true->Fr H0 o
def SndE (K:IJ) (m:Bool) (te:TE) (t:VT):Prop:=∀H0 Z U H S Q C,OK K H0 Z U H S->t S Q->(∀v H' r S',OK K H0 Z U H' S'->Step Z U S H U S' H'->fq K (FM H0 m) Z U S' H' v r->Q r S'->C v H')->te U H C
def SndT (K:IJ) (te:TT) (t:VTT):Prop:=∀H0 Z U H S Q C,OK K H0 Z U H S->t S Q->(∀b H' S',OK K H0 Z U H' S'->Step Z U S H U S' H'->Q b S'->C b H')->te U H C
inductive cN (K:IJ) (F:FP) (Z:AP) (U:St) (S:List Sl) (H:Hp):List V->List VR->Prop where
 | nil:cN K F Z U S H [] []
 | cons {v:V} {r:VR} {vs:List V} {rs:List VR} (h:fq K F Z U S H v r) (t:cN K F Z U S H vs rs):cN K F Z U S H (v::vs) (r::rs)
def gets (S:List Sl):List VR->Option (List D)
 | []=>some []
 | r::rs=>match get S r,gets S rs with
  | some d,some ds=>some (d::ds)
  | _,_=>none
def Cj (K:IJ) (m:Bool) (te:TA) (t:VTA):Prop:=∀H0 Z U H S Q C,OK K H0 Z U H S->t S Q->(∀vs H' rs S',OK K H0 Z U H' S'->Step Z U S H U S' H'->cN K (FM H0 m) Z U S' H' vs rs->Q rs S'->C vs H')->te U H C
def Ii (K:IJ) (te:TE) (t:VTN):Prop:=∀H0 Z U H S Q C,OK K H0 Z U H S->t S Q->(∀a vs ds H1 H' S',OK K H0 Z U H1 S'->Step Z U S H U S' H1->H1 a=none->(∀b,H1 b≠none->H' b=H1 b)->H' a=some (.lst vs) ->
 Reps K (fun b=>NM Z U S' b/\b≠a) (Fr H0) H' vs ds->Q ds S'->C (.ref a) H')->te U H C
structure VE (K:IJ) (X:Cx) (m:Bool) (e:Expr) (te:TE) (t:VT):Prop where
 pe:PE X e te
 snd:SndE K m te t
structure VTe (K:IJ) (X:Cx) (e:Expr) (te:TT) (t:VTT):Prop where
 pe:PT X e te
 snd:SndT K te t
structure VWe (K:IJ) (X:Cx) (e:Expr) (te:TT) (t:VTT):Prop where
 pe:PW X e te
 snd:SndT K te t
structure VA (K:IJ) (X:Cx) (m:Bool) (es:List Expr) (te:TA) (t:VTA):Prop where
 pe:PA X es te
 snd:Cj K m te t
structure VN (K:IJ) (X:Cx) (e:Expr) (te:TE) (t:VTN):Prop where
 pe:PE X e te
 snd:Ii K te t
section
variable {K:IJ} {N N':AP} {F F':FP} {H H' H'' H0:Hp} {Z:AP} {U U' U'':St} {S S' S'':List Sl}
theorem cN.gets {rs:List VR} {ds:List D} (h:cN K F Z U S H vs rs) (k:OK K H0 Z U H S) (e:gets S rs=some ds):Reps K Any AnyF H vs ds:=by
 induction h generalizing ds with
 | nil=>cases e;exact .nil
 | cons h t ih=>
  unfold VL.gets at e
  split at e
  ·rename_i d es h1 h2
   cases e
   exact .cons (h.get k h1) (ih h2)
  ·cases e
end
end VL
end
variable {kvs:List (List Int×VL.D)} {ds:List VL.D} {S:List VL.Sl} {d:VL.D} {r:VL.VR} {F:VL.FP} {Z:VL.AP} {H0:L2.Hp} {rs:List VL.VR} {q:VL.D->Prop} {p:List VL.D->(VL.D->Prop)->Prop}
section
namespace VL
open PySem L2
section
variable {K:IJ} {X:Cx} {m:Bool} {e a b c:Expr} {ta tb tc te:TE} {va vb vc:VT} {pos:Pos}
theorem FM.any {a:Option Addr}:FM H0 false a:=fun z=>nomatch z
def vC (d:D):VT:=fun S Q=>Q (.d d) S
theorem ab {i j}:VE K X m (.Constant (.int i) j pos) (tC (.int i)) (vC (.int i)):=⟨gR,fun _ _ _ _ _ _ _ k h q=>q _ _ (.d (.int i)) _ k .refl (Rep.int i) h⟩
theorem cG {i j}:VE K X m (.Constant (.bool i) j pos) (tC (.bl i)) (vC (.bl i)):=⟨EJ,fun _ _ _ _ _ _ _ k h q=>q _ _ (.d (.bl i)) _ k .refl (Rep.bl i) h⟩
theorem je {j}:VE K X m (.Constant .none j pos) (tC .non) (vC .non):=⟨BK,fun _ _ _ _ _ _ _ k h q=>q _ _ (.d .non) _ k .refl Rep.non h⟩
theorem bV {i j}:VE K X m (.Constant (.str i) j pos) (tC (.str i)) (vC (.str i)):=⟨BL,fun _ _ _ _ _ _ _ k h q=>q _ _ (.d (.str i)) _ k .refl (Rep.str i) h⟩
theorem pS (h:PE X e (tC v)) (r:∀N H,Rep K N AnyF H v d):VE K X false e (tC v) (vC d):=⟨h,fun _ _ _ _ _ _ _ k h q=>q _ _ (.d d) _ k .refl (show Rep K _ _ _ v d from (r _ _).mono (fun _ n _=>⟨n,rfl⟩) (fun _ _=>FM.any)) h⟩
def rdO (i:Nat):Option Sl->Option VR
 | some (.val d)=>some (.d d)
 | some (.fre d)=>some (.d d)
 | some (.own _)=>some (.own i)
 | some (.pen _ _)=>some (.own i)
 | some (.odi _ _)=>some (.own i)
 | some (.obj _)=>some (.own i)
 | _=>none
def mO (i:Nat):VT:=fun S Q=>∃r,rdO i S[i]?=some r/\Q r S
theorem OK.var {H0 H:Hp} (k:OK K H0 Z U H S) {i:Nat} (h:rdO i S[i]?=some r):∃v,U[i]?=some (some v)/\fq K (FM H0 false) Z U S H v r:=by
 have hl:=k.len
 cases es:S[i]? with
 | none=>rw [es] at h;cases h
 | some s=>
  have hi:i < U.length:=by rw [hl];exact (List.getElem?_eq_some_iff.mp es).1
  have q:=k.at_ i _ s (IL hi) es
  rw [es] at h
  cases s with
  | no=>cases h
  | val d=>obtain ⟨v,e,r'⟩:=q;cases h;exact ⟨v,by rw [IL hi,e],r'.mono (fun _ n _=>⟨n,rfl⟩) fun _ _=>FM.any⟩
  | fre d=>obtain ⟨v,e,r'⟩:=q;cases h;exact ⟨v,by rw [IL hi,e],r'.mono (fun _ n _=>⟨n,rfl⟩) fun _ x _=>x⟩
  | own ds=>obtain ⟨a,vs,e,_⟩:=q;cases h;exact ⟨.ref a,by rw [IL hi,e],by show U[i]?=_;rw [IL hi,e]⟩
  | pen ad ds=>obtain ⟨a,e,_⟩:=q;cases h;exact ⟨.ref a,by rw [IL hi,e],by show U[i]?=_;rw [IL hi,e]⟩
  | odi ks ds=>obtain ⟨a,_,e,_⟩:=q;cases h;exact ⟨.ref a,by rw [IL hi,e],by show U[i]?=_;rw [IL hi,e]⟩
  | obj k=>obtain ⟨a,e,_⟩:=q;cases h;exact ⟨.ref a,by rw [IL hi,e],by show U[i]?=_;rw [IL hi,e]⟩
theorem ae (i:Nat) (h:PE X e (cF i)):VE K X false e (cF i) (mO i):=⟨h,fun H0 Z U H S Q C k zq1 hc=>by
 obtain ⟨r,h,q⟩:=zq1
 obtain ⟨v,e,rr⟩:=k.var h
 exact ⟨v,e,hc _ _ _ _ k .refl rr q⟩⟩
def pT (t:VT):VT:=fun S Q=>t S fun r S'=>(match r with | .d d=>flat d=true | .own _=>True)/\Q r S'
theorem aK (h:VE K X false e te va):VE K X m e te (pT va):=⟨h.pe,fun H0 Z U H S Q C k t hc=>h.snd H0 Z U H S _ C k t fun v H' r S' k' st rr ⟨f,q⟩=>hc v H' r S' k' st (by
 cases r with
 | d x=>exact Rep.flat rr f
 | own i=>exact rr) q⟩
def v2 (w:D->D->(D->Prop)->Prop) (va vb:VT):VT:=fun S Q=>va S fun ra S1=>vb S1 fun rb S2=>∃d1 d2,get S2 ra=some d1/\get S2 rb=some d2/\w d1 d2 fun d=>Q (.d d) S2
def cZ (K:IJ) (r:R2) (w:D->D->(D->Prop)->Prop):Prop:=∀(x y:V) (H:Hp) (d1 d2:D) (q:D->Prop) (C:VK),Rep K Any AnyF H x d1->Rep K Any AnyF H y d2->w d1 d2 q->(∀z dz,q dz->(∀N F,Rep K N F H z dz)->C z H)->r x y H C
theorem Ck {r:R2} {w:D->D->(D->Prop)->Prop} (L:cZ K r w) (ha:SndE K false ta va) (hb:SndE K false tb vb):SndE K m (tOp r ta tb) (v2 w va vb):=by
 intro H0 Z U H S Q C k t hc
 refine ha H0 Z U H S _ _ k t fun x H1 ra S1 k1 st1 r1 t1=>?_
 refine hb H0 Z U H1 S1 _ _ k1 t1 fun y H2 rb S2 k2 st2 r2 zr1=>?_
 obtain ⟨d1,d2,e1,e2,t2⟩:=zr1
 exact L x y H2 d1 d2 _ _ ((r1.step st2).get k2 e1) (r2.get k2 e2) t2 fun z dz q rz=>hc z H2 (.d dz) S2 k2 (st1.trans st2) (rz _ _) q
theorem au {op:Operator} {r:R2} {w:D->D->(D->Prop)->Prop} (ho:OpR X (MV op) r) (L:cZ K r w) (ha:VE K X false a ta va) (hb:VE K X false b tb vb):VE K X m (.BinOp a op b pos) (tOp r ta tb) (v2 w va vb):=⟨sU ho ha.pe hb.pe,Ck L ha.snd hb.snd⟩
@[reducible] def ofV:V->D
 | .int i=>.int i
 | .bl b=>.bl b
 | .str x=>.str x
 | .ty x=>.ty x
 | _=>.non
def scV:V->Bool
 | .int _=>true | .bl _=>true | .str _=>true | .non=>true | .ty _=>true | _=>false
theorem oq (h:scV v=true) {N:AP}:Rep K N F H v (ofV v):=by
 cases v <;> first | exact .int _ | exact .bl _ | exact .str _ | exact .non | exact .ty _ | cases h
def wI (C:Int->Int->Prop) (g:Int->Int->V):D->D->(D->Prop)->Prop:=fun d1 d2 q=>∃i j,d1=.int i/\d2=.int j/\C i j/\q (ofV (g i j))
def wI0 (g:Int->Int->V):D->D->(D->Prop)->Prop:=fun d1 d2 q=>∃i j,d1=.int i/\d2=.int j/\q (ofV (g i j))
theorem bE {C:Int->Int->Prop} {g:Int->Int->V} (hg:∀i j,scV (g i j)=true:=by intro _ _;rfl):cZ K (rI C g) (wI C g):=by
 rintro x y H d1 d2 q Cc r1 r2 ⟨i,j,rfl,rfl,c,h⟩ hc
 cases r1;cases r2
 exact ⟨i,j,rfl,rfl,c,hc _ _ h fun _ _=>oq (hg i j)⟩
theorem aC {g:Int->Int->V} (hg:∀i j,scV (g i j)=true:=by intro _ _;rfl):cZ K (rI0 g) (wI0 g):=by
 rintro x y H d1 d2 q Cc r1 r2 ⟨i,j,rfl,rfl,h⟩ hc
 cases r1;cases r2
 exact ⟨i,j,rfl,rfl,hc _ _ h fun _ _=>oq (hg i j)⟩
def toV:D->Option V
 | .int i=>some (.int i)
 | .bl b=>some (.bl b)
 | .str x=>some (.str x)
 | .non=>some .non
 | _=>none
theorem iN {u:V} {N:AP} (h:Rep K N F H v d) (e:toV d=some u):v=u:=by
 cases h <;> cases e <;> rfl
def wEq:D->D->(D->Prop)->Prop:=fun d1 d2 q=>∃x y,toV d1=some x/\toV d2=some y/\xy x y=true/\q (.bl (decide (x=y)))
def wNe:D->D->(D->Prop)->Prop:=fun d1 d2 q=>∃x y,toV d1=some x/\toV d2=some y/\xy x y=true/\q (.bl (!decide (x=y)))
theorem dr:cZ K rEq wEq:=by
 rintro x y H d1 d2 q C r1 r2 ⟨x',y',e1,e2,s,h⟩ hc
 obtain rfl:=iN r1 e1
 obtain rfl:=iN r2 e2
 exact ⟨s,hc _ _ h fun _ _=>.bl _⟩
theorem Fo:cZ K rNe wNe:=by
 rintro x y H d1 d2 q C r1 r2 ⟨x',y',e1,e2,s,h⟩ hc
 obtain rfl:=iN r1 e1
 obtain rfl:=iN r2 e2
 exact ⟨s,hc _ _ h fun _ _=>.bl _⟩
def tG:D->Bool
 | .non=>true
 | _=>false
theorem mP {N:AP} (h:Rep K N F H v d):decide (v=.non)=tG d:=by cases h <;> rfl
def Cm (neg:Bool):D->D->(D->Prop)->Prop:=fun d1 d2 q=>d2=.non/\q (.bl (if neg then !tG d1 else tG d1))
theorem Fp:cZ K (fun x y H Q=>y=.non/\Q (.bl (decide (x=.non))) H) (Cm false):=by
 rintro x y H d1 d2 q C r1 r2 ⟨rfl,h⟩ hc
 cases r2
 exact ⟨rfl,by rw [mP r1];exact hc _ _ h fun _ _=>.bl _⟩
theorem Co:cZ K (fun x y H Q=>y=.non/\Q (.bl (!decide (x=.non))) H) (Cm true):=by
 rintro x y H d1 d2 q C r1 r2 ⟨rfl,h⟩ hc
 cases r2
 exact ⟨rfl,by rw [mP r1];exact hc _ _ h fun _ _=>.bl _⟩
def f9 (t:VT):VTT:=fun S Q=>t S fun r S'=>∃k,r=.d (.bl k)/\Q k S'
theorem xX (h:SndE K m te va):SndT K (pK te) (f9 va):=fun H0 Z U H S Q C k t hc=>h H0 Z U H S _ _ k t fun v H' r S' k' st rr zq1=>by
 obtain ⟨b,e,q⟩:=zq1
 subst e
 cases (show Rep K _ _ H' v (.bl b) from rr)
 exact ⟨b,rfl,hc b H' S' k' st q⟩
theorem Ij (h:SndE K m te va):SndT K (tB te) (f9 va):=fun H0 Z U H S Q C k t hc=>h H0 Z U H S _ _ k t fun v H' r S' k' st rr zq1=>by
 obtain ⟨b,e,q⟩:=zq1
 subst e
 cases (show Rep K _ _ H' v (.bl b) from rr)
 exact ⟨b,rfl,hc b H' S' k' st q⟩
theorem aG {op:CmpOp} {r:R2} {w:D->D->(D->Prop)->Prop} (ho:OpR X (Kz op) r) (L:cZ K r w) (ha:VE K X false a ta va) (hb:VE K X false b tb vb) (hm:LL op b=false):VTe K X (.Compare a [op] [b] pos) (pK (tOp r ta tb)) (f9 (v2 w va vb)):=
 ⟨pL ho ha.pe hb.pe hm,xX (m:=false) (Ck L ha.snd hb.snd)⟩
theorem cT {op:CmpOp} {r:R2} {w:D->D->(D->Prop)->Prop} (ho:OpR X (Kz op) r) (L:cZ K r w) (ha:VE K X false a ta va) (hb:VE K X false b tb vb) (hm:LL op b=false):VE K X m (.Compare a [op] [b] pos) (tOp r ta tb) (v2 w va vb):=
 ⟨xB ho ha.pe hb.pe hm,Ck L ha.snd hb.snd⟩
theorem cq (h:VE K X false e te va) (he:∀whole,Qh e X.env whole=(do let v <- whole;Mp e.pos;N5 [v] (QJ v)):=by intro _;rfl):VTe K X e (tB te) (f9 va):=⟨BM h.pe he,Ij h.snd⟩
def tru:D->Option Bool
 | .bl b=>some b
 | .int i=>some (i != 0)
 | .non=>some false
 | .lst ds=>some !ds.isEmpty
 | .tup ds=>some !ds.isEmpty
 | _=>none
section
variable {tA tB':TT} {wA wB:VTT} {rest:List Expr}
def Fq (t u:VTT):VTT:=fun S Q=>t S fun c S1=>if c=true then u S1 Q else Q false S1
def vOr (t u:VTT):VTT:=fun S Q=>t S fun c S1=>if c=true then Q true S1 else u S1 Q
def Cp (t:VTT):VTT:=fun S Q=>t S fun c S1=>Q (!c) S1
theorem dR (h:VTe K X a tA wA):VWe K X (.BoolOp .And [a] pos) tA wA:=⟨xo h.pe,h.snd⟩
theorem lu (h:VTe K X a tA wA):VWe K X (.BoolOp .Or [a] pos) tA wA:=⟨BN h.pe,h.snd⟩
theorem dt (ha:VTe K X a tA wA) (hb:VWe K X (.BoolOp .And (b::rest) pos) tB' wB):VWe K X (.BoolOp .And (a::b::rest) pos) (EK tA tB') (Fq wA wB):=⟨BO ha.pe hb.pe,fun H0 Z U H S Q C k t hc=>
 ha.snd H0 Z U H S _ _ k t fun c H1 S1 k1 st1 q=>by
  cases c with
  | true=>rw [if_pos rfl] at q ⊢;exact hb.snd H0 Z U H1 S1 _ _ k1 q fun c2 H2 S2 k2 st2 q2=>hc c2 H2 S2 k2 (st1.trans st2) q2
  | false=>rw [if_neg IT] at q ⊢;exact hc false H1 S1 k1 st1 q⟩
theorem ku (ha:VTe K X a tA wA) (hb:VWe K X (.BoolOp .Or (b::rest) pos) tB' wB):VWe K X (.BoolOp .Or (a::b::rest) pos) (tOr tA tB') (vOr wA wB):=⟨EM ha.pe hb.pe,fun H0 Z U H S Q C k t hc=>
 ha.snd H0 Z U H S _ _ k t fun c H1 S1 k1 st1 q=>by
  cases c with
  | false=>rw [if_neg IT] at q ⊢;exact hb.snd H0 Z U H1 S1 _ _ k1 q fun c2 H2 S2 k2 st2 q2=>hc c2 H2 S2 k2 (st1.trans st2) q2
  | true=>rw [if_pos rfl] at q ⊢;exact hc true H1 S1 k1 st1 q⟩
theorem eu (h:VWe K X e tA wA):VTe K X e tA wA:=⟨h.pe.pt,h.snd⟩
theorem cK (h:VTe K X a tA wA):VTe K X (.UnaryOp .Not a pos) (EL tA) (Cp wA):=⟨BP h.pe,fun H0 Z U H S Q C k t hc=>h.snd H0 Z U H S _ _ k t fun c H1 S1 k1 st1 q=>hc (!c) H1 S1 k1 st1 q⟩
def Ar (ta tb:VT):VT:=fun S Q=>ta S fun r S1=>∃c,r=.d (.bl c)/\if c=true then tb S1 Q else Q (.d (.bl false)) S1
def Fs (ta tb:VT):VT:=fun S Q=>ta S fun r S1=>∃c,r=.d (.bl c)/\if c=true then Q (.d (.bl true)) S1 else tb S1 Q
theorem jf {op} (h:VE K X m a ta va):VE K X m (.BoolOp op [a] pos) ta va:=⟨BQ h.pe,h.snd⟩
theorem jg (ha:VE K X m a ta va) (hb:VE K X m (.BoolOp .And (b::rest) pos) tb vb):VE K X m (.BoolOp .And (a::b::rest) pos) (Ai ta tb) (Ar va vb):=⟨BR ha.pe hb.pe,fun H0 Z U H S Q C k t hc=>
 ha.snd H0 Z U H S _ _ k t fun v H1 r S1 k1 st1 rr zq1=>by
  obtain ⟨c,e,q⟩:=zq1
  subst e
  cases (show Rep K _ _ H1 v (.bl c) from rr)
  refine ⟨c,rfl,?_⟩
  cases c with
  | true=>rw [if_pos rfl] at q ⊢;exact hb.snd H0 Z U H1 S1 _ _ k1 q fun v2 H2 r2 S2 k2 st2 rr2 q2=>hc v2 H2 r2 S2 k2 (st1.trans st2) rr2 q2
  | false=>rw [if_neg IT] at q ⊢;exact hc _ H1 (.d (.bl false)) S1 k1 st1 (Rep.bl false) q⟩
theorem Fv (ha:VE K X m a ta va) (hb:VE K X m (.BoolOp .Or (b::rest) pos) tb vb):VE K X m (.BoolOp .Or (a::b::rest) pos) (EN ta tb) (Fs va vb):=⟨EO ha.pe hb.pe,fun H0 Z U H S Q C k t hc=>
 ha.snd H0 Z U H S _ _ k t fun v H1 r S1 k1 st1 rr zq1=>by
  obtain ⟨c,e,q⟩:=zq1
  subst e
  cases (show Rep K _ _ H1 v (.bl c) from rr)
  refine ⟨c,rfl,?_⟩
  cases c with
  | false=>rw [if_neg IT] at q ⊢;exact hb.snd H0 Z U H1 S1 _ _ k1 q fun v2 H2 r2 S2 k2 st2 rr2 q2=>hc v2 H2 r2 S2 k2 (st1.trans st2) rr2 q2
  | true=>rw [if_pos rfl] at q ⊢;exact hc _ H1 (.d (.bl true)) S1 k1 st1 (Rep.bl true) q⟩
def vIf (t:VTT) (ta tb:VT):VT:=fun S Q=>t S fun c S1=>if c=true then ta S1 Q else tb S1 Q
theorem tI (hc:VTe K X c tA wA) (ha:VE K X m a ta va) (hb:VE K X m b tb vb):VE K X m (.IfExp c a b pos) (tIf tA ta tb) (vIf wA va vb):=⟨sJ hc.pe ha.pe hb.pe,fun H0 Z U H S Q C k t hq=>
 hc.snd H0 Z U H S _ _ k t fun c H1 S1 k1 st1 q=>by
  cases c with
  | true=>rw [if_pos rfl] at q ⊢;exact ha.snd H0 Z U H1 S1 _ _ k1 q fun v2 H2 r2 S2 k2 st2 rr2 q2=>hq v2 H2 r2 S2 k2 (st1.trans st2) rr2 q2
  | false=>rw [if_neg IT] at q ⊢;exact hb.snd H0 Z U H1 S1 _ _ k1 q fun v2 H2 r2 S2 k2 st2 rr2 q2=>hq v2 H2 r2 S2 k2 (st1.trans st2) rr2 q2⟩
end
def vUn (g:Int->V) (va:VT):VT:=fun S Q=>va S fun r S1=>∃i,get S1 r=some (.int i)/\Q (.d (ofV (g i))) S1
theorem b8 {op:UnaryOp} {g:Int->V} (ho:UnR X (unaryOp op) (rU g)) (ha:VE K X false a ta va) (hg:∀i,scV (g i)=true:=by intro _;rfl):VE K X m (.UnaryOp op a pos) (tUn (rU g) ta) (vUn g va):=⟨EZ ho ha.pe,fun H0 Z U H S Q C k t hc=>
 ha.snd H0 Z U H S _ _ k t fun v H1 r S1 k1 st1 rr zq1=>by
  obtain ⟨i,e,q⟩:=zq1
  cases rr.get k1 e
  exact ⟨i,rfl,hc _ H1 (.d (ofV (g i))) S1 k1 st1 (oq (hg i)) q⟩⟩
section
variable {es:List Expr} {tr:TA} {vr:VTA}
def ot:VTA:=fun S Q=>Q [] S
def fw (va:VT) (vr:VTA):VTA:=fun S Q=>va S fun r S1=>vr S1 fun rs S2=>Q (r::rs) S2
theorem af:VA K X m [] mD ot:=⟨gT,fun _ _ _ _ _ _ _ k h q=>q _ _ _ _ k .refl .nil h⟩
theorem aa (ha:VE K X m e te va) (hr:VA K X m es tr vr) (hs:Jf (e::es) X.env=(false,eval e X.env)::Jf es X.env:=by rfl):VA K X m (e::es) (i6 te tr) (fw va vr):=⟨cX ha.pe hr.pe hs,fun H0 Z U H S Q C k t hc=>
 ha.snd H0 Z U H S _ _ k t fun v H1 r S1 k1 st1 rr q=>hr.snd H0 Z U H1 S1 _ _ k1 q fun vs H2 rs S2 k2 st2 rrs q2=>hc (v::vs) H2 (r::rs) S2 k2 (st1.trans st2) (.cons (rr.step st2) rrs) q2⟩
def allD:List VR->Option (List D)
 | []=>some []
 | .d x::r=>(allD r).map (x::·)
 | _::_=>none
theorem cN.allD (h:cN K F Z U S H vs rs) (e:VL.allD rs=some ds):Reps K (NM Z U S) F H vs ds:=by
 induction h generalizing ds with
 | nil=>cases e;exact .nil
 | @cons v r vs rs h t ih=>
  cases r with
  | d x=>
   obtain ⟨es,h1,rfl⟩:=Option.map_eq_some_iff.mp (show (VL.allD rs).map (x::·)=some ds from e)
   exact .cons h (ih h1)
  | own i=>cases e
theorem cN.length (h:cN K F Z U S H vs rs):vs.length=rs.length:=by
 induction h with
 | nil=>rfl
 | cons h t ih=>simp [ih]
theorem eE:∀{rs:List VR} {ds:List D},allD rs=some ds->ds.length=rs.length
 | [],_,e=>by cases e;rfl
 | .d x::r,ds,e=>by
  obtain ⟨es,h1,rfl⟩:=Option.map_eq_some_iff.mp (show (VL.allD r).map (x::·)=some ds from e)
  simp [eE h1]
 | .own _::_,_,e=>by cases e
def Fw (vr:VTA):VT:=fun S Q=>vr S fun rs S1=>∃ds,allD rs=some ds/\ds.length<=1000/\Q (.d (.tup ds)) S1
theorem small {n:Nat} (h:n<=1000):n<=JA:=by rw [J7];lia
theorem OK.nm {H0 H:Hp} (k:OK K H0 Z U H S) {p:Addr} (hp:H p=none):NM Z U S p:=fun z=>by
 have e:=k.mo z
 rw [hp] at e;exact e
theorem ai {x1} (h:VA K X m es tr vr):VE K X m (.Tuple es x1 pos) (E5 tr) (Fw vr):=⟨B4 h.pe,fun H0 Z U H S Q C k t hc=>
 h.snd H0 Z U H S _ _ k t fun vs H1 rs S1 k1 st1 rrs ⟨ds,e,hl,q⟩=>⟨small (by rw [rrs.length,<- eE e];exact hl),fun p hp=>by
  have g:=aV (o:=.tup vs) hp
  exact hc _ _ (.d (.tup ds)) S1 (k1.grow g) (st1.trans (.grow g)) (Rep.tup (k1.nm hp) (.inl aJ) ((rrs.allD e).mono (fun a n e=>⟨n,g a e⟩) fun _ x=>x)) q⟩⟩
def Cq (vr:VTA):VTN:=fun S Q=>vr S fun rs S1=>∃ds,allD rs=some ds/\ds.length<=1000/\Q ds S1
theorem cH {H0 H:Hp} {p:Addr} {o:HO} (hp:H p=none) (h:Reps K (NM Z U S) (FM H0 true) H vs ds):Reps K (fun b=>NM Z U S b/\b≠p) (Fr H0) (upd H p o) vs ds:=
 h.mono (fun a n e=>⟨⟨n,fun z=>e (by rw [z];exact hp)⟩,aV hp a e⟩) fun _ x=>x rfl
theorem aN (h:VA K X true es tr vr):VN K X (.List es pos) (E6 tr) (Cq vr):=⟨B5 h.pe,fun H0 Z U H S Q C k t hc=>
 h.snd H0 Z U H S _ _ k t fun vs H1 rs S1 k1 st1 rrs ⟨ds,e,hl,q⟩=>⟨small (by rw [rrs.length,<- eE e];exact hl),fun p hp=>
  hc p vs ds H1 _ S1 k1 st1 hp (aV hp) aJ (cH hp (rrs.allD e)) q⟩⟩
def xY (t:VTN):VT:=fun S Q=>t S fun ds S1=>Q (.d (.lst ds)) S1
theorem aH {t:VTN} (h:VN K X e te t):VE K X m e te (xY t):=⟨h.pe,fun H0 Z U H S Q C k t hc=>h.snd H0 Z U H S _ _ k t fun a vs ds H1 H' S1 k1 st1 ha hg hl rr q=>by
 refine hc _ H' (.d (.lst ds)) S1 (k1.grow hg) (st1.trans (.grow hg)) (Rep.lst (k1.nm ha) (fun _=>⟨a,rfl,k1.dom a ha⟩) hl (rr.mono (fun b n e=>⟨n.1,rfl⟩) fun _ x _=>x)) q⟩
end
theorem fq.elems {H0 H:Hp} (h:fq K F Z U S H v r) (k:OK K H0 Z U H S) (e:VL.get S r=some (.lst ds)):∃a vs,v=.ref a/\SqL K H a vs/\Reps K (NM Z U S) AnyF H vs ds:=by
 cases r with
 | d y=>
  cases e
  obtain ⟨a,vs,rfl,hq,rr⟩:=Rep.sqL h
  exact ⟨a,vs,rfl,hq,rr.mono (fun _ n _=>⟨n,rfl⟩) fun _ _=>trivial⟩
 | own i=>
  have h:U[i]?=some (some v):=h
  have e:getO S[i]?=some (.lst ds):=e
  cases es:S[i]? with
  | none=>rw [es] at e;cases e
  | some s=>
   rw [es] at e
   cases s with
   | no=>cases e
   | val d=>cases e
   | fre d=>cases e
   | own ds=>
    cases e
    obtain ⟨a,vs,h1,h2,h3,h4⟩:=k.at_ i _ _ h es
    cases h1
    exact ⟨a,vs,rfl,.inl (.inl h2),h4.mono (fun _ n _=>⟨n,rfl⟩) fun _ _=>trivial⟩
   | pen ad ns=>
    cases e
    obtain ⟨a,h1,_,h2⟩:=k.at_ i _ _ h es
    cases h1
    exact ⟨a,_,rfl,.inl (.inl h2),Reps.ints⟩
   | odi ks ds=>cases e
   | obj k=>cases e
theorem fq.elemsT {H0 H:Hp} (h:fq K F Z U S H v r) (k:OK K H0 Z U H S) (e:VL.get S r=some (.tup ds)):∃a vs,v=.ref a/\SqT K H a vs/\Reps K (NM Z U S) AnyF H vs ds:=by
 cases r with
 | d y=>
  cases e
  cases (show Rep K (NM Z U S) F H v (.tup ds) from h) with
  | tup n h2 r2=>exact ⟨_,_,rfl,.inl h2,r2.mono (fun _ n _=>⟨n,rfl⟩) fun _ _=>trivial⟩
  | tupK h2 r2=>exact ⟨_,_,rfl,fZ h2,r2.mono (fun _ n _=>⟨n,rfl⟩) fun _ _=>trivial⟩
 | own i=>
  have e:getO S[i]?=some (.tup ds):=e
  cases es:S[i]? with
  | none=>rw [es] at e;cases e
  | some s=>rw [es] at e;cases s <;> cases e
end
end VL
end
section
namespace VL
open PySem L2
section
variable {K:IJ} {X:Cx} {m:Bool} {e a b c:Expr} {ta tb tc te:TE} {va vb vc:VT} {pos:Pos}
theorem jh {N:AP} {i:Int} (r:Reps K N F H vs ds) (h:atI ds i=some d):∃v,atI vs i=some v/\Rep K N F H v d:=by
 unfold atI at h ⊢
 rw [r.length]
 cases e:ixN ds.length i with
 | none=>rw [e] at h;cases h
 | some j=>
  rw [e] at h
  exact r.getD h
def vIx (va vb:VT):VT:=fun S Q=>va S fun ra S1=>vb S1 fun rb S2=>∃ds i d,(get S2 ra=some (.lst ds)\/get S2 ra=some (.tup ds))/\get S2 rb=some (.int i)/\atI ds i=some d/\Q (.d d) S2
theorem aF (hK:X.K=K) (ha:VE K X false a ta va) (hb:VE K X false b tb vb) (hs:cY b):VE K X false (.Subscript a b pos) (tOp (rIx K) ta tb) (vIx va vb):=⟨by subst hK;exact mG sZ ha.pe hb.pe hs,fun H0 Z U H S Q C k t hc=>
 ha.snd H0 Z U H S _ _ k t fun x H1 ra S1 k1 st1 r1 t1=>hb.snd H0 Z U H1 S1 _ _ k1 t1 fun y H2 rb S2 k2 st2 r2 zq1=>by
  obtain ⟨ds,i,d,e1,e2,e3,q⟩:=zq1
  cases r2.get k2 e2
  have fin:∀v,Rep K (NM Z U S2) AnyF H2 v d->C v H2:=fun v rv=>hc v H2 (.d d) S2 k2 (st1.trans st2) (show Rep K _ _ H2 v d from rv.mono (fun _ n _=>⟨n,rfl⟩) fun _ _=>FM.any) q
  rcases e1 with e1 | e1
  ·obtain ⟨p,vs,rfl,hq,rr⟩:=(r1.step st2).elems k2 e1
   obtain ⟨v,h1,h2⟩:=jh rr e3
   exact .inl ⟨p,vs,i,v,rfl,rfl,hq,h1,fin v h2⟩
  ·obtain ⟨p,vs,rfl,hq,rr⟩:=(r1.step st2).elemsT k2 e1
   obtain ⟨v,h1,h2⟩:=jh rr e3
   exact .inr (.inl ⟨p,vs,i,v,rfl,rfl,hq,h1,fin v h2⟩)⟩
section
variable {es:List Expr} {tr:TA} {vr:VTA} {x:Str} {p:Pos} {id T:String} {r:List V->Hp->VK->Prop}
def vCB (w:List D->(D->Prop)->Prop) (vr:VTA):VT:=fun S Q=>vr S fun rs S1=>∃ds,gets S1 rs=some ds/\w ds fun d=>Q (.d d) S1
def fA (K:IJ) (r:List V->Hp->VK->Prop) (w:List D->(D->Prop)->Prop):Prop:=∀(xs:List V) (H:Hp) (ds:List D) (q:D->Prop) (C:VK),Reps K Any AnyF H xs ds->w ds q->(∀z dz,q dz->(∀N F,Rep K N F H z dz)->C z H)->r xs H C
theorem Fy {w:List D->(D->Prop)->Prop} (L:fA K r w) (ha:Cj K false tr vr):SndE K m (tCB r tr) (vCB w vr):=fun H0 Z U H S Q C k t hc=>
 ha H0 Z U H S _ _ k t fun vs H1 rs S1 k1 st1 rrs zt1=>by obtain ⟨ds,e,q⟩:=zt1;exact L vs H1 ds _ _ (rrs.gets k1 e) q fun z dz q rz=>hc z H1 (.d dz) S1 k1 st1 (rz _ _) q
theorem aO {w:List D->(D->Prop)->Prop} (hc:b7 X (.builtin id) r) (L:fA K r w) (hg:Gl X x) (hm:X.mg x=none) (hv:J1 x=some (.builtin id)) (ha:VA K X false (e::es) tr vr) (hn:x≠"__name__":=by decide) (hdb:(x==("__debug__":Str))=false:=by decide)
  (he:Jf (e::es) X.env=(false,eval e X.env)::Jf es X.env:=by rfl) (hpl:(K8 pos (Jf es X.env)).any (·.1)=false:=by rfl):VE K X m (.Call (.Name x p) (e::es) [] pos) (tCB r tr) (vCB w vr):=⟨fS hc hg hm hv ha.pe hn hdb he hpl,Fy L ha.snd⟩
theorem kz {w:List D->(D->Prop)->Prop} (hc:b7 X (.type T) r) (L:fA K r w) (hg:Gl X x) (hm:X.mg x=none) (hv:J1 x=some (.type T)) (ha:VA K X false (e::es) tr vr) (hn:x≠"__name__":=by decide) (hdb:(x==("__debug__":Str))=false:=by decide)
  (he:Jf (e::es) X.env=(false,eval e X.env)::Jf es X.env:=by rfl) (hpl:(K8 pos (Jf es X.env)).any (·.1)=false:=by rfl):VE K X m (.Call (.Name x p) (e::es) [] pos) (tCB r tr) (vCB w vr):=⟨eV hc hg hm hv ha.pe hn hdb he hpl,Fy L ha.snd⟩
theorem rep1 {N:AP} {xs:List V} (h:Reps K N F H xs [d]):∃v,xs=[v]/\Rep K N F H v d:=by
 cases h with | cons h t=>cases t;exact ⟨_,rfl,h⟩
theorem rep2 {N:AP} {xs:List V} {d d':D} (h:Reps K N F H xs [d,d']):∃v u,xs=[v,u]/\Rep K N F H v d/\Rep K N F H u d':=by
 cases h with | cons h t=>cases t with | cons h' t=>cases t;exact ⟨_,_,rfl,h,h'⟩
def Cr:List D->(D->Prop)->Prop:=fun ds q=>∃es,(ds=[.lst es]\/ds=[.tup es])/\q (.int es.length)
theorem d9:fA K (fun xs H Q=>∃p ys,xs=[.ref p]/\(SqL K H p ys\/SqT K H p ys)/\Q (.int ys.length) H) Cr:=by
 rintro xs H ds q C r ⟨es,rfl | rfl,h⟩ hc
 ·obtain ⟨v,rfl,rv⟩:=rep1 r
  obtain ⟨a,vs,rfl,hq,rr⟩:=rv.sqL
  exact ⟨a,vs,rfl,.inl hq,by rw [rr.length];exact hc _ _ h fun _ _=>.int _⟩
 ·obtain ⟨v,rfl,rv⟩:=rep1 r
  obtain ⟨a,vs,rfl,hq,rr⟩:=rv.sqT
  exact ⟨a,vs,rfl,.inr hq,by rw [rr.length];exact hc _ _ h fun _ _=>.int _⟩
def Fz:List D->(D->Prop)->Prop:=fun ds q=>∃i,ds=[.int i]/\q (.int (if i < 0 then -i else i))
theorem As:fA K (fun xs H Q=>∃i,xs=[.int i]/\Q (.int (if i < 0 then -i else i)) H) Fz:=by
 rintro xs H ds q C r ⟨i,rfl,h⟩ hc
 obtain ⟨v,rfl,rv⟩:=rep1 r
 cases rv
 exact ⟨i,rfl,hc _ _ h fun _ _=>.int _⟩
def wMM (g:Int->Int->Int):List D->(D->Prop)->Prop:=fun ds q=>∃i j,ds=[.int i,.int j]/\q (.int (g i j))
theorem Ik {g:Int->Int->Int}:fA K (fun xs H Q=>∃i j,xs=[.int i,.int j]/\Q (.int (g i j)) H) (wMM g):=by
 rintro xs H ds q C r ⟨i,j,rfl,h⟩ hc
 obtain ⟨v,u,rfl,rv,ru⟩:=rep2 r
 cases rv;cases ru
 exact ⟨i,j,rfl,hc _ _ h fun _ _=>.int _⟩
def Il:List D->(D->Prop)->Prop:=fun ds q=>(∃i,ds=[.int i]/\q (.int i))\/∃k:Bool,ds=[.bl k]/\q (.int (if k then 1 else 0))
theorem Au:fA K (fun xs H Q=>(∃i,xs=[.int i]/\Q (.int i) H)\/∃k,xs=[.bl k]/\Q (.int (if k then 1 else 0)) H) Il:=by
 rintro xs H ds q C r (⟨i,rfl,h⟩ | ⟨i,rfl,h⟩) hc
 ·obtain ⟨v,rfl,rv⟩:=rep1 r
  cases rv
  exact .inl ⟨i,rfl,hc _ _ h fun _ _=>.int _⟩
 ·obtain ⟨v,rfl,rv⟩:=rep1 r
  cases rv
  exact .inr ⟨i,rfl,hc _ _ h fun _ _=>.int _⟩
def tyD:D->String
 | .int _=>"int" | .bl _=>"bool" | .non=>"NoneType" | .str _=>"str" | .tup _=>"tuple" | .lst _=>"list" | .ty _=>"type" | .dic _ _=>"dict" | .exc _=>"" | .dib _ _=>"dict" | .oth _=>""
def isE:D->Bool
 | .exc _=>true
 | .oth _=>true
 | _=>false
def xZ:List D->(D->Prop)->Prop:=fun ds q=>∃x c b,ds=[x,.ty c]/\(∀n,x≠.ty n)/\isE x=false/\rm (tyD x) c=some b/\q (.bl b)
theorem pU:fA K (Cf K) xZ:=by
 rintro xs H ds q C r ⟨x,c,b,rfl,hn,hE,e,h⟩ hc
 obtain ⟨v,u,rfl,rv,ru⟩:=rep2 r
 cases ru
 refine ⟨v,tyD x,c,b,rfl,?_,e,hc _ _ h fun _ _=>.bl _⟩
 cases rv with
 | int i=>exact .int i
 | bl i=>exact .bl i
 | non=>exact .non
 | str i=>exact .str i
 | ty i=>exact (hn _ rfl).elim
 | tup n h r=>exact .tup (.inl h)
 | tupK h r=>exact .tup (fZ h)
 | lst n f h r=>exact .lst (.inl (.inl h))
 | lstF n f h r=>exact .lst (.inl (.inr ⟨_,h⟩))
 | lstK f h r=>exact .lst (jd h)
 | dic n f h e _ r=>exact .dE h
 | exc n h e=>cases hE
 | oth h=>cases hE
 | dib n f h e _ _ r=>exact .dE h
theorem cN.one {r:VR} (h:cN K F Z U S H vs [r]):∃v,vs=[v]/\fq K F Z U S H v r:=by
 cases h with | cons h t=>cases t;exact ⟨_,rfl,h⟩
def pV (vr:VTA):VTN:=fun S Q=>vr S fun rs S1=>∃r ds,rs=[r]/\(get S1 r=some (.lst ds)\/get S1 r=some (.tup ds))/\flats ds=true/\Q ds S1
theorem gX {H0 H:Hp} {p:Addr} {o:HO} (hp:H p=none) (h:Reps K (NM Z U S) F H vs ds) (f:flats ds=true):Reps K (fun b=>NM Z U S b/\b≠p) (Fr H0) (upd H p o) vs ds:=
 cH hp (Reps.flat h f)
theorem gb (hK:X.K=K) (hg:Gl X "list") (hm:X.mg "list"=none) (ha:VA K X false [e] tr vr) (he:Jf [e] X.env=[(false,eval e X.env)]:=by rfl) :
  VN K X (.Call (.Name "list" p) [e] [] pos) (tCB (fun xs H Q=>∃p ys,xs=[.ref p]/\(SqL K H p ys\/SqT K H p ys)/\∀l,H l=none->Q (.ref l) (upd H l (.lst ys))) tr) (pV vr):=
 ⟨by subst hK;exact eV li hg hm xM ha.pe (by decide) (by decide) he rfl,fun H0 Z U H S Q C k t hc=>ha.snd H0 Z U H S _ _ k t fun vs H1 rs S1 k1 st1 rrs zq1=>by
  obtain ⟨r,ds,e1,e2,f,q⟩:=zq1
  subst e1
  obtain ⟨v,rfl,rv⟩:=rrs.one
  rcases e2 with e2 | e2
  ·obtain ⟨a,ys,rfl,hq,rr⟩:=rv.elems k1 e2
   exact ⟨a,ys,rfl,.inl hq,fun l hl=>hc l ys ds H1 _ S1 k1 st1 hl (aV hl) aJ (gX hl rr f) q⟩
  ·obtain ⟨a,ys,rfl,hq,rr⟩:=rv.elemsT k1 e2
   exact ⟨a,ys,rfl,.inr hq,fun l hl=>hc l ys ds H1 _ S1 k1 st1 hl (aV hl) aJ (gX hl rr f) q⟩⟩
def tJ (vr:VTA):VT:=fun S Q=>vr S fun rs S1=>∃r ds,rs=[r]/\(get S1 r=some (.lst ds)\/r=.d (.tup ds))/\flats ds=true/\Q (.d (.tup ds)) S1
theorem fH (hK:X.K=K) (hg:Gl X "tuple") (hm:X.mg "tuple"=none) (ha:VA K X false [e] tr vr) (he:Jf [e] X.env=[(false,eval e X.env)]:=by rfl) :
  VE K X m (.Call (.Name "tuple" p) [e] [] pos) (tCB (fun xs H Q=>∃p ys,xs=[.ref p]/\((SqL K H p ys/\∀l,H l=none->Q (.ref l) (upd H l (.tup ys)))\/(SqT K H p ys/\Q (.ref p) H))) tr) (tJ vr):=
 ⟨by subst hK;exact eV j6 hg hm i9 ha.pe (by decide) (by decide) he rfl,fun H0 Z U H S Q C k t hc=>ha.snd H0 Z U H S _ _ k t fun vs H1 rs S1 k1 st1 rrs zq1=>by
  obtain ⟨r,ds,e1,e2,f,q⟩:=zq1
  subst e1
  obtain ⟨v,rfl,rv⟩:=rrs.one
  rcases e2 with e2 | e2
  ·obtain ⟨a,ys,rfl,hq,rr⟩:=rv.elems k1 e2
   refine ⟨a,ys,rfl,.inl ⟨hq,fun l hl=>?_⟩⟩
   have g:=aV (o:=.tup ys) hl
   exact hc _ _ (.d (.tup ds)) S1 (k1.grow g) (st1.trans (.grow g)) (Rep.tup (k1.nm hl) (.inl aJ) ((Reps.flat rr f).mono (fun a n e=>⟨n,g a e⟩) fun _ x=>x)) q
  ·subst e2
   obtain ⟨a,ys,rfl,hq,rr⟩:=Rep.sqT (show Rep K _ _ H1 v (.tup ds) from rv)
   refine ⟨a,ys,rfl,.inr ⟨hq,hc _ _ (.d (.tup ds)) S1 k1 st1 ?_ q⟩⟩
   exact Rep.flat (show Rep K _ _ H1 _ (.tup ds) from rv) (by simpa [flat] using f)⟩
@[reducible] def eT (ms:List Int):D:=.tup (ms.map .int)
@[reducible] def eL (mss:List (List Int)):D:=.lst (mss.map eT)
theorem aW:∀ms:List Int,flats (ms.map D.int)=true
 | []=>rfl
 | _::r=>by simp [flats,flat,aW r]
theorem dG:∀mss:List (List Int),flats (mss.map eT)=true
 | []=>rfl
 | _::r=>by simp [flats,eT,flat,aW,dG r]
theorem kA {N:AP}:∀{vs:List V} {mss:List (List Int)},Reps K N F H vs (mss.map eT)->∃ps,vs=ps.map V.ref/\ja K H ps mss/\(∀p∈ps,H p=none->N p->False\/True)
 | _,[],.nil=>⟨[],rfl,.nil,fun _ h=>nomatch h⟩
 | _,ms::r,.cons h t=>by
  obtain ⟨ps,rfl,h1,h2⟩:=kA t
  obtain ⟨a,vs,rfl,hq,rr⟩:=Rep.sqT h
  cases Reps.toInts rr
  exact ⟨a::ps,rfl,.cons hq h1,fun _ _ _ _=>.inr trivial⟩
theorem gc {N:AP} (hN:∀p vs,Rd H p (.tup vs)->N p):∀{ps:List Addr} {mss:List (List Int)},ja K H ps mss->Reps K N F H (ps.map V.ref) (mss.map eT)
 | _,_,.nil=>.nil
 | _,_,.cons h t=>by
  refine .cons ?_ (gc hN t)
  rcases h with h | h
  ·exact .tup (hN _ _ h) h Reps.ints
  ·exact .tupK (.inr h) Reps.ints
theorem OK.tupN {H0 H:Hp} (k:OK K H0 Z U H S):∀p vs,Rd H p (.tup vs)->NM Z U S p:=fun p vs h z=>by
 have e:=k.mo z
 rcases h with h | ⟨o,h⟩ <;> rw [h] at e <;> exact e
end
def spP (K:IJ) (p:List D->(D->Prop)->Prop):Sp:=fun vs H Q _=>∃ds R,Reps K Any AnyF H vs ds/\p ds R/\∀d v H',R d->(∀a,H a≠none->H' a=H a)->Rep K Any (Fr H) H' v d->Q v H'
def spI (K:IJ) (j:Nat) (p:List Int->List D->(D->List Int->Prop)->Prop):Sp:=fun vs H Q _=>∃a ws us ns ds es R,vs=ws++.ref a::us/\ws.length=j/\H a=some (.lst (ns.map .int))/\Reps K (·≠a) AnyF H ws ds/\Reps K (·≠a) AnyF H us es/\p ns (ds++es) R /\
 ∀d ns' v H',R d ns'->(∀b,b≠a->H b≠none->H' b=H b)->H' a=some (.lst (ns'.map .int))->Rep K (·≠a) (Fr H) H' v d->Q v H'
section
variable {es:List Expr} {tr:TA} {vr:VTA} {x:Str} {p0:Pos} {j k:Nat} {ps:List Str}
def vFn (p:List D->(D->Prop)->Prop) (vr:VTA):VT:=fun S Q=>vr S fun rs S1=>∃ds,gets S1 rs=some ds/\p ds fun d=>Q (.d d) S1
def FA (p:List D->(D->Prop)->Prop) (vr:VTA):VTN:=fun S Q=>vr S fun rs S1=>∃ds,gets S1 rs=some ds/\p ds fun d=>∃es,d=.lst es/\flats es=true/\Q es S1
theorem aY (E:Has X.prog X.w X.K X.mg X.base k x ps (spP K p)) (hr:cg j X.A) (ha:VA K X false (e::es) tr vr)
  (hk:k<=j:=by decide) (hg:Gl X x:=by rfl) (hdb:(x==("__debug__":Str))=false:=by decide) (he:Jf (e::es) X.env=(false,eval e X.env)::Jf es X.env:=by rfl)
  (hpl:(K8 pos (Jf es X.env)).any (·.1)=false:=by rfl):VE K X m (.Call (.Name x p0) (e::es) [] pos) (iz (spP K p) [] E0 tr) (vFn p vr):=⟨kn E hr ha.pe hk hg hdb he hpl,fun H0 Z U H S Q C k t hc=>
 ha.snd H0 Z U H S _ _ k t fun vs H1 rs S1 k1 st1 rrs zq1=>by
  obtain ⟨ds,e,q⟩:=zq1
  refine ⟨ds,_,by rw [KL];exact rrs.gets k1 e,q,fun d v H' q g r=>?_⟩
  refine hc v H' (.d d) S1 (k1.grow g) (st1.trans (.grow g)) (show Rep K _ _ H' v d from ?_) q
  refine (Rep.avoid (N':=NM Z U S1) (fun a z=>?_) (fun a zq1=>by obtain ⟨b,e,f⟩:=zq1;cases e;exact k1.nm f) r).mono (fun _ n _=>⟨n,rfl⟩) (fun o zt1 _=>by obtain ⟨b,e,f⟩:=zt1;exact ⟨b,e,k1.dom b f⟩)
  have e:=k1.mo (Classical.not_not.mp z)
  rw [g a e.ne];exact e⟩
theorem FC (E:Has X.prog X.w X.K X.mg X.base k x ps (spP K p)) (hr:cg j X.A) (ha:VA K X false (e::es) tr vr)
  (hk:k<=j:=by decide) (hg:Gl X x:=by rfl) (hdb:(x==("__debug__":Str))=false:=by decide) (he:Jf (e::es) X.env=(false,eval e X.env)::Jf es X.env:=by rfl)
  (hpl:(K8 pos (Jf es X.env)).any (·.1)=false:=by rfl):VN K X (.Call (.Name x p0) (e::es) [] pos) (iz (spP K p) [] E0 tr) (FA p vr):=⟨kn E hr ha.pe hk hg hdb he hpl,fun H0 Z U H S Q C k t hc=>
 ha.snd H0 Z U H S _ _ k t fun vs H1 rs S1 k1 st1 rrs zq1=>by
  obtain ⟨ds,e,q⟩:=zq1
  refine ⟨ds,_,by rw [KL];exact rrs.gets k1 e,q,fun d v H' ⟨es,ed,hf,q⟩ g r=>?_⟩
  subst ed
  have r2:=Rep.avoid (N':=NM Z U S1) (fun a z=>by
   have e:=k1.mo (Classical.not_not.mp z)
   rw [g a e.ne];exact e) (fun a zq1=>by obtain ⟨b,e,f⟩:=zq1;cases e;exact k1.nm f) r
  cases r2 with
  | @lst a ws _ n f h rs=>
   obtain ⟨b,e,f⟩:=f
   cases e
   refine hc a ws es H1 H' S1 k1 st1 f g h ?_ q
   refine (Reps.avoid (N':=fun b=>NM Z U S1 b/\b≠a) (fun b z=>?_) (fun b fb=>fb.elim) (Reps.flat (F':=fun _=>False) rs hf)).mono (fun _ n _=>⟨n,rfl⟩) (fun o f=>f.elim)
   by_cases hb:b=a
   ·subst hb;rw [h];trivial
   ·have e:=k1.mo (JE fun y=>z ⟨y,hb⟩)
    rw [g b e.ne];exact e
  | lstF n f h rs=>obtain ⟨b,e,f⟩:=f;cases e
  | lstK f h rs=>obtain ⟨b,e,f⟩:=f;cases e⟩
end
end
end VL
end
section
namespace VL
open PySem L2
section
variable {K:IJ} {H H' H0:Hp} {Z:AP} {U:St} {S:List Sl}
theorem OK.put (k:OK K H0 Z U H S) {i:Nat} {o:Option V} {s:Sl} (hi:i < S.length)
  (hN:∀a,NM Z U S a->H a≠none->NM Z (U.set i o) (S.set i s) a/\H' a=H a)
  (hM:∀j s',j≠i->S[j]?=some s'->s'.mut=true->∀a,U[j]?=some (some (V.ref a))->H' a=H a)
  (hs:rn K H0 (NM Z (U.set i o) (S.set i s)) H' o s)
  (hj:∀j a t,j≠i->S[j]?=some t->t.mut=true->s.mut=true->o=some (V.ref a)->U[j]?≠some (some (V.ref a)))
  (hd:∀a,H' a=none->H a=none) (hz:∀a,Z a->IsM (H' a)) (hnz:∀a,s.mut=true->o=some (V.ref a)->¬Z a):OK K H0 Z (U.set i o) H' (S.set i s) where
 len:=by simp [k.len]
 dom:=fun a e=>k.dom a (hd a e)
 zl:=hz
 nz:=fun j t a h1 h2 h3=>by
  have hi':i < U.length:=by rw [k.len];exact hi
  by_cases hji:i=j
  ·subst hji
   rw [JJ hi] at h1
   rw [JJ hi'] at h3
   cases h1
   exact hnz a h2 (Jx h3)
  ·rw [JO hji] at h1 h3
   exact k.nz j t a h1 h2 h3
 inj:=fun a b c t u h1 h2 m1 m2 h3 h4=>by
  have hi':i < U.length:=by rw [k.len];exact hi
  by_cases ha:i=a
  ·by_cases hb:i=b
   ·lia
   ·subst ha
    rw [JJ hi] at h1
    rw [JJ hi'] at h3
    rw [JO hb] at h2 h4
    cases h1
    exact (hj b c u (fun z=>hb z.symm) h2 m2 m1 (Jx h3) h4).elim
  ·by_cases hb:i=b
   ·subst hb
    rw [JJ hi] at h2
    rw [JJ hi'] at h4
    rw [JO ha] at h1 h3
    cases h2
    exact (hj a c t (fun z=>ha z.symm) h1 m1 m2 (Jx h4) h3).elim
   ·rw [JO ha] at h1 h3
    rw [JO hb] at h2 h4
    exact k.inj a b c t u h1 h2 m1 m2 h3 h4
 at_:=fun j o' s' h1 h2=>by
  have hi':i < U.length:=by rw [k.len];exact hi
  by_cases hji:i=j
  ·subst hji
   rw [JJ hi'] at h1
   rw [JJ hi] at h2
   cases h1;cases h2
   exact hs
  ·rw [JO hji] at h1 h2
   have q:=k.at_ j o' s' h1 h2
   cases s' with
   | no=>trivial
   | val d=>obtain ⟨v,e,r⟩:=q;exact ⟨v,e,r.mono hN fun _ x=>x⟩
   | fre d=>obtain ⟨v,e,r⟩:=q;exact ⟨v,e,r.mono hN fun _ x=>x⟩
   | own ds=>
    obtain ⟨a,vs,e,e',e0,r⟩:=q
    exact ⟨a,vs,e,by rw [hM j _ (fun z=>hji z.symm) h2 rfl a (by rw [h1,e])];exact e',e0,r.mono hN fun _ x=>x⟩
   | pen ad ns=>
    obtain ⟨a,e,e1,e'⟩:=q
    exact ⟨a,e,e1,by rw [hM j _ (fun z=>hji z.symm) h2 rfl a (by rw [h1,e])];exact e'⟩
   | odi ks ds=>
    obtain ⟨a,vs,e,e',e0,ek,r⟩:=q
    exact ⟨a,vs,e,by rw [hM j _ (fun z=>hji z.symm) h2 rfl a (by rw [h1,e])];exact e',e0,⟨ek.1,ek.2.mono hN fun _ x=>x⟩,r.mono hN fun _ x=>x⟩
   | obj k=>
    obtain ⟨a,e,e0,r⟩:=q
    exact ⟨a,e,e0,k.mono hN (hM j _ (fun z=>hji z.symm) h2 rfl a (by rw [h1,e])) r⟩
theorem lw {i:Nat} {o:Option V} {s:Sl} {a:Addr} (h:Mo Z (U.set i o) (S.set i s) a):Mo Z U S a\/(s.mut=true/\o=some (V.ref a)):=by
 rcases h with ⟨j,t,h1,h2,h3⟩ | h
 ·by_cases hji:i=j
  ·subst hji
   have l1:=(List.getElem?_eq_some_iff.mp h1).1
   have l2:=(List.getElem?_eq_some_iff.mp h3).1
   rw [Na] at l1 l2
   rw [JJ l1] at h1
   rw [JJ l2] at h3
   cases h1
   exact .inr ⟨h2,Jx h3⟩
  ·rw [JO hji] at h1 h3
   exact .inl (.inl ⟨j,t,h1,h2,h3⟩)
 ·exact .inl (.inr h)
theorem OK.setVal (k:OK K H0 Z U H S) {i:Nat} (hi:i < S.length) (h:Rep K (NM Z U S) AnyF H v d):OK K H0 Z (U.set i (some v)) H (S.set i (.val d))/\Step Z U S H (U.set i (some v)) (S.set i (.val d)) H:=by
 have n:∀a,NM Z U S a->NM Z (U.set i (some v)) (S.set i (.val d)) a:=fun a x z=>by
  rcases lw z with z | ⟨z,_⟩
  ·exact x z
  ·cases z
 exact ⟨k.put hi (fun a x _=>⟨n a x,rfl⟩) (fun _ _ _ _ _ _ _=>rfl) ⟨v,rfl,h.mono (fun a x _=>⟨n a x,rfl⟩) fun _ x=>x⟩ (fun _ _ _ _ _ _ z=>nomatch z) (fun _ e=>e) k.zl (fun _ z=>nomatch z),fun a x _=>⟨rfl,n a x⟩,fun _ e=>e,fun _ _ _=>rfl⟩
theorem OK.setNew (k:OK K H0 Z U H S) {i:Nat} {a:Addr} {s:Sl} (hi:i < S.length) (ha:H a=none) (hg:∀b,H b≠none->H' b=H b) (hs:rn K H0 (fun b=>NM Z U S b/\b≠a) H' (some (.ref a)) s) (hm:s.mut=true) :
  OK K H0 Z (U.set i (some (.ref a))) H' (S.set i s)/\Step Z U S H (U.set i (some (.ref a))) (S.set i s) H':=by
 have n:∀b,NM Z U S b/\b≠a->NM Z (U.set i (some (.ref a))) (S.set i s) b:=fun b x z=>by
  rcases lw z with z | ⟨_,z⟩
  ·exact x.1 z
  ·cases z;exact x.2 rfl
 have n':∀b,NM Z U S b->H b≠none->NM Z (U.set i (some (.ref a))) (S.set i s) b:=fun b x e=>n b ⟨x,fun z=>e (by rw [z];exact ha)⟩
 refine ⟨k.put hi (fun b x e=>⟨n' b x e,hg b e⟩) (fun j s' hj h1 h2 b h3=>?_) ?_ (fun j b t hj h1 h2 h3 h4 h5=>?_) (fun b e=>JE fun z=>by rw [hg b z] at e;exact z e) (fun b z=>?_) (fun b h1 h2 z=>?_),fun b x e=>⟨hg b e,n' b x e⟩,fun b e=>JE fun z=>by rw [hg b z] at e;exact z e,fun b z e=>hg b e⟩
 ·have e:=k.mo (.inl ⟨j,s',h1,h2,h3⟩)
  exact hg b e.ne
 ·cases s with
  | no=>trivial
  | val d=>cases hm
  | fre d=>cases hm
  | own ds=>obtain ⟨b,vs,e,e',e0,r⟩:=hs;exact ⟨b,vs,e,e',e0,r.mono (fun c x _=>⟨n c x,rfl⟩) fun _ x=>x⟩
  | pen ad ns=>exact hs
  | obj k=>obtain ⟨b,e,e0,r⟩:=hs;exact ⟨b,e,e0,k.mono (fun c x _=>⟨n c x,rfl⟩) rfl r⟩
  | odi ks ds=>obtain ⟨b,vs,e,e',e0,ek,r⟩:=hs;exact ⟨b,vs,e,e',e0,⟨ek.1,ek.2.mono (fun c x _=>⟨n c x,rfl⟩) fun _ x=>x⟩,r.mono (fun c x _=>⟨n c x,rfl⟩) fun _ x=>x⟩
 ·cases h4
  have e:=k.mo (.inl ⟨j,t,h1,h2,h5⟩)
  rw [ha] at e;exact e
 ·have e:=k.zl b z
  rw [hg b e.ne];exact e
 ·cases h2
  have e:=k.zl _ z
  rw [ha] at e;exact e
theorem tK {α:Type} {l:List α} {i:Nat} {o:α} (h:l[i]?=some o):l.set i o=l:=by
 obtain ⟨h1,rfl⟩:=List.getElem?_eq_some_iff.mp h
 exact List.set_getElem_self h1
theorem OK.chgD (k:OK K H0 Z U H S) {i:Nat} {a:Addr} {s₀ s:Sl} {o:HO} (h1:S[i]?=some s₀) (h2:s₀.mut=true) (h3:U[i]?=some (some (.ref a))) (hm:s.mut=true) (hs:rn K H0 (NM Z U S) (upd H a o) (some (.ref a)) s) :
  OK K H0 Z U (upd H a o) (S.set i s)/\Step Z U S H U (S.set i s) (upd H a o):=by
 have hi:i < S.length:=(List.getElem?_eq_some_iff.mp h1).1
 have ma:Mo Z U S a:=.inl ⟨i,s₀,h1,h2,h3⟩
 have ea:=k.mo ma
 have hza:¬Z a:=k.nz i s₀ a h1 h2 h3
 have e3:=tK h3
 have n:∀b,NM Z U S b->NM Z U (S.set i s) b:=fun b x z=>by
  rw [<- e3] at z
  rcases lw z with z | ⟨_,z⟩
  ·exact x z
  ·cases z;exact x ma
 have ne:∀b,NM Z U S b->b≠a:=fun b x z=>x (by rw [z];exact ma)
 have q:=k.put (H':=upd H a o) (i:=i) (o:=some (.ref a)) (s:=s) hi (fun b x e=>⟨by rw [e3];exact n b x,aL (ne b x)⟩) (fun j s' hj g1 g2 b g3=>aL fun z=>hj (by subst z;exact k.inj j i b s' s₀ g1 h1 g2 h2 g3 h3)) (by
  rw [e3]
  cases s with
  | no=>trivial
  | val d=>cases hm
  | fre d=>cases hm
  | own ds=>obtain ⟨b,vs,e,e',e0,r⟩:=hs;exact ⟨b,vs,e,e',e0,r.mono (fun c x _=>⟨n c x,rfl⟩) fun _ x=>x⟩
  | pen ad ns=>exact hs
  | obj k=>obtain ⟨b,e,e0,r⟩:=hs;exact ⟨b,e,e0,k.mono (fun c x _=>⟨n c x,rfl⟩) rfl r⟩
  | odi ks ds=>obtain ⟨b,vs,e,e',e0,ek,r⟩:=hs;exact ⟨b,vs,e,e',e0,⟨ek.1,ek.2.mono (fun c x _=>⟨n c x,rfl⟩) fun _ x=>x⟩,r.mono (fun c x _=>⟨n c x,rfl⟩) fun _ x=>x⟩) (fun j b t hj g1 g2 g3 g4 g5=>by
   cases g4
   exact hj (k.inj j i a t s₀ g1 h1 g2 h2 g5 h3)) (fun b e=>by
   by_cases hb:b=a
   ·subst hb;rw [aJ] at e;cases e
   ·rw [aL hb] at e;exact e) (fun b z=>by
   by_cases hb:b=a
   ·subst hb;exact (hza z).elim
   ·have e:=k.zl b z
    rw [aL hb];exact e) (fun b _ e=>by cases e;exact hza)
 rw [e3] at q
 refine ⟨q,fun b x e=>⟨aL (ne b x),n b x⟩,fun b e=>?_,fun b z e=>aL fun y=>hza (by rw [<- y];exact z)⟩
 by_cases hb:b=a
 ·subst hb;rw [aJ] at e;cases e
 ·rw [aL hb] at e;exact e
theorem OK.chg (k:OK K H0 Z U H S) {i:Nat} {a:Addr} {s₀ s:Sl} {o:HO} (h1:S[i]?=some s₀) (h2:s₀.mut=true) (h3:U[i]?=some (some (.ref a))) (ho:∃us,o=.lst us) (hm:s.mut=true) (hs:rn K H0 (NM Z U S) (upd H a o) (some (.ref a)) s) :
  OK K H0 Z U (upd H a o) (S.set i s)/\Step Z U S H U (S.set i s) (upd H a o):=k.chgD h1 h2 h3 hm hs
end
structure ba where
 nx:List Sl->Prop
 rt:D->List Sl->Prop
 bk:List Sl->Prop:=fun _=>False
 ct:List Sl->Prop:=fun _=>False
abbrev VTS:=ba->List Sl->Prop
def NP (U:St) (S:List Sl):AP:=fun a=>∀(i:Nat) (ad:Option Addr) (ns:List Int),S[i]?=some (.pen ad ns)->U[i]?≠some (some (V.ref a))
structure Lf (K:IJ) (H0:Hp) (Z:AP) (U:St) (S:List Sl) (H:Hp) (V:ba) (E:Ends):Prop where
 nx:∀ U' H' S',OK K H0 Z U' H' S'->Step Z U S H U' S' H'->V.nx S'->E.nx U' H'
 bk:∀ U' H' S',OK K H0 Z U' H' S'->Step Z U S H U' S' H'->V.bk S'->E.bk U' H'
 ct:∀ U' H' S',OK K H0 Z U' H' S'->Step Z U S H U' S' H'->V.ct S'->E.ct U' H'
 rt:∀v d U' H' S',OK K H0 Z U' H' S'->Step Z U S H U' S' H'->Rep K (NP U' S') (Fr H0) H' v d->V.rt d S'->E.rt v H'
theorem Lf.step {H0 H H1:Hp} {U U1:St} {S S1:List Sl} {V:ba} {E:Ends} (l:Lf K H0 Z U S H V E) (st:Step Z U S H U1 S1 H1):Lf K H0 Z U1 S1 H1 V E:=
 ⟨fun _ _ _ k s=>l.nx _ _ _ k (st.trans s),fun _ _ _ k s=>l.bk _ _ _ k (st.trans s),fun _ _ _ k s=>l.ct _ _ _ k (st.trans s),fun _ _ _ _ _ k s=>l.rt _ _ _ _ _ k (st.trans s)⟩
def Cs (K:IJ) (ts:TS) (t:VTS):Prop:=∀H0 Z U H S V E,OK K H0 Z U H S->t V S->Lf K H0 Z U S H V E->ts E U H
structure VS (K:IJ) (X:Cx) (st:Stmt) (ts:TS) (t:VTS):Prop where
 ps:PS X st ts
 snd:Cs K ts t
structure VSs (K:IJ) (X:Cx) (st:List Stmt) (ts:TS) (t:VTS):Prop where
 ps:PSs X st ts
 snd:Cs K ts t
inductive Wk:List Sl->List Sl->Prop where
 | nil:Wk [] []
 | keep {s:Sl} {S S':List Sl}:Wk S S'->Wk (s::S) (s::S')
 | fz {ds:List D} {S S':List Sl}:Wk S S'->Wk (.own ds::S) (.val (.lst ds)::S')
 | fd {ks:List (List Int)} {ds:List D} {S S':List Sl}:Wk S S'->Wk (.odi ks ds::S) (.val (.dic ks ds)::S')
 | drop {s:Sl} {S S':List Sl}:Wk S S'->Wk (s::S) (.no::S')
theorem Wk.refl:∀S,Wk S S
 | []=>.nil
 | _::r=>.keep (Wk.refl r)
theorem Wk.len {S S':List Sl} (h:Wk S S'):S.length=S'.length:=by induction h <;> simp_all
theorem Wk.at_ {S S':List Sl} (h:Wk S S'):∀{i:Nat} {s:Sl},S'[i]?=some s->∃s₀,S[i]?=some s₀/\(s=s₀\/s=.no\/(∃ds,s₀=.own ds/\s=.val (.lst ds))\/∃ks ds,s₀=.odi ks ds/\s=.val (.dic ks ds)):=by
 induction h with
 | nil=>intro i s h;simp at h
 | keep h ih=>
  intro i s e
  cases i with
  | zero=>simp at e;subst e;exact ⟨_,rfl,.inl rfl⟩
  | succ i=>simpa using ih (i:=i) (by simpa using e)
 | fz h ih=>
  intro i s e
  cases i with
  | zero=>simp at e;subst e;exact ⟨_,rfl,.inr (.inr (.inl ⟨_,rfl,rfl⟩))⟩
  | succ i=>simpa using ih (i:=i) (by simpa using e)
 | fd h ih=>
  intro i s e
  cases i with
  | zero=>simp at e;subst e;exact ⟨_,rfl,.inr (.inr (.inr ⟨_,_,rfl,rfl⟩))⟩
  | succ i=>simpa using ih (i:=i) (by simpa using e)
 | drop h ih=>
  intro i s e
  cases i with
  | zero=>simp at e;subst e;exact ⟨_,rfl,.inr (.inl rfl)⟩
  | succ i=>simpa using ih (i:=i) (by simpa using e)
theorem Wk.mut {S S':List Sl} (h:Wk S S') {i:Nat} {s:Sl} (e:S'[i]?=some s) (m:s.mut=true):S[i]?=some s:=by
 obtain ⟨s₀,h1,rfl | rfl | ⟨ds,rfl,rfl⟩ | ⟨ks,ds,rfl,rfl⟩⟩:=h.at_ e
 ·exact h1
 ·cases m
 ·cases m
 ·cases m
theorem OK.wk {H H0:Hp} {S S':List Sl} (k:OK K H0 Z U H S) (w:Wk S S'):OK K H0 Z U H S'/\Step Z U S H U S' H:=by
 have n:∀a,NM Z U S a->NM Z U S' a:=fun a x z=>by
  rcases z with ⟨i,s,h1,h2,h3⟩ | z
  ·exact x (.inl ⟨i,s,w.mut h1 h2,h2,h3⟩)
  ·exact x (.inr z)
 refine ⟨⟨by rw [k.len,w.len],fun i o s h1 h2=>?_,fun i j a s t h1 h2 m1 m2 h3 h4=>k.inj i j a s t (w.mut h1 m1) (w.mut h2 m2) m1 m2 h3 h4,k.dom,k.zl,fun i s a h1 m h3=>k.nz i s a (w.mut h1 m) m h3⟩,fun a x _=>⟨rfl,n a x⟩,fun _ e=>e,fun _ _ _=>rfl⟩
 obtain ⟨s₀,e,rfl | rfl | ⟨ds,rfl,rfl⟩ | ⟨ks,ds,rfl,rfl⟩⟩:=w.at_ h2
 ·have q:=k.at_ i o s h1 e
  cases s with
  | no=>trivial
  | val d=>obtain ⟨v,e,r⟩:=q;exact ⟨v,e,r.mono (fun a x _=>⟨n a x,rfl⟩) fun _ x=>x⟩
  | fre d=>obtain ⟨v,e,r⟩:=q;exact ⟨v,e,r.mono (fun a x _=>⟨n a x,rfl⟩) fun _ x=>x⟩
  | own ds=>obtain ⟨a,vs,e,e',e0,r⟩:=q;exact ⟨a,vs,e,e',e0,r.mono (fun a x _=>⟨n a x,rfl⟩) fun _ x=>x⟩
  | pen ad ns=>exact q
  | odi ks ds=>obtain ⟨a,vs,e,e',e0,ek,r⟩:=q;exact ⟨a,vs,e,e',e0,⟨ek.1,ek.2.mono (fun a x _=>⟨n a x,rfl⟩) fun _ x=>x⟩,r.mono (fun a x _=>⟨n a x,rfl⟩) fun _ x=>x⟩
  | obj k=>obtain ⟨a,e,e0,r⟩:=q;exact ⟨a,e,e0,k.mono (fun a x _=>⟨n a x,rfl⟩) rfl r⟩
 ·trivial
 ·obtain ⟨a,vs,e1,e2,e3,r⟩:=k.at_ i o _ h1 e
  subst e1
  refine ⟨.ref a,rfl,.lst ?_ trivial e2 (r.mono (fun a x _=>⟨n a x,rfl⟩) fun _ _=>trivial)⟩
  intro z
  rcases z with ⟨j,s,g1,g2,g3⟩ | z
  ·have:=k.inj i j a _ s e (w.mut g1 g2) rfl g2 h1 g3
   subst this
   rw [h2] at g1;cases g1;cases g2
  ·exact k.nz i _ a e rfl h1 z
 ·obtain ⟨a,vs,e1,⟨ob,e2⟩,e3,ek,r⟩:=k.at_ i o _ h1 e
  subst e1
  refine ⟨.ref a,rfl,.dic ?_ trivial e2 ek.1 (ek.2.mono (fun a x _=>⟨n a x,rfl⟩) fun _ _=>trivial) (r.mono (fun a x _=>⟨n a x,rfl⟩) fun _ _=>trivial)⟩
  intro z
  rcases z with ⟨j,s,g1,g2,g3⟩ | z
  ·have:=k.inj i j a _ s e (w.mut g1 g2) rfl g2 h1 g3
   subst this
   rw [h2] at g1;cases g1;cases g2
  ·exact k.nz i _ a e rfl h1 z
section
variable {K:IJ} {X:Cx} {m:Bool} {e a b c:Expr} {ta tb tc te:TE} {va vb vc:VT} {pos:Pos} {st:Stmt} {rest:List Stmt} {t u:TS} {v w:VTS}
def Av:VTS:=fun V S=>V.nx S
def x4 (t u:VTS):VTS:=fun V S=>t { V with nx:=fun S'=>∃S'',Wk S' S''/\u V S'' } S
theorem aD:VSs K X [] Aj Av:=⟨xp,fun H0 Z U H S V E k h l=>l.nx U H S k .refl h⟩
theorem ak (h:VS K X st t v):VSs K X [st] t v:=⟨xq h.ps,h.snd⟩
theorem ah (h1:VS K X st t v) (h2:VSs K X rest u w):VSs K X (st::rest) (ER t u) (x4 v w):=⟨sL h1.ps h2.ps,fun H0 Z U H S V E k h l=>
 h1.snd H0 Z U H S _ _ k h ⟨fun U' H' S' k' st zt1=>by obtain ⟨S'',wk,q⟩:=zt1;exact h2.snd H0 Z U' H' S'' V E (k'.wk wk).1 q (l.step (st.trans (k'.wk wk).2)),l.bk,l.ct,l.rt⟩⟩
def Ct:VTS:=fun _ _=>False
theorem tL:VS K X st sM Ct:=⟨sN,fun _ _ _ _ _ _ _ _ h _=>h.elim⟩
def Aw (va:VT):VTS:=fun V S=>va S fun _ S1=>V.nx S1
theorem de (h:VE K X false e te va) (hs:LW e none pos.line X.env=pure false:=by rfl):VS K X (.Expr e pos) (Ak te) (Aw va):=⟨xr h.pe hs,fun H0 Z U H S V E k t l=>h.snd H0 Z U H S _ _ k t fun v H' r S' k' st _ q=>l.nx U H' S' k' st q⟩
def retO:Option Sl->Option D
 | some (.own ds)=>some (.lst ds)
 | some (.odi ks ds)=>some (.dic ks ds)
 | _=>none
def retD (S:List Sl):VR->Option D
 | .d x=>some x
 | .own i=>retO S[i]?
def FD (va:VT):VTS:=fun V S=>va S fun r S1=>∃d,retD S1 r=some d/\V.rt d S1
theorem OK.ret {H0 H:Hp} {v:V} (k:OK K H0 Z U H S) (h:fq K (FM H0 true) Z U S H v r) (e:retD S r=some d):Rep K (NP U S) (Fr H0) H v d:=by
 have np:∀a,NM Z U S a->NP U S a:=fun a n i ad ns h1 h2=>n (.inl ⟨i,_,h1,rfl,h2⟩)
 cases r with
 | d x=>cases e;exact Rep.mono (fun a n _=>⟨np a n,rfl⟩) (fun _ x=>x rfl) h
 | own i=>
  have h:U[i]?=some (some v):=h
  have e:retO S[i]?=some d:=e
  cases es:S[i]? with
  | none=>rw [es] at e;cases e
  | some s=>
   rw [es] at e
   cases s with
   | fre d=>cases e
   | own ds=>
    cases e
    obtain ⟨a,vs,h1,h2,h3,h4⟩:=k.at_ _ _ _ h es
    cases h1
    refine .lst (fun i2 ad ns g1 g2=>?_) ⟨a,rfl,h3⟩ h2 (h4.mono (fun a n _=>⟨np a n,rfl⟩) fun _ x=>x)
    have:=k.inj _ _ a _ _ es g1 rfl rfl h g2
    subst this
    rw [es] at g1;cases g1
   | odi ks ds=>
    cases e
    obtain ⟨a,vs,h1,⟨ob,h2⟩,h3,hk,h4⟩:=k.at_ _ _ _ h es
    cases h1
    refine .dic (fun i2 ad ns g1 g2=>?_) ⟨a,rfl,h3⟩ h2 hk.1 (Reps.flat (hk.2.mono (fun a n _=>⟨np a n,rfl⟩) fun _ x=>x) (jc _)) (h4.mono (fun a n _=>⟨np a n,rfl⟩) fun _ x=>x)
    have:=k.inj _ _ a _ _ es g1 rfl rfl h g2
    subst this
    rw [es] at g1;cases g1
   | no=>cases e
   | val x=>cases e
   | pen a b=>cases e
   | obj k=>cases e
theorem ay (h:VE K X true e te va):VS K X (.Return (some e) pos) (ES te) (FD va):=⟨BS h.pe,fun H0 Z U H S V E k t l=>h.snd H0 Z U H S _ _ k t fun v H' r S' k' st rr zt1=>by obtain ⟨d,e,q⟩:=zt1;exact l.rt v d U H' S' k' st (k'.ret rr e) q⟩
def FE (c:VTT) (t u:VTS):VTS:=fun V S=>c S fun b S1=>if b=true then t V S1 else u V S1
theorem aR {A B:List Stmt} {tA:TT} {wA:VTT} (hc:VTe K X c tA wA) (ha:VSs K X A t v) (hb:VSs K X B u w):VS K X (.If c A B pos) (ET tA t u) (FE wA v w):=⟨EU hc.pe ha.ps hb.ps,fun H0 Z U H S V E k t l=>
 hc.snd H0 Z U H S _ _ k t fun b H1 S1 k1 st1 q=>by
  cases b with
  | true=>rw [if_pos rfl] at q ⊢;exact ha.snd H0 Z U H1 S1 V E k1 q (l.step st1)
  | false=>rw [if_neg IT] at q ⊢;exact hb.snd H0 Z U H1 S1 V E k1 q (l.step st1)⟩
abbrev VG:=D->List Sl->(List Sl->Prop)->Prop
def SndG (K:IJ) (g:TG) (vg:VG):Prop:=∀H0 Z U H S v d Q C,OK K H0 Z U H S->Rep K (NM Z U S) AnyF H v d->vg d S Q->(∀ U' H' S',OK K H0 Z U' H' S'->Step Z U S H U' S' H'->Q S'->C U' H')->g v U H C
def FF (g:TG):Prop:=∀x U H Q1 Q2,(∀ U H,Q1 U H->Q2 U H)->g x U H Q1->g x U H Q2
def Cu (g:TGs):Prop:=∀x U H Q1 Q2,(∀ U H,Q1 U H->Q2 U H)->g x U H Q1->g x U H Q2
structure VGe (K:IJ) (X:Cx) (e:Expr) (g:TG) (vg:VG):Prop where
 pg:PG X e g
 snd:SndG K g vg
 mono:FF g
def vgN (i:Nat):VG:=fun d S Q=>i < S.length/\Q (S.set i (.val d))
theorem aq {i:Nat} (h:PG X e (bJ i)):VGe K X e (bJ i) (vgN i):=⟨h,fun H0 Z U H S v d Q C k r zt1 hc=>by obtain ⟨hi,q⟩:=zt1;exact hc _ _ _ (k.setVal hi r).1 (k.setVal hi r).2 q,fun _ _ _ _ _ h q=>h _ _ q⟩
def FG (K:IJ) (g:TGs) (vg:List D->List Sl->(List Sl->Prop)->Prop):Prop:=∀H0 Z U H S vs ds Q C,OK K H0 Z U H S->Reps K (NM Z U S) AnyF H vs ds->vg ds S Q->(∀ U' H' S',OK K H0 Z U' H' S'->Step Z U S H U' S' H'->Q S'->C U' H')->g vs U H C
structure VGs (K:IJ) (X:Cx) (es:List Expr) (g:TGs) (vg:List D->List Sl->(List Sl->Prop)->Prop):Prop where
 pg:PGs X es g
 snd:FG K g vg
 mono:Cu g
def Ax:List D->List Sl->(List Sl->Prop)->Prop:=fun ds S Q=>ds=[]/\Q S
def tM (t:VG) (u:List D->List Sl->(List Sl->Prop)->Prop):List D->List Sl->(List Sl->Prop)->Prop:=fun ds S Q=>∃d r,ds=d::r/\t d S fun S1=>u r S1 Q
theorem bf:VGs K X [] sO Ax:=⟨xt,fun H0 Z U H S vs ds Q C k r zq1 hc=>by obtain ⟨e,q⟩:=zq1;subst e;cases r;exact ⟨rfl,hc _ _ _ k .refl q⟩,fun _ _ _ _ _ h q=>⟨q.1,h _ _ q.2⟩⟩
theorem az {es:List Expr} {g:TG} {gs:TGs} {vg:VG} {vgs:List D->List Sl->(List Sl->Prop)->Prop} (h1:VGe K X e g vg) (h2:VGs K X es gs vgs) (hs:(K9 (e::es) X.env).map (·.2)=Oe e X.env::(K9 es X.env).map (·.2):=by rfl) :
  VGs K X (e::es) (iy g gs) (tM vg vgs):=⟨sP h1.pg h2.pg hs,fun H0 Z U H S vs ds Q C k r zq1 hc=>by
 obtain ⟨d,rd,e,q⟩:=zq1
 subst e
 cases r with
 | cons rv rr=>exact ⟨_,_,rfl,h1.snd H0 Z U H S _ _ _ _ k rv q fun U1 H1 S1 k1 st1 q1=>h2.snd H0 Z U1 H1 S1 _ _ _ _ k1 (rr.step st1) q1 fun U2 H2 S2 k2 st2 q2=>hc _ _ _ k2 (st1.trans st2) q2⟩,fun x U H Q1 Q2 h zt1=>by obtain ⟨v,r,e,q⟩:=zt1;exact ⟨v,r,e,h1.mono _ _ _ _ _ (fun U' H' q'=>h2.mono _ _ _ _ _ h q') q⟩⟩
def vgT (n:Nat) (u:List D->List Sl->(List Sl->Prop)->Prop):VG:=fun d S Q=>∃ds,d=.tup ds/\ds.length=n/\u ds S Q
theorem bF {es:List Expr} {kk:Nat} {gs:TGs} {vgs:List D->List Sl->(List Sl->Prop)->Prop} {n:Nat} (hK:X.K=K) (hc:X.calm=true) (h:VGs K X es gs vgs) (hn:(K9 es X.env).length=n:=by rfl) (hst:(K9 es X.env).findIdx? (·.1)=none:=by rfl) :
  VGe K X (.Tuple es kk pos) (sQ K n gs) (vgT n vgs):=⟨by subst hK;exact BV hc h.pg hn hst,fun H0 Z U H S v d Q C k r zq1 hcc=>by
 obtain ⟨ds,e,hl,q⟩:=zq1
 subst e
 obtain ⟨a,vs,rfl,hq,rr⟩:=r.sqT
 exact ⟨a,vs,rfl,hq,by rw [rr.length];exact hl,h.snd H0 Z U H S _ _ _ _ k rr q hcc⟩,fun x U H Q1 Q2 hh zt1=>by obtain ⟨a,xs,e1,e2,e3,q⟩:=zt1;exact ⟨a,xs,e1,e2,e3,h.mono _ _ _ _ _ hh q⟩⟩
def rp (va:VT) (g:VG):VTS:=fun V S=>va S fun r S1=>∃d,r=.d d/\g d S1 V.nx
theorem ou {g:TG} {vg:VG} (ha:SndE K m te va) (hg:SndG K g vg):Cs K (dD te g) (rp va vg):=fun H0 Z U H S V E k t l=>ha H0 Z U H S _ _ k t fun v H1 r S1 k1 st1 rr zq1=>by
 obtain ⟨d,e,q⟩:=zq1
 subst e
 exact hg H0 Z U H1 S1 v d _ _ k1 (Rep.mono (fun _ n _=>⟨n,rfl⟩) (fun _ _=>trivial) rr) q fun U2 H2 S2 k2 st2 q2=>l.nx U2 H2 S2 k2 (st1.trans st2) q2
theorem Cv {i:Nat} {x:Str} {pos':Pos} (ps:∀te,PE X e te->PS X (.Assign [.Name x pos'] e pos) (dD te (bJ i))) (h:VE K X false e te va):VS K X (.Assign [.Name x pos'] e pos) (dD te (bJ i)) (rp va (vgN i)):=
 ⟨ps te h.pe,ou h.snd fun H0 Z U H S v d Q C k r zt1 hc=>by obtain ⟨hi,q⟩:=zt1;exact hc _ _ _ (k.setVal hi r).1 (k.setVal hi r).2 q⟩
theorem gY {tg:Expr} {g:TG} {vg:VG} (h:VE K X false e te va) (hg:VGe K X tg g vg) (hs:MT [tg] e pos.line X.env=pure false:=by rfl) (hw:MU [tg] e X.env=pure none:=by rfl)
  (h1:(K9 [tg] X.env).map (·.2)=[Oe tg X.env]:=by rfl):VS K X (.Assign [tg] e pos) (dD te g) (rp va vg):=⟨nX h.pe hg.pg hs hw h1,ou h.snd hg.snd⟩
def Ay (i:Nat) (t:VTN):VTS:=fun V S=>t S fun ds S1=>i < S1.length/\V.nx (S1.set i (.own ds))
theorem dS {i:Nat} {x:Str} {pos':Pos} {tn:VTN} (ps:∀te,PE X e te->PS X (.Assign [.Name x pos'] e pos) (dD te (bJ i))) (h:VN K X e te tn):VS K X (.Assign [.Name x pos'] e pos) (dD te (bJ i)) (Ay i tn):=
 ⟨ps te h.pe,fun H0 Z U H S V E k t l=>h.snd H0 Z U H S _ _ k t fun a vs ds H1 H' S' k1 st1 ha hg hl rr zq1=>by
  obtain ⟨hi,q⟩:=zq1
  obtain ⟨k2,st2⟩:=k1.setNew (s:=.own ds) hi ha hg ⟨a,vs,rfl,hl,k1.dom a ha,rr⟩ rfl
  exact l.nx _ _ _ k2 (st1.trans st2) q⟩
def Az (i:Nat) (t:VTN):VTS:=fun V S=>t S fun ds S1=>∃ns:List Int,ds=ns.map .int/\i < S1.length/\V.nx (S1.set i (.pen none ns))
theorem x5 {i:Nat} {x:Str} {pos':Pos} {tn:VTN} (ps:∀te,PE X e te->PS X (.Assign [.Name x pos'] e pos) (dD te (bJ i))) (h:VN K X e te tn):VS K X (.Assign [.Name x pos'] e pos) (dD te (bJ i)) (Az i tn):=
 ⟨ps te h.pe,fun H0 Z U H S V E k t l=>h.snd H0 Z U H S _ _ k t fun a vs ds H1 H' S' k1 st1 ha hg hl rr zq1=>by
  obtain ⟨ns,e,hi,q⟩:=zq1
  subst e
  obtain ⟨k2,st2⟩:=k1.setNew (s:=.pen none ns) hi ha hg ⟨a,rfl,(fun _ z=>nomatch z),by rw [<- Reps.toInts rr];exact hl⟩ rfl
  exact l.nx _ _ _ k2 (st1.trans st2) q⟩
end
end VL
end
section
namespace VL
open PySem L2
section
variable {K:IJ} {X:Cx} {m:Bool} {e a b c:Expr} {ta tb tc te ti:TE} {va vb vc vi:VT} {pos:Pos} {st:Stmt} {rest:List Stmt} {t u:TS} {v w:VTS}
theorem OK.ownAt {H0 H:Hp} (k:OK K H0 Z U H S) {i:Nat} {s:Sl} (e:S[i]?=some s):∃o,U[i]?=some o/\rn K H0 (NM Z U S) H o s:=by
 have hi:i < U.length:=by rw [k.len];exact (List.getElem?_eq_some_iff.mp e).1
 exact ⟨_,IL hi,k.at_ i _ s (IL hi) e⟩
def Cw (i:Nat) (ve:VT):VT:=fun S Q=>(∃ds,S[i]?=some (.own ds))/\ve S fun r S1=>∃d ds,r=.d d/\S1[i]?=some (.own ds)/\ds.length<=1000000/\Q (.d .non) (S1.set i (.own (ds++[d])))
theorem Cy {apos:Pos} {o:Expr} (i:Nat) (hK:X.K=K) (ho:PE X o (cF i)) (h:VE K X true e te va) (pe:∀te,PE X e te->PE X (.Call (.Attribute o "append" apos) [e] [] pos) (tBM X.K "list" iM (cF i) (i6 te mD))) :
  VE K X m (.Call (.Attribute o "append" apos) [e] [] pos) (tBM K "list" iM (cF i) (i6 te mD)) (Cw i va):=⟨by subst hK;exact pe te h.pe,fun H0 Z U H S Q C k zq1 hc=>by
 obtain ⟨⟨ds0,e0⟩,t⟩:=zq1
 obtain ⟨o,h1,a,vs,rfl,h2,h3,h4⟩:=k.ownAt e0
 refine ⟨.ref a,h1,.inl ⟨rfl,vs,.inl (.inl h2)⟩,?_⟩
 refine h.snd H0 Z U H S _ _ k t fun x H1 r S1 k1 st1 rr zr1=>?_
 obtain ⟨d,ds,er,e1,hl,q⟩:=zr1
 subst er
 obtain ⟨o',g1,a',vs',rfl,g2,g3,g4⟩:=k1.ownAt e1
 rw [h1] at g1;cases g1
 refine ⟨a,vs',x,rfl,rfl,g2,by rw [g4.length,J7];lia,?_⟩
 have na:NM Z U S1 a->False:=fun n=>n (.inl ⟨i,_,e1,rfl,h1⟩)
 have hm:∀b,NM Z U S1 b->H1 b≠none->NM Z U S1 b/\upd H1 a (.lst (vs'++[x])) b=H1 b:=fun b n _=>⟨n,aL fun z=>na (by rw [<- z];exact n)⟩
 obtain ⟨k2,st2⟩:=k1.chg (s:=.own (ds++[d])) (o:=.lst (vs'++[x])) e1 rfl h1 ⟨_,rfl⟩ rfl ⟨a,_,rfl,aJ,g3,Reps.append (g4.mono hm fun _ x=>x) (.cons (Rep.mono hm (fun _ x=>x rfl) rr) .nil)⟩
 exact hc .non _ (.d .non) _ k2 (st1.trans st2) Rep.non q⟩
theorem ox {apos:Pos} {o:Expr} (i:Nat) (hK:X.K=K) (ho:PE X o (cF i)) (h:VE K X true e te va) (hbase:Lw o "append" X.env (eval o X.env)=eval o X.env:=by rfl)
  (hfew:((K8 pos (Jf (e::[]) X.env)).all (fun x=>!x.1)&&(Po pos (Nb [] X.env)).all (fun x=>x.1.isSome)
   && decide ((e::[]).length+([]:List Nc).length+(if ([]:List Nc).isEmpty then 0 else 1) < 30))=true:=by rfl)
  (hline:(apos.endLine==pos.line)=true:=by rfl) (hs:Jf (e::[]) X.env=(false,eval e X.env)::Jf [] X.env:=by rfl) (hplain:(K8 pos (Jf [] X.env)).any (·.1)=false:=by rfl) :
  VE K X m (.Call (.Attribute o "append" apos) [e] [] pos) (tBM K "list" iM (cF i) (i6 te mD)) (Cw i va):=
 Cy i hK ho h fun te hp=>Ff PySem.F.plainAttrs_list PySem.F.slot_list_append PySem.F.type_list_append rf ho (cX hp gT hs) hbase hfew hline hs hplain
def tN (i:Nat) (ve vi:VT):VTS:=fun V S=>ve S fun r S1=>(∃s,S1[i]?=some s/\s.mut=true)/\vi S1 fun ri S2=>∃j,get S2 ri=some (.int j) /\
  ((∃ad ns k n,S2[i]?=some (.pen ad ns)/\ixN ns.length j=some k/\r=.d (.int n)/\V.nx (S2.set i (.pen ad (ns.set k n)))) \/
   (∃ds k d,S2[i]?=some (.own ds)/\ixN ds.length j=some k/\r=.d d/\V.nx (S2.set i (.own (ds.set k d)))))
theorem mQ {o ie:Expr} {posS:Pos} (i:Nat) (ho:PE X o (cF i)) (h:VE K X true e te va) (hi:VE K X false ie ti vi)
  (ha:∀v,Oe (.Subscript o ie posS) X.env v=(do
   let ov <- N5 [v] (eval o X.env)
   let iv <- N5 [v,ov] (eval ie X.env)
   Mp posS
   N5 [v,ov,iv] (QC ov iv v)
   release [v,ov,iv] []):=by intro _;rfl)
  (hs:MT [.Subscript o ie posS] e pos.line X.env=pure false:=by rfl) (hw:MU [.Subscript o ie posS] e X.env=pure none:=by rfl)
  (h1:(K9 [.Subscript o ie posS] X.env).map (·.2)=[Oe (.Subscript o ie posS) X.env]:=by rfl) :
  VS K X (.Assign [.Subscript o ie posS] e pos) (dD te (BW (cF i) ti tf)) (tN i va vi):=⟨nX h.pe (BX ho hi.pe set_list ha) hs hw h1,fun H0 Z U H S V E k t l=>by
 refine h.snd H0 Z U H S _ _ k t fun x H1 r S1 k1 st1 rr zr1=>?_
 obtain ⟨⟨s1,em,hm1⟩,q⟩:=zr1
 -- the slot's address stays: U is one
 have fin:∀(p:Addr),U[i]?=some (some (.ref p))->BW (cF i) ti tf x U H1 E.nx:=fun p hp=>by
  refine ⟨.ref p,hp,hi.snd H0 Z U H1 S1 _ _ k1 q fun y H2 ri S2 k2 st2 r2 zr1=>?_⟩
  obtain ⟨j,ej,q2⟩:=zr1
  cases r2.get k2 ej
  have rr2:=rr.step st2
  rcases q2 with ⟨ad,ns,kk,n,e1,e2,er,q2⟩ | ⟨ds,kk,d,e1,e2,er,q2⟩
  ·subst er
   cases (show Rep K _ _ H2 x (.int n) from rr2)
   obtain ⟨o',g1,a',rfl,g2,g3⟩:=k2.ownAt e1
   rw [hp] at g1;cases g1
   refine ⟨p,_,j,kk,rfl,rfl,g3,by rw [IR];exact e2,?_⟩
   obtain ⟨k3,st3⟩:=k2.chg (s:=.pen ad (ns.set kk n)) (o:=.lst ((ns.map L2.V.int).set kk (.int n))) e1 rfl hp ⟨_,rfl⟩ rfl ⟨p,rfl,g2,by rw [aJ,List.map_set]⟩
   exact l.nx _ _ _ k3 ((st1.trans st2).trans st3) q2
  ·subst er
   obtain ⟨o',g1,a',vs,rfl,g2,g3,g4⟩:=k2.ownAt e1
   rw [hp] at g1;cases g1
   refine ⟨p,_,j,kk,rfl,rfl,g2,by rw [g4.length];exact e2,?_⟩
   have na:NM Z U S2 p->False:=fun n=>n (.inl ⟨i,_,e1,rfl,hp⟩)
   have hm:∀b,NM Z U S2 b->H2 b≠none->NM Z U S2 b/\upd H2 p (.lst (vs.set kk x)) b=H2 b:=fun b n _=>⟨n,aL fun z=>na (by rw [<- z];exact n)⟩
   obtain ⟨k3,st3⟩:=k2.chg (s:=.own (ds.set kk d)) (o:=.lst (vs.set kk x)) e1 rfl hp ⟨_,rfl⟩ rfl ⟨p,_,rfl,aJ,g3,Reps.set (Rep.mono hm (fun _ x=>x rfl) rr2) kk (g4.mono hm fun _ x=>x)⟩
   exact l.nx _ _ _ k3 ((st1.trans st2).trans st3) q2
 -- which address it is: look once
 obtain ⟨o1,g1,g2⟩:=k1.ownAt em
 cases s1 with
 | no=>cases hm1
 | val d=>cases hm1
 | fre d=>cases hm1
 | own ds=>obtain ⟨p,_,rfl,_⟩:=g2;exact fin p g1
 | pen ad ns=>obtain ⟨p,rfl,_⟩:=g2;exact fin p g1
 | odi ks ds=>obtain ⟨p,_,rfl,_⟩:=g2;exact fin p g1
 | obj k=>obtain ⟨p,rfl,_⟩:=g2;exact fin p g1⟩
def pick:List VR->Nat->Option (Nat×List VR)
 | .own i::r,0=>some (i,r)
 | x::r,j+1=>(pick r j).map fun p=>(p.1,x::p.2)
 | _,_=>none
def x6 (j:Nat) (p:List Int->List D->(D->List Int->Prop)->Prop) (vr:VTA):VT:=fun S Q=>vr S fun rs S1=>∃i rs' ad ns ds,pick rs j=some (i,rs')/\S1[i]?=some (.pen ad ns)/\allD rs'=some ds/\p ns ds fun d ns'=>Q (.d d) (S1.set i (.pen ad ns'))
theorem cN.pick:∀{j:Nat} {vs:List V} {rs:List VR} {i:Nat} {rs':List VR},cN K F Z U S H vs rs->VL.pick rs j=some (i,rs')->∃v ws us,vs=ws++v::us/\ws.length=j/\U[i]?=some (some v)/\cN K F Z U S H (ws++us) rs'/\ws.length<=(ws++us).length
 | 0,_,_,i,rs',.cons (r:=r) h t,e=>by
  cases r with
  | d x=>cases e
  | own k=>cases e;exact ⟨_,[],_,rfl,rfl,h,t,by simp⟩
 | j+1,_,_,i,rs',.cons (r:=r) (rs:=rs) h t,e=>by
  have e':(VL.pick rs j).map (fun p=>(p.1,r::p.2))=some (i,rs'):=by cases r <;> exact e
  obtain ⟨⟨i',q⟩,h1,h2⟩:=Option.map_eq_some_iff.mp e'
  cases h2
  obtain ⟨v,ws,us,rfl,hl,hs,rr,_⟩:=cN.pick t h1
  exact ⟨v,_::ws,us,rfl,by simp [hl],hs,.cons h rr,by simp⟩
 | _,_,_,_,_,.nil,e=>by cases e
theorem Reps.splitAt {N:AP}:∀{ws us:List V} {ds:List D},Reps K N F H (ws++us) ds->∃d1 d2,ds=d1++d2/\Reps K N F H ws d1/\Reps K N F H us d2
 | [],us,ds,h=>⟨[],ds,rfl,.nil,h⟩
 | w::ws,us,_,.cons h t=>by
  obtain ⟨d1,d2,rfl,h1,h2⟩:=Reps.splitAt (ws:=ws) t
  exact ⟨_::d1,d2,rfl,.cons h h1,h2⟩
section
variable {es:List Expr} {tr:TA} {vr:VTA} {x:Str} {p0:Pos} {j k:Nat} {ps:List Str}
theorem aU {jj:Nat} {p:List Int->List D->(D->List Int->Prop)->Prop} (E:Has X.prog X.w X.K X.mg X.base k x ps (spI K jj p)) (hr:cg j X.A) (ha:VA K X false (e::es) tr vr)
  (hk:k<=j:=by decide) (hg:Gl X x:=by rfl) (hdb:(x==("__debug__":Str))=false:=by decide) (he:Jf (e::es) X.env=(false,eval e X.env)::Jf es X.env:=by rfl)
  (hpl:(K8 pos (Jf es X.env)).any (·.1)=false:=by rfl):VE K X m (.Call (.Name x p0) (e::es) [] pos) (iz (spI K jj p) [] E0 tr) (x6 jj p vr):=⟨kn E hr ha.pe hk hg hdb he hpl,fun H0 Z U H S Q C k t hc=>
 ha.snd H0 Z U H S _ _ k t fun vs H1 rs S1 k1 st1 rrs zq1=>by
  obtain ⟨i,rs',ad,ns,ds,e1,e2,e3,q⟩:=zq1
  obtain ⟨v,ws,us,rfl,hl,hs,rr,_⟩:=rrs.pick e1
  obtain ⟨o,g1,a,rfl,g2,g3⟩:=k1.ownAt e2
  rw [hs] at g1;cases g1
  have ma:Mo Z U S1 a:=.inl ⟨i,_,e2,rfl,hs⟩
  obtain ⟨d1,d2,rfl,r1,r2⟩:=Reps.splitAt (rr.allD e3)
  have hm:∀b,NM Z U S1 b->H1 b≠none->b≠a/\H1 b=H1 b:=fun b n _=>⟨fun z=>n (by rw [z];exact ma),rfl⟩
  refine ⟨a,ws,us,ns,d1,d2,_,by rw [KL],hl,g3,r1.mono hm fun _ _=>trivial,r2.mono hm fun _ _=>trivial,q,fun d ns' v H' q g ga rv=>?_⟩
  -- the pen changed,and the heap grown
  have hG:∀b,upd H1 a (.lst (ns'.map V.int)) b≠none->H' b=upd H1 a (.lst (ns'.map V.int)) b:=fun b hb=>by
   by_cases hba:b=a
   ·subst hba;rw [aJ];exact ga
   ·rw [aL hba] at hb ⊢;exact g b hba hb
  obtain ⟨k2,st2⟩:=k1.chg (s:=.pen ad ns') (o:=.lst (ns'.map V.int)) e2 rfl hs ⟨_,rfl⟩ rfl ⟨a,rfl,g2,aJ⟩
  have k3:=k2.grow hG
  refine hc v H' (.d d) _ k3 ((st1.trans st2).trans (.grow hG)) (show Rep K _ _ H' v d from ?_) q
  refine (Rep.avoid (N':=NM Z U (S1.set i (.pen ad ns'))) (fun b z=>k3.mo (Classical.not_not.mp z)) (fun b zr1=>?_) rv).mono (fun _ n _=>⟨n,rfl⟩) (fun o zt1 _=>by obtain ⟨c,ec,f⟩:=zt1;exact ⟨c,ec,k1.dom c f⟩)
  obtain ⟨c,ec,f⟩:=zr1
  cases ec
  refine k2.nm ?_
  rw [aL]
  ·exact f
  ·intro z;subst z;rw [g3] at f;cases f⟩
end
end
end VL
end
section
namespace VL
open PySem L2
def Gd (K:IJ) (Z:AP) (J:It) (ds:List D) (U:St) (S:List Sl) (H:Hp):Prop:=∀ U2 S2 H2,(∀p,H2 p=none->NM Z U2 S2 p)->(∀a,NM Z U S a->H a≠none->H2 a=H a/\NM Z U2 S2 a)->∀i,(i < ds.length->J.go i H2)/\(∀x H3,J.yld i H2 x H3->i < ds.length->(∀a,H2 a≠none->H3 a=H2 a)/\∃d,ds[i]?=some d/\Rep K (NM Z U2 S2) AnyF H3 x d)/\(i=ds.length->J.stop i H2)
def Im (K:IJ) (wi:TI) (vi:VTN):Prop:=∀H0 Z U H S Q C,OK K H0 Z U H S->vi S Q->(∀J ds H' S',OK K H0 Z U H' S'->Step Z U S H U S' H'->Gd K Z J ds U S' H'->Q ds S'->C J H')->wi U H C
structure VI (K:IJ) (X:Cx) (tg e:Expr) (wi:TI) (vi:VTN):Prop where
 pi:PI X tg e wi
 snd:Im K wi vi
section
variable {K:IJ} {X:Cx} {m:Bool} {e a b c tg:Expr} {ta tb tc te ti:TE} {va vb vc:VT} {pos:Pos} {st:Stmt} {rest:List Stmt} {t u:TS} {v w:VTS}
def FH (va:VT):VTN:=fun S Q=>va S fun r S1=>∃ds,r=.d (.lst ds)/\Q ds S1
theorem bq (hK:X.K=K) (h:VE K X false e te va):VI K X tg e (Al K te) (FH va):=⟨by subst hK;exact xu h.pe,fun H0 Z U H S Q C k t hc=>h.snd H0 Z U H S _ _ k t fun v H1 r S1 k1 st1 rr zq1=>by
 obtain ⟨ds,e,q⟩:=zq1
 subst e
 have rr:Rep K _ _ H1 v (.lst ds):=rr
 obtain ⟨a,vs,rfl,hq,_⟩:=rr.sqL
 refine ⟨a,rfl,⟨vs,hq⟩,hc _ ds H1 S1 k1 st1 (fun U2 S2 H2 _ st2 i=>?_) q⟩
 obtain ⟨a',vs',e,hq2,r2⟩:=(rr.stp st2).sqL
 cases e
 refine ⟨fun hi=>?_,fun x H3 hy hi=>?_,fun hi=>⟨vs',hq2,by rw [r2.length];lia⟩⟩
 ·obtain ⟨v,h1,_⟩:=r2.getD (IL hi)
  exact ⟨vs',v,hq2,h1⟩
 ·obtain ⟨e,h2⟩:=hy
  obtain ⟨d,h3,h4⟩:=r2.get (h2 vs' hq2)
  exact ⟨fun _ _=>by rw [e],d,h3,h4.mono (fun _ n _=>⟨n,by rw [e]⟩) fun _ _=>trivial⟩⟩
def rg (lo:Int) (n:Nat):List D:=(JS n).map fun (i:Nat)=>D.int (lo+(i:Int))
theorem gZ (lo:Int) (n:Nat):(rg lo n).length=n:=by simp [rg]
theorem tO {lo:Int} {n i:Nat} (h:i < n):(rg lo n)[i]?=some (.int (lo+(i:Int))):=by simp [rg,h]
theorem tP {lo:Int} {n:Nat}:Gd K Z (Itr lo n) (rg lo n) U S H:=fun U2 S2 H2 _ st2 i=>by
 rw [gZ]
 refine ⟨fun h=>h,fun x H3 zt1 hi=>by obtain ⟨e,hx⟩:=zt1;exact ⟨fun _ _=>by rw [e],_,tO hi,by rw [hx];exact .int _⟩,fun h=>by rw [h];exact IS _⟩
section
variable {tr:TA} {vr:VTA} {p:Pos}
def FI (vr:VTA):VTN:=fun S Q=>vr S fun rs S1=>∃j:Int,rs=[.d (.int j)]/\-(2 ^ 62)<=j/\j < 2 ^ 62/\Q (rg 0 j.toNat) S1
def FJ (vr:VTA):VTN:=fun S Q=>vr S fun rs S1=>∃i j:Int,rs=[.d (.int i),.d (.int j)]/\(-(2 ^ 62)<=i/\i < 2 ^ 62/\-(2 ^ 62)<=j/\j < 2 ^ 62)/\Q (rg i (j-i).toNat) S1
theorem b9 (hg:Gl X "range") (hm:X.mg "range"=none) (ha:VA K X false [a] tr vr) (hs:Jf [a] X.env=[(false,eval a X.env)]:=by rfl):VI K X tg (.Call (.Name "range" p) [a] [] pos) (Am tr) (FI vr):=⟨qU hg hm ha.pe hs,fun H0 Z U H S Q C k t hc=>
 ha.snd H0 Z U H S _ _ k t fun vs H1 rs S1 k1 st1 rrs zq1=>by
  obtain ⟨j,e,h1,h2,q⟩:=zq1
  subst e
  cases rrs with
  | cons r t=>
   cases t
   cases (show Rep K _ _ H1 _ (.int j) from r)
   exact ⟨j,rfl,h1,h2,hc _ _ H1 S1 k1 st1 tP q⟩⟩
theorem rq (hg:Gl X "range") (hm:X.mg "range"=none) (ha:VA K X false [a,b] tr vr) (hs:Jf [a,b] X.env=[(false,eval a X.env),(false,eval b X.env)]:=by rfl) (hs2:Jf [b] X.env=[(false,eval b X.env)]:=by rfl):VI K X tg (.Call (.Name "range" p) [a,b] [] pos) (An tr) (FJ vr):=⟨qV hg hm ha.pe hs hs2,fun H0 Z U H S Q C k t hc=>
 ha.snd H0 Z U H S _ _ k t fun vs H1 rs S1 k1 st1 rrs zq1=>by
  obtain ⟨i,j,e,h1,q⟩:=zq1
  subst e
  cases rrs with
  | cons r t=>
   cases t with
   | cons r' t=>
    cases t
    cases (show Rep K _ _ H1 _ (.int i) from r)
    cases (show Rep K _ _ H1 _ (.int j) from r')
    exact ⟨i,j,rfl,h1,hc _ _ H1 S1 k1 st1 tP q⟩⟩
end
def runFor (vg:VG) (vb:VTS) (V:ba):List D->List Sl->Prop
 | []=>V.nx
 | d::r=>fun S=>vg d S fun S3=>vb ⟨runFor vg vb V r,V.rt,V.nx,runFor vg vb V r⟩ S3
def FL (vi:VTN) (vg:VG) (vb:VTS):VTS:=fun V S=>vi S fun ds S1=>runFor vg vb V ds S1\/∃Iv:Nat->List Sl->Prop,Iv 0 S1/\(∀i d S2,ds[i]?=some d->Iv i S2->vg d S2 fun S3=>vb { V with nx:=Iv (i+1),ct:=Iv (i+1),bk:=V.nx } S3)/\∀S2,Iv ds.length S2->V.nx S2
theorem cA {body:List Stmt} {wi:TI} {vi:VTN} {g:TG} {vg:VG} (hp:Qj (JD X.prog X.w) X.A X.env X.xe) (hc:X.calm=true) (hi:VI K X tg e wi vi) (hg:VGe K X tg g vg) (hb:VSs K X body t v) (hs:∀x,Kh e X.env x=pure x:=by intro _;rfl) :
  VS K X (.For tg e body [] pos) (EY wi g t) (FL vi vg v):=⟨BZ hp hc hi.pi hg.pg hb.ps hs,fun H0 Z U H S V E k t l=>hi.snd H0 Z U H S _ _ k t fun J ds H1 S1 k1 st1 gd hh=>by
 rcases hh with hr | ⟨Iv,i0,hs,hd⟩
 ·refine ⟨fun i m U H=>m=ds.length-i/\i<=ds.length/\∃S2,OK K H0 Z U H S2/\Step Z _ S1 H1 U S2 H/\runFor vg v V (ds.drop i) S2,⟨ds.length,by simp,Kk _,S1,k1,.refl,by simpa using hr⟩,?_⟩
  rintro i m U2 H2 ⟨rfl,hi,S2,k2,st2,p⟩
  obtain ⟨g1,g2,g3⟩:=gd U2 S2 H2 (fun _=>k2.nm) st2.1 i
  by_cases hlt:i < ds.length
  ·rw [KI hlt] at p
   refine .inr ⟨g1 hlt,fun U' H'=>∃S',OK K H0 Z U' H' S'/\Step Z U S1 H1 U' S' H'/\runFor vg v V (ds.drop (i+1)) S',fun U' H' p'=>⟨ds.length-(i+1),by lia,rfl,hlt,p'⟩,fun x H3 y=>?_⟩
   obtain ⟨hgr,d,hd',rd⟩:=g2 x H3 y hlt
   replace k2:=k2.grow hgr
   replace st2:=st2.trans (.grow hgr)
   rw [IL hlt] at hd'
   cases hd'
   refine hg.snd H0 Z U2 H3 S2 x _ _ _ k2 rd p fun U4 H4 S4 k4 st4 q4=>?_
   refine hb.snd H0 Z U4 H4 S4 _ _ k4 q4 ⟨fun U' H' S' k' s' q'=>⟨S',k',(st2.trans st4).trans s',q'⟩,fun U' H' S' k' s' q'=>l.nx U' H' S' k' (((st1.trans st2).trans st4).trans s') q',fun U' H' S' k' s' q'=>⟨S',k',(st2.trans st4).trans s',q'⟩,fun v d U' H' S' k' s' r' q'=>l.rt v d U' H' S' k' (((st1.trans st2).trans st4).trans s') r' q'⟩
  ·have e:i=ds.length:=by lia
   rw [e,List.drop_length] at p
   exact .inl ⟨g3 e,l.nx _ _ _ k2 (st1.trans st2) p⟩
 refine ⟨fun i m U H=>m=ds.length-i/\i<=ds.length/\∃S2,OK K H0 Z U H S2/\Step Z _ S1 H1 U S2 H/\Iv i S2,⟨ds.length,by simp,Kk _,S1,k1,.refl,i0⟩,?_⟩
 rintro i m U2 H2 ⟨rfl,hi,S2,k2,st2,p⟩
 obtain ⟨g1,g2,g3⟩:=gd U2 S2 H2 (fun _=>k2.nm) st2.1 i
 by_cases hlt:i < ds.length
 ·refine .inr ⟨g1 hlt,fun U' H'=>∃S',OK K H0 Z U' H' S'/\Step Z U S1 H1 U' S' H'/\Iv (i+1) S',fun U' H' p'=>⟨ds.length-(i+1),by lia,rfl,hlt,p'⟩,fun x H3 y=>?_⟩
  obtain ⟨hgr,d,hd',rd⟩:=g2 x H3 y hlt
  replace k2:=k2.grow hgr
  replace st2:=st2.trans (.grow hgr)
  refine hg.snd H0 Z U2 H3 S2 x d _ _ k2 rd (hs i d S2 hd' p) fun U4 H4 S4 k4 st4 q4=>?_
  refine hb.snd H0 Z U4 H4 S4 _ _ k4 q4 ⟨fun U' H' S' k' s' q'=>⟨S',k',(st2.trans st4).trans s',q'⟩,fun U' H' S' k' s' q'=>l.nx U' H' S' k' (((st1.trans st2).trans st4).trans s') q',fun U' H' S' k' s' q'=>⟨S',k',(st2.trans st4).trans s',q'⟩,fun v d U' H' S' k' s' r' q'=>l.rt v d U' H' S' k' (((st1.trans st2).trans st4).trans s') r' q'⟩
 ·have e:i=ds.length:=by lia
  exact .inl ⟨g3 e,l.nx _ _ _ k2 (st1.trans st2) (hd S2 (by rw [<- e];exact p))⟩⟩
end
def bz (n:Nat) (ix:List Nat) (S:List Sl):List Sl:=JP n .no++ix.map fun i=>(S[i]?).getD .no
def mR (s t:Sl):Sl:=if s.mut then (if t.mut then t else .no) else s
def bX (n:Nat) (ix:List Nat) (T:List Sl):Nat->List Sl->List Sl
 | _,[]=>[]
 | k,s::r=>(match ix.idxOf? k with | some j=>mR s ((T[n+j]?).getD .no) | none=>s)::bX n ix T (k+1) r
def backS (n:Nat) (ix:List Nat) (S T:List Sl):List Sl:=bX n ix T 0 S
def Zin (Z:AP) (ix:List Nat) (U:St) (S:List Sl):AP:=fun a=>Z a\/∃(i:Nat) (s:Sl),i∉ix/\S[i]?=some s/\s.mut=true/\U[i]?=some (some (V.ref a))
section
variable {K:IJ} {H H' H0:Hp} {Z:AP} {U U':St} {S T:List Sl} {n:Nat} {ix:List Nat}
theorem ji (k:Nat):(bX n ix T k S).length=S.length:=by
 induction S generalizing k with
 | nil=>rfl
 | cons s r ih=>simp [bX,ih]
theorem x8 (k:Nat) {i:Nat} {s:Sl} (h:S[i]?=some s):(bX n ix T k S)[i]?=some (match ix.idxOf? (k+i) with | some j=>mR s ((T[n+j]?).getD .no) | none=>s):=by
 induction S generalizing k i with
 | nil=>simp at h
 | cons s' r ih=>
  cases i with
  | zero=>simp at h;subst h;rfl
  | succ i=>
   simp at h
   simp only [bX,Kq]
   rw [ih (k+1) h,show k+1+i=k+(i+1) by lia]
theorem ly {j:Nat} {s:Sl} (h:(bz n ix S)[j]?=some s) (m:s.mut=true):∃k i,j=n+k/\ix[k]?=some i/\S[i]?=some s:=by
 unfold bz at h
 by_cases hj:j < n
 ·rw [Jj (by simpa using hj)] at h
  simp [hj] at h
  subst h;cases m
 ·rw [Jq (by simp;lia)] at h
  simp only [LG,Jh] at h
  cases hk:ix[j-n]? with
  | none=>rw [hk] at h;cases h
  | some i=>
   rw [hk] at h
   simp at h
   refine ⟨j-n,i,by lia,hk,?_⟩
   cases hs:S[i]? with
   | none=>rw [hs] at h;simp at h;subst h;cases m
   | some s'=>rw [hs] at h;simp at h;subst h;rfl
theorem x9 {j:Nat} {s:Sl} (h:(bz n ix S)[j]?=some s):s=.no\/∃k i,j=n+k/\ix[k]?=some i/\S[i]?=some s:=by
 unfold bz at h
 by_cases hj:j < n
 ·rw [Jj (by simpa using hj)] at h
  simp [hj] at h
  exact .inl h.symm
 ·rw [Jq (by simp;lia)] at h
  simp only [LG,Jh] at h
  cases hk:ix[j-n]? with
  | none=>rw [hk] at h;cases h
  | some i=>
   rw [hk] at h
   simp at h
   cases hs:S[i]? with
   | none=>rw [hs] at h;simp at h;exact .inl h.symm
   | some s'=>rw [hs] at h;simp at h;subst h;exact .inr ⟨j-n,i,by lia,hk,hs⟩
theorem gg {k i:Nat} (h:ix[k]?=some i):(capt n ix U)[n+k]?=some ((U[i]?).getD none):=by
 unfold capt
 rw [Jq (by simp)]
 simp [h]
theorem yc {k i:Nat} (h:ix[k]?=some i):(bz n ix S)[n+k]?=some ((S[i]?).getD .no):=by
 unfold bz
 rw [Jq (by simp)]
 simp [h]
theorem dF {k i:Nat} (h:ix[k]?=some i) (e:(capt n ix U)[n+k]?=some (some v)):U[i]?=some (some v):=by
 rw [gg h] at e
 cases hs:U[i]? with
 | none=>rw [hs] at e;cases e
 | some o=>rw [hs] at e;simp at e;rw [e]
theorem jk {a:Addr}:Mo (Zin Z ix U S) (capt n ix U) (bz n ix S) a↔Mo Z U S a:=by
 constructor
 ·rintro (⟨j,s,h1,h2,h3⟩ | h | ⟨i,s,_,h1,h2,h3⟩)
  ·obtain ⟨k,i,rfl,hk,hs⟩:=ly h1 h2
   exact .inl ⟨i,s,hs,h2,dF hk h3⟩
  ·exact .inr h
  ·exact .inl ⟨i,s,h1,h2,h3⟩
 ·rintro (⟨i,s,h1,h2,h3⟩ | h)
  ·by_cases hi:i∈ix
   ·obtain ⟨k,hk⟩:=OR hi
    refine .inl ⟨n+k,s,?_,h2,?_⟩
    ·rw [yc hk,h1];rfl
    ·rw [gg hk,h3];rfl
   ·exact .inr (.inr ⟨i,s,hi,h1,h2,h3⟩)
  ·exact .inr (.inl h)
theorem rA {l:List Nat} (h:l.Nodup):∀{i j x:Nat},l[i]?=some x->l[j]?=some x->i=j:=fun {i j x} h1 h2=>by
 obtain ⟨a,e1⟩:=List.getElem?_eq_some_iff.mp h1
 obtain ⟨b,e2⟩:=List.getElem?_eq_some_iff.mp h2
 have hp:=List.pairwise_iff_getElem.mp h
 rcases LO i j with c | c | c
 ·exact (hp i j a b c (by rw [e1,e2])).elim
 ·exact c
 ·exact (hp j i b a c (by rw [e1,e2])).elim
theorem OK.capt (k:OK K H0 Z U H S) (hn:ix.Nodup):OK K H0 (Zin Z ix U S) (L2.capt n ix U) H (bz n ix S) where
 len:=by simp [L2.capt,bz]
 dom:=k.dom
 zl:=fun a z=>by
  rcases z with z | ⟨i,s,_,h1,h2,h3⟩
  ·exact k.zl a z
  ·exact k.mo (.inl ⟨i,s,h1,h2,h3⟩)
 nz:=fun j s a h1 h2 h3 z=>by
  obtain ⟨q,i,rfl,hk,hs⟩:=ly h1 h2
  have e:=dF hk h3
  rcases z with z | ⟨i',s',hi',g1,g2,g3⟩
  ·exact k.nz i s a hs h2 e z
  ·have:=k.inj i i' a s s' hs g1 h2 g2 e g3
   subst this
   exact hi' (Jy hk)
 inj:=fun j j' a s s' h1 h2 m1 m2 h3 h4=>by
  obtain ⟨q,i,rfl,hk,hs⟩:=ly h1 m1
  obtain ⟨q',i',rfl,hk',hs'⟩:=ly h2 m2
  have:=k.inj i i' a s s' hs hs' m1 m2 (dF hk h3) (dF hk' h4)
  subst this
  rw [rA hn hk hk']
 at_:=fun j o s h1 h2=>by
  have hN:∀a,NM Z U S a->NM (Zin Z ix U S) (L2.capt n ix U) (bz n ix S) a:=fun a x z=>x (jk.mp z)
  rcases x9 h2 with rfl | ⟨q,i,rfl,hk,hs⟩
  ·trivial
  ·rw [gg hk] at h1
   obtain ⟨o',e1,sl⟩:=k.ownAt hs
   rw [e1] at h1
   simp at h1
   subst h1
   cases s with
   | no=>trivial
   | val d=>obtain ⟨v,e,r⟩:=sl;exact ⟨v,e,r.mono (fun a x _=>⟨hN a x,rfl⟩) fun _ x=>x⟩
   | fre d=>obtain ⟨v,e,r⟩:=sl;exact ⟨v,e,r.mono (fun a x _=>⟨hN a x,rfl⟩) fun _ x=>x⟩
   | own ds=>obtain ⟨a,vs,e,e',e0,r⟩:=sl;exact ⟨a,vs,e,e',e0,r.mono (fun a x _=>⟨hN a x,rfl⟩) fun _ x=>x⟩
   | pen ad ns=>exact sl
   | odi ks ds=>obtain ⟨a,vs,e,e',e0,ek,r⟩:=sl;exact ⟨a,vs,e,e',e0,⟨ek.1,ek.2.mono (fun a x _=>⟨hN a x,rfl⟩) fun _ x=>x⟩,r.mono (fun a x _=>⟨hN a x,rfl⟩) fun _ x=>x⟩
   | obj k=>obtain ⟨a,e,e0,r⟩:=sl;exact ⟨a,e,e0,k.mono (fun a x _=>⟨hN a x,rfl⟩) rfl r⟩
theorem tQ {i j:Nat} (h:ix.idxOf? i=some j):ix[j]?=some i:=by
 unfold Qo at h
 obtain ⟨h1,h2,_⟩:=List.findIdx?_eq_some_iff_getElem.mp h
 rw [IL h1]
 simpa using h2
theorem tR {i:Nat} (h:ix.idxOf? i=none):i∉ix:=by
 unfold Qo at h
 intro hm
 have:=List.findIdx?_eq_none_iff.mp h i hm
 simp at this
theorem mS {i:Nat} {s:Sl} (h:S[i]?=some s):(backS n ix S T)[i]?=some (match ix.idxOf? i with | some j=>mR s ((T[n+j]?).getD .no) | none=>s):=by
 have:=x8 (n:=n) (ix:=ix) (T:=T) 0 h
 rwa [L7] at this
theorem dH {i:Nat} {s':Sl} (h:(backS n ix S T)[i]?=some s') (m:s'.mut=true):∃s,S[i]?=some s/\s.mut=true/\((∃j,ix[j]?=some i/\T[n+j]?=some s')\/(i∉ix/\s=s')):=by
 have hl:i < S.length:=by
  have:=(List.getElem?_eq_some_iff.mp h).1
  rwa [show (backS n ix S T).length=S.length from ji 0] at this
 have e:=mS (n:=n) (ix:=ix) (T:=T) (IL hl)
 rw [h] at e
 have e:=Jx e
 refine ⟨_,IL hl,?_⟩
 cases hx:ix.idxOf? i with
 | none=>
  rw [hx] at e
  have e:s'=S[i]:=e
  exact ⟨by rw [<- e];exact m,.inr ⟨tR hx,e.symm⟩⟩
 | some j=>
  rw [hx] at e
  simp only [mR] at e
  by_cases hm:(S[i]).mut=true
  ·rw [if_pos hm] at e
   refine ⟨hm,.inl ⟨j,tQ hx,?_⟩⟩
   cases ht:T[n+j]? with
   | none=>rw [ht] at e;simp [Sl.mut] at e;subst e;cases m
   | some t=>
    rw [ht] at e
    simp only [Oi] at e
    by_cases htm:t.mut=true
    ·rw [if_pos htm] at e;rw [e]
    ·rw [if_neg htm] at e;subst e;cases m
  ·rw [if_neg hm] at e;subst e;exact (hm m).elim
theorem rB {i:Nat} {s':Sl} (h:(backS n ix S T)[i]?=some s') (m:s'.mut=false):s'=.no\/S[i]?=some s':=by
 have hl:i < S.length:=by
  have:=(List.getElem?_eq_some_iff.mp h).1
  rwa [show (backS n ix S T).length=S.length from ji 0] at this
 have e:=mS (n:=n) (ix:=ix) (T:=T) (IL hl)
 rw [h] at e
 have e:=Jx e
 cases hx:ix.idxOf? i with
 | none=>rw [hx] at e;exact .inr (by rw [IL hl,e])
 | some j=>
  rw [hx] at e
  simp only [mR] at e
  by_cases hm:(S[i]).mut=true
  ·rw [if_pos hm] at e
   by_cases htm:((T[n+j]?).getD .no).mut=true
   ·rw [if_pos htm] at e;rw [e,htm] at m;cases m
   ·rw [if_neg htm] at e;exact .inl e
  ·rw [if_neg hm] at e;exact .inr (by rw [IL hl,e])
theorem OK.back (k:OK K H0 Z U H S) (k':OK K H0 (Zin Z ix U S) U' H' T) (st:Step (Zin Z ix U S) (L2.capt n ix U) (bz n ix S) H U' T H') (hσ:∀(i:Nat) (v:V),(L2.capt n ix U)[i]?=some (some v)->U'[i]?=some (some v)) :
  OK K H0 Z U H' (backS n ix S T)/\Step Z U S H U (backS n ix S T) H'/\∀a,NM (Zin Z ix U S) U' T a->NM Z U (backS n ix S T) a:=by
 have mo':∀a,Mo Z U (backS n ix S T) a->Mo (Zin Z ix U S) U' T a:=fun a z=>by
  rcases z with ⟨i,s',h1,h2,h3⟩ | z
  ·obtain ⟨s,e,em,⟨j,hj,ht⟩ | ⟨hi,rfl⟩⟩:=dH h1 h2
   ·exact .inl ⟨n+j,s',ht,h2,hσ _ _ (by rw [gg hj,h3];rfl)⟩
   ·exact .inr (.inr ⟨i,s,hi,e,em,h3⟩)
  ·exact .inr (.inl z)
 have nm':∀a,NM (Zin Z ix U S) U' T a->NM Z U (backS n ix S T) a:=fun a x z=>x (mo' a z)
 have nm0:∀a,NM Z U S a->NM (Zin Z ix U S) (L2.capt n ix U) (bz n ix S) a:=fun a x z=>x (jk.mp z)
 have old:∀a,NM Z U S a->H a≠none->NM Z U (backS n ix S T) a/\H' a=H a:=fun a x e=>⟨nm' a (st.1 a (nm0 a x) e).2,(st.1 a (nm0 a x) e).1⟩
 refine ⟨⟨by rw [show (backS n ix S T).length=S.length from ji 0];exact k.len,fun i o s' h1 h2=>?_,fun i j a s t h1 h2 m1 m2 h3 h4=>?_,fun a e=>k'.dom a e,fun a z=>k'.zl a (.inl z),fun i s a h1 m h3 z=>?_⟩,⟨fun a x e=>⟨(old a x e).2,(old a x e).1⟩,st.2.1,fun a z e=>st.2.2 a (.inl z) e⟩,nm'⟩
 ·cases hm:s'.mut with
  | true=>
   obtain ⟨s,e,em,⟨j,hj,ht⟩ | ⟨hi,rfl⟩⟩:=dH h2 hm
   ·have eo:∃v,o=some v:=by
     obtain ⟨o',e1,q⟩:=k.ownAt e
     rw [h1] at e1;cases e1
     cases s with
     | no=>cases em
     | val d=>cases em
     | fre d=>cases em
     | own ds=>obtain ⟨a,_,e,_⟩:=q;exact ⟨_,e⟩
     | pen ad ns=>obtain ⟨a,e,_⟩:=q;exact ⟨_,e⟩
     | odi ks ds=>obtain ⟨a,_,e,_⟩:=q;exact ⟨_,e⟩
     | obj k=>obtain ⟨a,e,_⟩:=q;exact ⟨_,e⟩
    obtain ⟨v,rfl⟩:=eo
    have q:=k'.at_ (n+j) (some v) s' (hσ _ _ (by rw [gg hj,h1];rfl)) ht
    cases s' with
    | no=>cases hm
    | val d=>cases hm
    | fre d=>cases hm
    | own ds=>obtain ⟨a,vs,e,e',e0,r⟩:=q;exact ⟨a,vs,e,e',e0,r.mono (fun a x _=>⟨nm' a x,rfl⟩) fun _ x=>x⟩
    | pen ad ns=>exact q
    | odi ks ds=>obtain ⟨a,vs,e,e',e0,ek,r⟩:=q;exact ⟨a,vs,e,e',e0,⟨ek.1,ek.2.mono (fun a x _=>⟨nm' a x,rfl⟩) fun _ x=>x⟩,r.mono (fun a x _=>⟨nm' a x,rfl⟩) fun _ x=>x⟩
    | obj k=>obtain ⟨a,e,e0,r⟩:=q;exact ⟨a,e,e0,k.mono (fun a x _=>⟨nm' a x,rfl⟩) rfl r⟩
   ·obtain ⟨o',e1,q⟩:=k.ownAt e
    rw [h1] at e1;cases e1
    have hz:∀a us,o=some (V.ref a)->H a=some us->H' a=H a:=fun a us eo ea=>st.2.2 a (.inr ⟨i,s,hi,e,em,by rw [h1,eo]⟩) (by simp [ea])
    cases s with
    | no=>cases hm
    | val d=>cases hm
    | fre d=>cases hm
    | own ds=>obtain ⟨a,vs,e,e',e0,r⟩:=q;exact ⟨a,vs,e,(hz a _ e e').trans e',e0,r.mono old fun _ x=>x⟩
    | pen ad ns=>obtain ⟨a,e,e1,e'⟩:=q;exact ⟨a,e,e1,(hz a _ e e').trans e'⟩
    | odi ks ds=>obtain ⟨a,vs,e,⟨ob,e'⟩,e0,ek,r⟩:=q;exact ⟨a,vs,e,⟨ob,(hz a _ e e').trans e'⟩,e0,⟨ek.1,ek.2.mono old fun _ x=>x⟩,r.mono old fun _ x=>x⟩
    | obj k=>obtain ⟨a,e,e0,r⟩:=q;exact ⟨a,e,e0,k.mono old (hz a _ e (Option.ne_none_iff_exists'.mp (k.ism r).ne).choose_spec) r⟩
  | false=>
   rcases rB h2 hm with rfl | e
   ·trivial
   ·have q:=k.at_ i o s' h1 e
    cases s' with
    | no=>trivial
    | val d=>obtain ⟨v,e,r⟩:=q;exact ⟨v,e,r.mono old fun _ x=>x⟩
    | fre d=>obtain ⟨v,e,r⟩:=q;exact ⟨v,e,r.mono old fun _ x=>x⟩
    | own ds=>cases hm
    | pen ad ns=>cases hm
    | odi ks ds=>cases hm
    | obj k=>cases hm
 ·obtain ⟨s0,e0,em0,c1⟩:=dH h1 m1
  obtain ⟨t0,f0,fm0,c2⟩:=dH h2 m2
  exact k.inj i j a s0 t0 e0 f0 em0 fm0 h3 h4
 ·obtain ⟨s0,e0,em0,c1⟩:=dH h1 m
  exact k.nz i s0 a e0 em0 h3 z
end
section
variable {K:IJ} {X:Cx} {e a b c tg elt iter:Expr} {te:TE} {va:VT} {pos:Pos}
structure VTs (K:IJ) (X:Cx) (ifs:List Expr) (te:TT) (t:VTT):Prop where
 pe:PTs X ifs te
 snd:SndT K te t
def tS:VTT:=fun S Q=>Q true S
theorem bY:VTs K X [] Aq tS:=⟨xT,fun _ _ _ _ _ _ _ k h q=>q _ _ _ k .refl h⟩
theorem eX {tA:TT} {wA:VTT} (h:VTe K X c tA wA):VTs K X [c] tA wA:=⟨xU h.pe,h.snd⟩
def tT (vi:VTN) (n:Nat) (ix:List Nat) (vg:VG) (vt:VTT) (ve:VT):VTN:=fun S Q=>vi S fun ds S1=>ds.length<=1000000/\∃Iv:Nat->List D->List Sl->Prop,Iv 0 [] S1 /\
 (∀i d ys S2,ds[i]?=some d->Iv i ys S2->vg d (bz n ix S2) fun S3=>vt S3 fun b S4=>if b=true then ve S4 fun r S5=>∃x,r=.d x/\Iv (i+1) (ys++[x]) (backS n ix S2 S5) else Iv (i+1) ys (backS n ix S2 S4)) /\
 ∀ys S2,Iv ds.length ys S2->Q ys S2
theorem bM {ifs:List Expr} {scope:MO} {tg cs:List Str} {target:Expr} {wi:TI} {vi:VTN} {g:TG} {vg:VG} {tc:TT} {vt:VTT} {te:TE} {ve:VT} (Sc:bC X scope tg cs ix) (hcalm:X.calm=true) (kg:cS tg.length ix g) (hnd:ix.Nodup)
  (hi:VI K X target iter wi vi) (hg:∀C fp s H,VGe K (aA X scope (tg++cs) C fp s H) target g vg) (hc:∀C fp s H,VTs K (aA X scope (tg++cs) C fp s H) ifs tc vt) (he:∀C fp s H,VE K (aA X scope (tg++cs) C fp s H) true elt te ve)
  (hs:∀x,Kh iter X.env x=pure x:=by intro _;rfl):VN K X (.ListComp elt [⟨target,iter,ifs,0⟩] scope pos) (mK wi tg.length ix g tc te) (tT vi tg.length ix vg vt ve):=by
 have sg:SndG K g vg:=(hg 0 [] X.s₀ (fun _=>none)).snd
 have sc:SndT K tc vt:=(hc 0 [] X.s₀ (fun _=>none)).snd
 have se:SndE K true te ve:=(he 0 [] X.s₀ (fun _=>none)).snd
 refine ⟨xV Sc hcalm kg hi.pi (fun C fp s H=>(hg C fp s H).pg) (fun C fp s H=>(hc C fp s H).pe) (fun C fp s H=>(he C fp s H).pe) hs,fun H0 Z U H S Q C k t hq=>?_⟩
 refine hi.snd H0 Z U H S _ _ k t fun J ds H1 S1 k1 st1 gd zr1=>?_
 obtain ⟨hl,Iv,i0,hs,hd⟩:=zr1
 refine ⟨fun i m ys H=>m=ds.length-i/\i<=ds.length/\ys.length<=i/\∃S2 zs,OK K H0 Z U H S2/\Step Z U S1 H1 U S2 H/\Reps K (NM Z U S2) (Fr H0) H ys zs/\Iv i zs S2,⟨ds.length,by simp,Kk _,IS _,S1,[],k1,.refl,.nil,i0⟩,?_⟩
 rintro i m ys H2 ⟨rfl,hi,hy,S2,zs,k2,st2,rz,p⟩
 obtain ⟨g1,g2,g3⟩:=gd U S2 H2 (fun _=>k2.nm) st2.1 i
 have hsz:(1000000:Nat) < JA:=by rw [J7];lia
 by_cases hlt:i < ds.length
 ·refine .inr ⟨g1 hlt,by lia,fun ys' H'=>ys'.length<=i+1/\∃S' zs',OK K H0 Z U H' S'/\Step Z U S1 H1 U S' H'/\Reps K (NM Z U S') (Fr H0) H' ys' zs'/\Iv (i+1) zs' S',fun ys' H' zt1=>by obtain ⟨p1,p2⟩:=zt1;exact ⟨ds.length-(i+1),by lia,rfl,hlt,p1,p2⟩,fun x H3 y=>?_⟩
  obtain ⟨hgr,d,hd',rd⟩:=g2 x H3 y hlt
  replace k2:=k2.grow hgr
  replace st2:=st2.trans (.grow hgr)
  replace rz:=rz.step (.grow hgr)
  have kc:=k2.capt (n:=tg.length) hnd
  have rd':Rep K (NM (Zin Z ix U S2) (L2.capt tg.length ix U) (bz tg.length ix S2)) AnyF H3 x d:=rd.mono (fun a n _=>⟨fun z=>n (jk.mp z),rfl⟩) fun _ x=>x
  -- the target leaves what the block took over
  have h1:=sg H0 _ _ H3 _ x d _ (fun U4 H4=>∃S4,OK K H0 (Zin Z ix U S2) U4 H4 S4/\Step (Zin Z ix U S2) (L2.capt tg.length ix U) (bz tg.length ix S2) H3 U4 S4 H4/\vt S4 fun b S5=>if b=true then ve S5 fun r S6=>∃x,r=.d x/\Iv (i+1) (zs++[x]) (backS tg.length ix S2 S6) else Iv (i+1) zs (backS tg.length ix S2 S5)) kc rd' (hs i d zs S2 hd' p) (fun U4 H4 S4 k4 st4 q4=>⟨S4,k4,st4,q4⟩)
  have h2:=kg x U H3 _ h1
  refine (hg 0 [] X.s₀ (fun _=>none)).mono _ _ _ _ _ ?_ h2
  rintro U4 H4 ⟨⟨hl4,hσ4⟩,S4,k4,st4,q4⟩
  refine sc H0 _ U4 H4 S4 _ _ k4 q4 fun bb H5 S5 k5 st5 q5=>?_
  cases bb with
  | false=>
   rw [if_neg IT] at q5 ⊢
   obtain ⟨kb,sb,nb⟩:=k2.back k5 (st4.trans st5) hσ4
   exact ⟨by lia,_,zs,kb,st2.trans sb,rz.step sb,q5⟩
  | true=>
   rw [if_pos rfl] at q5 ⊢
   refine se H0 _ U4 H5 S5 _ _ k5 q5 fun vv H6 r S6 k6 st6 rr zr1=>?_
   obtain ⟨xx,er,q6⟩:=zr1
   subst er
   obtain ⟨kb,sb,nb⟩:=k2.back k6 ((st4.trans st5).trans st6) hσ4
   refine ⟨by simp;lia,_,zs++[xx],kb,st2.trans sb,Reps.append (rz.step sb) (.cons (Rep.mono (fun a n _=>⟨nb a n,rfl⟩) (fun _ x=>x rfl) rr) .nil),q6⟩
 ·have e:i=ds.length:=by lia
  refine .inl ⟨g3 e,by lia,fun l hp=>?_⟩
  exact hq l ys zs H2 _ S2 k2 (st1.trans st2) hp (aV hp) aJ (cH hp (rz.mono (fun _ n _=>⟨n,rfl⟩) fun _ x _=>x)) (hd zs S2 (by rw [<- e];exact p))
theorem jm {elt iter:Expr} {pos spos py:Pos} {yy:Str} {ii:Nat} {ifs:List Expr} {scope:MO} {tg cs:List Str} {target:Expr} {wi:TI} {vi:VTN} {g:TG} {vg:VG} {tc:TT} {vt:VTT} {te:TE} {ve:VT} (hN0:X.N.Nodup) (hi0:X.N[ii]?=some yy) (hx0:Loc X.env.scope yy) (hf0:X.fn yy=true\/X.env.scope.names.lookup yy=some .local)
  (Sc:bC X scope tg cs ix) (hcalm:X.calm=true) (kg:cS tg.length ix g) (hnd:ix.Nodup)
  (hi:VI K X target iter wi vi) (hg:∀C fp s H,VGe K (aA X scope (tg++cs) C fp s H) target g vg) (hc:∀C fp s H,VTs K (aA X scope (tg++cs) C fp s H) ifs tc vt) (he:∀C fp s H,VE K (aA X scope (tg++cs) C fp s H) true elt te ve)
  (hsw:LW (.ListComp elt [⟨target,iter,ifs,0⟩] scope pos) (some (.Name yy py)) spos.line X.env=pure true:=by rfl) (hs:∀x,Kh iter X.env x=pure x:=by intro _;rfl):VS K X (.Assign [.Name yy py] (.ListComp elt [⟨target,iter,ifs,0⟩] scope pos) spos) (dD (mK wi tg.length ix g tc te) (bJ ii)) (rp (xY (tT vi tg.length ix vg vt ve)) (vgN ii)):=by
 have h:=bM (pos:=pos) Sc hcalm kg hnd hi hg hc he hs
 refine ⟨tF hN0 hi0 hx0 Sc hcalm kg hi.pi (fun C fp s H=>(hg C fp s H).pg) (fun C fp s H=>(hc C fp s H).pe) (fun C fp s H=>(he C fp s H).pe) hf0 hsw hs,ou (aH (m:=false) h).snd fun H0 Z U H S v d Q C k r zt1 hc=>by obtain ⟨hi,q⟩:=zt1;exact hc _ _ _ (k.setVal hi r).1 (k.setVal hi r).2 q⟩
end
end VL
end
section
namespace VL
open PySem L2
section
variable {P:Jp} {w:JQ} {K:IJ} {mg:Str->Option IP} {base:Heap}
def slots (n:Nat) (ds:List D):List Sl:=ds.map .val++JP (n-ds.length) .no
theorem eF {N:List Str} {i:Nat} (h:vs[i]?=some v):(start N vs)[i]?=some (some v):=by
 unfold L2.start
 have hi:=(List.getElem?_eq_some_iff.mp h).1
 rw [Jj (by simpa using hi)]
 simp [h]
theorem mT {n:Nat} {i:Nat} {s:Sl} (h:(slots n ds)[i]?=some s):s=.no\/∃d,s=.val d/\ds[i]?=some d:=by
 unfold slots at h
 by_cases hi:i < ds.length
 ·rw [Jj (by simpa using hi)] at h
  simp [hi] at h
  subst h
  exact .inr ⟨_,rfl,by simp [hi]⟩
 ·rw [Jq (by simpa using hi)] at h
  have:=Jy h
  exact .inl (L8 this)
theorem df {n:Nat} {i:Nat} {s:Sl} (h:(slots n ds)[i]?=some s):s.mut=false:=by
 rcases mT h with rfl | ⟨d,rfl,_⟩ <;> rfl
theorem tU {N:List Str} (r:Reps K Any AnyF H vs ds):OK K H (fun _=>False) (start N vs) H (slots N.length ds) where
 len:=by simp [L2.start,slots,r.length]
 dom:=fun _ e=>e
 zl:=fun _ z=>z.elim
 nz:=fun i s a h m _=>by rw [df h] at m;cases m
 inj:=fun i j a s t h1 h2 m1=>by rw [df h1] at m1;cases m1
 at_:=fun i o s h1 h2=>by
  rcases mT h2 with rfl | ⟨d,rfl,e⟩
  ·trivial
  ·obtain ⟨v,e1,e2⟩:=r.getD e
   rw [eF e1] at h1
   cases h1
   refine ⟨v,rfl,e2.mono (fun a _ _=>⟨?_,rfl⟩) fun _ x=>x⟩
   rintro (⟨j,s,g1,g2,_⟩ | z)
   ·rw [df g1] at g2;cases g2
   ·exact z
theorem bA {x:Str} {st:Stmt} {N ps:List Str} {k:Nat} (S:Src K mg x st) (sc:aE N ps (aj st))
  (hb:∀(kV doc pm:IP) (an:Option Addr) (cdv ct:IP) (us:List IP),us.length=ps.length->N7 (KC x x (cj st) (bw st) (aj st) .none kV doc pm an cdv ct) ⟨us,[]⟩=pure (ps.zip us))
  (len:∀ds R,p ds R->ds.length=ps.length)
  (hbody:∀(f:Addr) (cdv:IP) (A:JY) (outer:List Env) (s:IM) (H:Hp) (E:XK),cg k (A.deeper (L3 x (aj st) s.heap.objs.size f cdv)) ->
   ∃ts t,VSs K (i7 CX0 P w K mg base N x (aj st) f cdv A outer s H E).nox (bw st) ts t/\∀ds R,p ds R->t { nx:=fun _=>R .non,rt:=fun d _=>R d } (slots N.length ds)):Has P w K mg base (k+1) x ps (spP K p):=by
 refine S.has sc hb (fun vs H Q E zq1=>by obtain ⟨ds,R,r,h,_⟩:=zq1;rw [r.length];exact len ds R h) fun f cdv A outer s H vs Q E hr ⟨ds,R,r,h,fin⟩=>?_
 obtain ⟨ts,t,vs',q⟩:=hbody f cdv A outer s H E hr
 have k0:=tU (N:=N) r
 have st0:∀{U' S' H'},Step (fun _=>False) (start N vs) (slots N.length ds) H U' S' H'->∀a,H a≠none->H' a=H a:=fun st a e=>(st.1 a (by
  rintro (⟨j,s,g1,g2,_⟩ | z)
  ·rw [df g1] at g2;cases g2
  ·exact z) e).1
 refine ⟨ts,vs'.ps,vs'.snd H _ _ H _ _ _ k0 (q ds R h) ⟨fun U' H' S' k' st q=>fin .non .non H' q (st0 st) .non,fun U' H' S' k' st q=>q.elim,fun U' H' S' k' st q=>q.elim,fun v d U' H' S' k' st rr q=>fin d v H' q (st0 st) (rr.mono (fun _ _ _=>⟨trivial,rfl⟩) fun _ x=>x)⟩⟩
def dU (n:Nat) (a:Addr) (ns:List Int) (ds es:List D):List Sl:=ds.map .val++.pen (some a) ns::(es.map .val++JP (n-(ds.length+1+es.length)) .no)
theorem kB {n:Nat} {a:Addr} {ds es:List D} {i:Nat} {s:Sl} (h:(dU n a ns ds es)[i]?=some s):s=.no\/(∃d,s=.val d/\(ds++.non::es)[i]?=some d/\i≠ds.length)\/(i=ds.length/\s=.pen (some a) ns):=by
 unfold dU at h
 by_cases hi:i < ds.length
 ·rw [Jj (by simpa using hi)] at h
  simp [hi] at h
  subst h
  exact .inr (.inl ⟨_,rfl,by rw [Jj hi];simp [hi],by lia⟩)
 ·by_cases hi2:i=ds.length
  ·subst hi2
   rw [Jq (by simp)] at h
   simp at h
   exact .inr (.inr ⟨rfl,h.symm⟩)
  ·rw [Jq (by simp;lia)] at h
   rw [IR] at h
   obtain ⟨j,hj⟩:∃j,i-ds.length=j+1:=⟨i-ds.length-1,by lia⟩
   rw [hj,Kq] at h
   by_cases hj2:j < es.length
   ·rw [Jj (by simpa using hj2)] at h
    simp [hj2] at h
    subst h
    refine .inr (.inl ⟨_,rfl,?_,hi2⟩)
    rw [Jq (by lia),hj,Kq]
    simp [hj2]
   ·rw [Jq (by simpa using hj2)] at h
    exact .inl (L8 (Jy h))
theorem kC {x:Str} {st:Stmt} {N ps:List Str} {k:Nat} (j:Nat) {p:List Int->List D->(D->List Int->Prop)->Prop} (S:Src K mg x st) (sc:aE N ps (aj st))
  (hb:∀(kV doc pm:IP) (an:Option Addr) (cdv ct:IP) (us:List IP),us.length=ps.length->N7 (KC x x (cj st) (bw st) (aj st) .none kV doc pm an cdv ct) ⟨us,[]⟩=pure (ps.zip us))
  (len:∀ns ds R,p ns ds R->ds.length+1=ps.length)
  (hbody:∀(f:Addr) (cdv:IP) (A:JY) (outer:List Env) (s:IM) (H:Hp) (E:XK),cg k (A.deeper (L3 x (aj st) s.heap.objs.size f cdv)) ->
   ∃ts t,VSs K (i7 CX0 P w K mg base N x (aj st) f cdv A outer s H E).nox (bw st) ts t/\∀a ns ds es R,ds.length=j->p ns (ds++es) R->t { nx:=fun S'=>∃ns',S'[j]?=some (.pen (some a) ns')/\R .non ns',rt:=fun d S'=>∃ns',S'[j]?=some (.pen (some a) ns')/\R d ns' } (dU N.length a ns ds es)) :
  Has P w K mg base (k+1) x ps (spI K j p):=by
 refine S.has sc hb (fun vs H Q E zq1=>by
  obtain ⟨a,ws,us,ns,ds,es,R,e,hl,hp,r1,r2,h,_⟩:=zq1
  have:=len _ _ _ h
  rw [e,Ji,JZ,r1.length,r2.length]
  rw [Ji] at this
  lia) fun f cdv A outer s H vs Q E hr zr1=>?_
 obtain ⟨a,ws,us,ns,ds,es,R,e,hl,hp,r1,r2,h,fin⟩:=zr1
 subst e
 obtain ⟨ts,t,vs',q⟩:=hbody f cdv A outer s H E hr
 have hdl:ds.length=j:=by rw [<- r1.length];exact hl
 subst hdl
 have hmut:∀{i:Nat} {s:Sl},(dU N.length a ns ds es)[i]?=some s->s.mut=true->i=ds.length/\s=.pen (some a) ns:=fun {i s} h m=>by
  rcases kB h with rfl | ⟨d,rfl,_⟩ | h
  ·cases m
  ·cases m
  ·exact h
 have hpen:(start N (ws++.ref a::us))[ds.length]?=some (some (V.ref a)):=eF (by rw [<- hl];simp)
 have hmo:∀b,Mo (fun _=>False) (start N (ws++.ref a::us)) (dU N.length a ns ds es) b->b=a:=fun b z=>by
  rcases z with ⟨i,s,g1,g2,g3⟩ | z
  ·obtain ⟨rfl,_⟩:=hmut g1 g2
   rw [hpen] at g3;cases g3;rfl
  ·exact z.elim
 have hll:N.length-(ws.length+(us.length+1))=N.length-(ds.length+1+es.length):=by rw [r1.length,r2.length];lia
 have k0:OK K H (fun _=>False) (start N (ws++.ref a::us)) H (dU N.length a ns ds es):={
  len:=by simp [L2.start,dU,r1.length,r2.length];lia
  dom:=fun _ e=>e
  zl:=fun _ z=>z.elim
  nz:=fun _ _ _ _ _ _ z=>z
  inj:=fun i j a s t h1 h2 m1 m2 _ _=>by rw [(hmut h1 m1).1,(hmut h2 m2).1]
  at_:=fun i o s h1 h2=>by
   rcases kB h2 with rfl | ⟨d,rfl,e,hi⟩ | ⟨rfl,rfl⟩
   ·trivial
   ·have rr:∃v,(ws++.ref a::us)[i]?=some v/\Rep K (·≠a) AnyF H v d:=by
     by_cases hi2:i < ds.length
     ·rw [Jj hi2] at e
      obtain ⟨v,e1,e2⟩:=r1.getD e
      exact ⟨v,by rw [Jj (by rw [r1.length];exact hi2)];exact e1,e2⟩
     ·rw [Jq (by lia)] at e
      obtain ⟨j,hj⟩:∃j,i-ds.length=j+1:=⟨i-ds.length-1,by lia⟩
      rw [hj,Kq] at e
      obtain ⟨v,e1,e2⟩:=r2.getD e
      exact ⟨v,by rw [Jq (by rw [r1.length];lia),r1.length,hj,Kq];exact e1,e2⟩
    obtain ⟨v,e1,e2⟩:=rr
    rw [eF e1] at h1
    cases h1
    exact ⟨v,rfl,e2.mono (fun b n _=>⟨fun z=>n (hmo b z),rfl⟩) fun _ x=>x⟩
   ·rw [hpen] at h1
    cases h1
    exact ⟨a,rfl,fun b z=>by cases z;rfl,hp⟩ }
 have st0:∀{U' S' H'},Step (fun _=>False) (start N (ws++.ref a::us)) (dU N.length a ns ds es) H U' S' H'->∀b,b≠a->H b≠none->H' b=H b:=fun st b n e=>(st.1 b (fun z=>n (hmo b z)) e).1
 have pn:∀{U' S' H' ns'},OK K H (fun _=>False) U' H' S'->S'[ds.length]?=some (.pen (some a) ns')->U'[ds.length]?=some (some (V.ref a))/\H' a=some (.lst (ns'.map .int)):=fun k' e=>by
  obtain ⟨o,e1,b,rfl,e2,e3⟩:=k'.ownAt e
  obtain rfl:=e2 a rfl
  exact ⟨e1,e3⟩
 refine ⟨ts,vs'.ps,vs'.snd H _ _ H _ _ _ k0 (q a ns ds es R rfl h) ⟨fun U' H' S' k' st zt1=>by obtain ⟨ns',e,q⟩:=zt1;exact fin .non ns' .non H' q (st0 st) (pn k' e).2 .non,fun U' H' S' k' st q=>q.elim,fun U' H' S' k' st q=>q.elim,fun v d U' H' S' k' st rr ⟨ns',e,q⟩=>fin d ns' v H' q (st0 st) (pn k' e).2 (rr.mono (fun b n _=>⟨fun z=>?_,rfl⟩) fun _ x=>x)⟩⟩
 subst z
 exact n _ _ _ e (pn k' e).1
end
end VL
end
section
namespace VL
open PySem L2
mutual
def pd:D->PyData
 | .int i=>.int i
 | .bl b=>.bool b
 | .non=>.none
 | .str x=>.str x
 | .ty _=>.none
 | .dic _ _=>.none
 | .exc _=>.none
 | .oth _=>.none
 | .dib _ _=>.none
 | .tup ds=>.tuple (pds ds)
 | .lst ds=>.list (pds ds)
def pds:List D->List PyData
 | []=>[]
 | d::r=>pd d::pds r
end
mutual
def noTy:D->Bool
 | .ty _=>false
 | .dic _ _=>false
 | .exc _=>false
 | .oth _=>false
 | .dib _ _=>false
 | .tup ds=>jn ds
 | .lst ds=>jn ds
 | _=>true
def jn:List D->Bool
 | []=>true
 | d::r=>noTy d&&jn r
end
section
variable {K:IJ} {X:Cx} {pins:List (Addr×Obj)} {U:St} {H:Hp} {s:IM} {N:AP} {F:FP}
mutual
theorem bG (I:Inv X pins U H s) (hK:X.K=K) {v:V} {d:D} {u:IP}:Rep K N F H v d->noTy d=true->RelV v u->∃as,Reads s.heap u (pd d) as:=fun hh ee rr=>by
 cases hh with
 | int i=>have r:=rr;obtain ⟨t,rfl⟩:=r;exact ⟨_,.int i t⟩
 | bl b=>have r:=rr;cases r;exact ⟨_,.bool b⟩
 | non=>have r:=rr;cases r;exact ⟨_,.none⟩
 | str x=>have r:=rr;obtain ⟨t,rfl⟩:=r;exact ⟨_,.str x t⟩
 | ty x=>have e:=ee;cases e
 | dic n f h _ _ rs=>have e:=ee;simp [noTy] at e
 | exc n h _=>have e:=ee;simp [noTy] at e
 | oth h=>have e:=ee;simp [noTy] at e
 | dib n f h _ _ _ rs=>have e:=ee;simp [noTy] at e
 | tup n h rs=>
  have e:=ee
  have r:=rr
  cases r
  obtain ⟨its,rv,⟨o,ho,hc,n,hd⟩,_⟩:=I.tuple (xs:=_) (.inl h)
  obtain ⟨as,ra⟩:=cB I hK rs (by simpa [noTy] using e) rv
  exact ⟨as,.tuple ho hc hd (by simpa using ra)⟩
 | tupK h rs=>
  have e:=ee
  have r:=rr
  cases r
  obtain ⟨its,rv,⟨o,ho,hc,n,hd⟩,_⟩:=I.tuple (xs:=_) (by rw [hK];exact fZ h)
  obtain ⟨as,ra⟩:=cB I hK rs (by simpa [noTy] using e) rv
  exact ⟨as,.tuple ho hc hd (by simpa using ra)⟩
 | lst n f h rs=>
  have e:=ee
  have r:=rr
  cases r
  obtain ⟨its,rv,pl,_⟩:=I.list (xs:=_) (.inl (.inl h))
  obtain ⟨o,ho,hc,n,hd⟩:=pl.isList
  obtain ⟨as,ra⟩:=cB I hK rs (by simpa [noTy] using e) rv
  exact ⟨_,.list ho hc hd (by simpa using ra)⟩
 | lstF n f h rs=>
  have e:=ee
  have r:=rr
  cases r
  obtain ⟨its,rv,pl,_⟩:=I.list (xs:=_) (.inl (.inr ⟨_,h⟩))
  obtain ⟨o,ho,hc,n,hd⟩:=pl.isList
  obtain ⟨as,ra⟩:=cB I hK rs (by simpa [noTy] using e) rv
  exact ⟨_,.list ho hc hd (by simpa using ra)⟩
 | lstK f h rs=>
  have e:=ee
  have r:=rr
  cases r
  obtain ⟨its,rv,pl,_⟩:=I.list (xs:=_) (by rw [hK];exact jd h)
  obtain ⟨o,ho,hc,n,hd⟩:=pl.isList
  obtain ⟨as,ra⟩:=cB I hK rs (by simpa [noTy] using e) rv
  exact ⟨_,.list ho hc hd (by simpa using ra)⟩
theorem cB (I:Inv X pins U H s) (hK:X.K=K) {vs:List V} {ds:List D} {us:List IP}:Reps K N F H vs ds->jn ds=true->Vals vs us->∃as,ReadsAll s.heap us (pds ds) as:=fun hh ee rr=>by
 cases hh with
 | nil=>have r:=rr;cases r;exact ⟨_,.nil⟩
 | cons h t=>
  have e:=ee
  have r:=rr
  simp only [jn,JF] at e
  cases r with
  | cons r1 r2=>
   obtain ⟨as,ra⟩:=bG I hK h e.1 r1
   obtain ⟨bs,rb⟩:=cB I hK t e.2 r2
   exact ⟨_,.cons ra rb⟩
end
end
structure Okd (d:D):Prop where
 ty:noTy d=true
 lay:(pd d).canLay0=true
 dep:(pd d).depth<=40
def Cz (K:IJ) (neg:Bool):R2:=fun x y H Q=>∃d1 d2,Rep K Any AnyF H x d1/\Rep K Any AnyF H y d2/\Okd d1/\Okd d2/\Q (.bl (if neg then !PyData.eqv (pd d1) (pd d2) else Kl (pd d1) (pd d2))) H
def eH (neg:Bool):D->D->(D->Prop)->Prop:=fun d1 d2 q=>Okd d1/\Okd d2/\q (.bl (if neg then !PyData.eqv (pd d1) (pd d2) else Kl (pd d1) (pd d2)))
def CA (K:IJ) (neg:Bool):R2:=fun x y H Q=>∃d ds,Rep K Any AnyF H x d/\(Rep K Any AnyF H y (.lst ds)\/Rep K Any AnyF H y (.tup ds))/\Okd d/\Okd (.lst ds)/\Q (.bl (if neg then !(pds ds).any (fun y=>Kl y (pd d)) else (pds ds).any (fun y=>Kl y (pd d)))) H
def oy (neg:Bool):D->D->(D->Prop)->Prop:=fun d d2 q=>∃ds,(d2=.lst ds\/d2=.tup ds)/\Okd d/\Okd (.lst ds)/\q (.bl (if neg then !(pds ds).any (fun y=>Kl y (pd d)) else (pds ds).any (fun y=>Kl y (pd d))))
section
variable {K:IJ} {X:Cx}
theorem g9 (hK:X.K=K) (hu:X.A.units+64 < Lu):OpR X (Kz .Eq) (Cz K false):=by
 rintro pins s U H x y v u Q I rx ry ⟨d1,d2,r1,r2,o1,o2,q⟩
 obtain ⟨as,ra⟩:=bG I hK r1 o1.ty rx
 obtain ⟨bs,rb⟩:=bG I hK r2 o2.ty ry
 exact SeqAt.compareEq_reads ra rb o1.lay o2.lay (by have:=o1.dep;lia) ⟨.bl _,H,I,rfl,q⟩
theorem fI (hK:X.K=K) (hu:X.A.units+64 < Lu):OpR X (Kz .NotEq) (Cz K true):=by
 rintro pins s U H x y v u Q I rx ry ⟨d1,d2,r1,r2,o1,o2,q⟩
 obtain ⟨as,ra⟩:=bG I hK r1 o1.ty rx
 obtain ⟨bs,rb⟩:=bG I hK r2 o2.ty ry
 exact SeqAt.compareNe_reads ra rb o1.lay o2.lay (by have:=o1.dep;lia) ⟨.bl _,H,I,rfl,q⟩
theorem kE (o:Okd (.lst ds)):KY (pds ds)=true/\Lm (pds ds)<=40/\noTy (.tup ds)=true:=by
 refine ⟨by simpa [pd,Kv] using o.lay,?_,by simpa [noTy] using o.ty⟩
 have:=o.dep
 simp only [pd,Ls] at this
 lia
theorem tV (hK:X.K=K) (hu:X.A.units+64 < Lu):OpR X (Kz .In) (CA K false):=by
 rintro pins s U H x y v u Q I rx ry ⟨d,ds,r1,r2,o1,o2,q⟩
 obtain ⟨as,ra⟩:=bG I hK r1 o1.ty rx
 obtain ⟨h1,h2,h3⟩:=kE o2
 rcases r2 with r2 | r2
 ·obtain ⟨bs,rb⟩:=bG I hK r2 o2.ty ry
  exact SeqAt.in_list_reads (by simpa [pd] using rb) ra h1 o1.lay (by lia) ⟨.bl _,H,I,rfl,q⟩
 ·obtain ⟨bs,rb⟩:=bG I hK r2 h3 ry
  exact SeqAt.in_tuple_reads (by simpa [pd] using rb) ra h1 o1.lay (by lia) ⟨.bl _,H,I,rfl,q⟩
theorem kF (hK:X.K=K) (hu:X.A.units+64 < Lu):OpR X (Kz .NotIn) (CA K true):=by
 rintro pins s U H x y v u Q I rx ry ⟨d,ds,r1,r2,o1,o2,q⟩
 obtain ⟨as,ra⟩:=bG I hK r1 o1.ty rx
 obtain ⟨h1,h2,h3⟩:=kE o2
 rcases r2 with r2 | r2
 ·obtain ⟨bs,rb⟩:=bG I hK r2 o2.ty ry
  exact SeqAt.notIn_list_reads (by simpa [pd] using rb) ra h1 o1.lay (by lia) ⟨.bl _,H,I,rfl,q⟩
 ·obtain ⟨bs,rb⟩:=bG I hK r2 h3 ry
  exact SeqAt.notIn_tuple_reads (by simpa [pd] using rb) ra h1 o1.lay (by lia) ⟨.bl _,H,I,rfl,q⟩
theorem dI {neg:Bool}:cZ K (Cz K neg) (eH neg):=fun x y H d1 d2 q C r1 r2 zt1 hc=>by obtain ⟨o1,o2,h⟩:=zt1;exact ⟨d1,d2,r1,r2,o1,o2,hc _ _ h fun _ _=>.bl _⟩
theorem pW {neg:Bool}:cZ K (CA K neg) (oy neg):=fun x y H d1 d2 q C r1 r2 zt1 hc=>by obtain ⟨ds,e,o1,o2,h⟩:=zt1;exact ⟨d1,ds,r1,e.imp (fun e=>by rw [<- e];exact r2) (fun e=>by rw [<- e];exact r2),o1,o2,hc _ _ h fun _ _=>.bl _⟩
end
theorem dh {α:Type} (f:α->D):∀l:List α,pds (l.map f)=l.map fun x=>pd (f x)
 | []=>rfl
 | _::r=>by simp [pds,dh f r]
theorem hU {α:Type} {f:α->D} (h:∀x,noTy (f x)=true):∀l:List α,jn (l.map f)=true
 | []=>rfl
 | _::r=>by simp [jn,h,hU h r]
theorem jo {α:Type} {f:α->PyData} (h:∀x,(f x).canLay0=true):∀l:List α,KY (l.map f)=true
 | []=>rfl
 | _::r=>by simp [KY,h,jo h r]
theorem jq {α:Type} {f:α->PyData} {n:Nat} (h:∀x,(f x).depth<=n):∀l:List α,Lm (l.map f)<=n
 | []=>by simp [Lm]
 | x::r=>by simp only [Jd,Lm];exact Nat.max_le.mpr ⟨h x,jq h r⟩
structure Enc {α:Type} (n:Nat) (f:α->D):Prop where
 ty:∀x,noTy (f x)=true
 lay:∀x,(pd (f x)).canLay0=true
 dep:∀x,(pd (f x)).depth<=n
 eq:∀x y,Kl (pd (f x)) (pd (f y))=true↔x=y
theorem fJ {α:Type} {f:α->PyData} (h:∀x y,Kl (f x) (f y)=true↔x=y):∀l m:List α,KJ (l.map f) (m.map f)=true↔l=m
 | [],[]=>by simp [KJ]
 | [],_::_=>by simp [KJ]
 | _::_,[]=>by simp [KJ]
 | x::r,y::t=>by simp [KJ,h,fJ h r t]
theorem eY:Enc 0 D.int:=⟨fun _=>rfl,fun _=>rfl,fun _=>IS _,fun x y=>by simp [pd,Kl]⟩
theorem Enc.tup {α:Type} {n:Nat} {f:α->D} (e:Enc n f):Enc (n+1) (fun l:List α=>D.tup (l.map f)) where
 ty:=fun l=>by simp only [noTy];exact hU e.ty l
 lay:=fun l=>by simp only [pd,Kv,dh];exact jo e.lay l
 dep:=fun l=>by simp only [pd,Ls,dh];exact Nat.succ_le_succ (jq e.dep l)
 eq:=fun l m=>by simp only [pd,Kl,dh];exact fJ e.eq l m
theorem Enc.lst {α:Type} {n:Nat} {f:α->D} (e:Enc n f):Enc (n+1) (fun l:List α=>D.lst (l.map f)) where
 ty:=fun l=>by simp only [noTy];exact hU e.ty l
 lay:=fun l=>by simp only [pd,Kv,dh];exact jo e.lay l
 dep:=fun l=>by simp only [pd,Ls,dh];exact Nat.succ_le_succ (jq e.dep l)
 eq:=fun l m=>by simp only [pd,Kl,dh];exact fJ e.eq l m
theorem b6:Enc 1 eT:=eY.tup
theorem cL:Enc 2 eL:=b6.lst
theorem Enc.okd {α:Type} {n:Nat} {f:α->D} (e:Enc n f) (hn:n<=40) (x:α):Okd (f x):=⟨e.ty x,e.lay x,KB (e.dep x) hn⟩
theorem Enc.eqv {α:Type} [DecidableEq α] {n:Nat} {f:α->D} (e:Enc n f) (x y:α):Kl (pd (f x)) (pd (f y))=decide (x=y):=by
 rw [Ky,e.eq,decide_eq_true_iff]
theorem Enc.any {α:Type} [DecidableEq α] {n:Nat} {f:α->D} (e:Enc n f) (x:α) (l:List α):(pds (l.map f)).any (fun y=>Kl y (pd (f x)))=decide (x∈l):=by
 rw [dh,List.any_map]
 induction l with
 | nil=>simp
 | cons a r ih=>
  rw [List.any_cons,ih]
  simp only [LP,e.eqv]
  rw [Ky]
  simp only [Bool.or_eq_true,decide_eq_true_eq,KA]
  exact ⟨fun z=>z.elim (fun z=>.inl z.symm) .inr,fun z=>z.elim (fun z=>.inl z.symm) .inr⟩
theorem AA {α:Type} [DecidableEq α] {n:Nat} {f:α->D} (e:Enc n f) {x y:α} (h:q (.bl (decide (x=y)))) (hn:n<=40:=by decide):eH false (f x) (f y) q:=⟨e.okd hn x,e.okd hn y,by simpa [e.eqv] using h⟩
theorem AB {α:Type} [DecidableEq α] {n:Nat} {f:α->D} (e:Enc n f) {x y:α} (h:q (.bl (!decide (x=y)))) (hn:n<=40:=by decide):eH true (f x) (f y) q:=⟨e.okd hn x,e.okd hn y,by simpa [e.eqv] using h⟩
theorem mU {α:Type} [DecidableEq α] {n:Nat} {f:α->D} (e:Enc n f) {x:α} {l:List α} (h:q (.bl (!decide (x∈l)))) (hn:n+1<=40:=by decide):oy true (f x) (.lst (l.map f)) q:=⟨_,.inl rfl,e.okd (by lia) x,e.lst.okd hn l,by simpa only [e.any,if_true] using h⟩
end VL
namespace VL
open PySem L2
section
variable {K:IJ} {X:Cx}
theorem ef (hK:X.K=K):b7 X (.builtin "len") (fun xs H Q=>∃p ys,xs=[.ref p]/\(SqL K H p ys\/SqT K H p ys)/\Q (.int ys.length) H):=by subst hK;exact lh
theorem pX (hK:X.K=K):b7 X (.builtin "isinstance") (Cf K):=by subst hK;exact tx
theorem dJ:J1 "sorted"=some (.builtin "sorted"):=by decide +kernel
theorem oz:J1 "max"=some (.builtin "max"):=by decide +kernel
theorem tW:J1 "min"=some (.builtin "min"):=by decide +kernel
theorem tX:J1 "all"=some (.builtin "all"):=by decide +kernel
theorem CB:J1 "set"=some (.type "set"):=by decide +kernel
end
end VL
end
section
namespace VL
open PySem L2
section
variable {S S1:List Sl} {Q:VR->List Sl->Prop} {QT:Bool->List Sl->Prop} {QN:List D->List Sl->Prop} {QA:List VR->List Sl->Prop} {W:ba} {va vb:VT} {vr:VTA} {vt vu:VTT} {vn:VTN} {s t:VTS} {g:VG}
def FN (u:VTS) (W:ba):List Sl->Prop:=fun S'=>∃S'',Wk S' S''/\u W S''
theorem FO {u:VTS} (h:t ⟨FN u W,W.rt,W.bk,W.ct⟩ S):x4 t u W S:=h
theorem CC {u:VTS} (h:u W S):FN u W S:=⟨S,Wk.refl S,h⟩
def FQ (g:VG) (W:ba):VR->List Sl->Prop:=fun r S1=>∃d,r=.d d/\g d S1 W.nx
theorem FR (h:va S (FQ g W)):rp va g W S:=h
theorem CD (h:g d S W.nx):FQ g W (.d d) S:=⟨d,rfl,h⟩
theorem Io {i:Nat} {q:List Sl->Prop} (e:PU (i+1) S.length=true) (h:q (S.set i (.val d))):vgN i d S q:=⟨Jn e,h⟩
theorem FS {n:Nat} {u:List D->List Sl->(List Sl->Prop)->Prop} {q:List Sl->Prop} (e:ds.length=n) (h:u ds S q):vgT n u (.tup ds) S q:=⟨ds,rfl,e,h⟩
theorem CF {q:List Sl->Prop} (h:q S):Ax [] S q:=⟨rfl,h⟩
theorem yd {r:List D} {u:List D->List Sl->(List Sl->Prop)->Prop} {q:List Sl->Prop} (h:g d S fun S1=>u r S1 q):tM g u (d::r) S q:=⟨d,r,rfl,h⟩
def AC (i:Nat) (W:ba):List D->List Sl->Prop:=fun ds S1=>i < S1.length/\W.nx (S1.set i (.own ds))
theorem CG {i:Nat} (h:vn S (AC i W)):Ay i vn W S:=h
theorem ye {i:Nat} (e:PU (i+1) S.length=true) (h:W.nx (S.set i (.own ds))):AC i W ds S:=⟨Jn e,h⟩
def AD (i:Nat) (W:ba):List D->List Sl->Prop:=fun ds S1=>∃ns:List Int,ds=ns.map .int/\i < S1.length/\W.nx (S1.set i (.pen none ns))
theorem CH {i:Nat} (h:vn S (AD i W)):Az i vn W S:=h
theorem pY {i:Nat} (e:PU (i+1) S.length=true) (h:W.nx (S.set i (.pen none ns))):AD i W (ns.map .int) S:=⟨ns,rfl,Jn e,h⟩
def FT (W:ba):VR->List Sl->Prop:=fun r S1=>∃d,retD S1 r=some d/\W.rt d S1
theorem FU (h:va S (FT W)):FD va W S:=h
theorem CI (e:retD S r=some d) (h:W.rt d S):FT W r S:=⟨d,e,h⟩
def kIf (t u:VTS) (W:ba):Bool->List Sl->Prop:=fun b S1=>if b=true then t W S1 else u W S1
theorem FV {u:VTS} (h:vt S (kIf t u W)):FE vt t u W S:=h
theorem AE {u:VTS} {b:Bool} (h1:b=true->t W S) (h2:b=false->u W S):kIf t u W b S:=by
 cases b with
 | true=>show (if true=true then _ else _);rw [if_pos rfl];exact h1 rfl
 | false=>show (if false=true then _ else _);rw [if_neg IT];exact h2 rfl
theorem tY {u:VTS} (h:t W S):kIf t u W true S:=by show (if true=true then _ else _);rw [if_pos rfl];exact h
theorem tZ {u:VTS} (h:u W S):kIf t u W false S:=by show (if false=true then _ else _);rw [if_neg IT];exact h
theorem bH {u:VTS} {p:Prop} [Decidable p] (h1:p->t W S) (h2:¬p->u W S):kIf t u W (decide p) S:=AE (fun e=>h1 (of_decide_eq_true e)) (fun e=>h2 (of_decide_eq_false e))
theorem CJ {u:VTS} {p:Prop} [Decidable p] (h1:¬p->t W S) (h2:p->u W S):kIf t u W (!decide p) S:=AE (fun e=>h1 (by simpa using e)) (fun e=>h2 (by simpa using e))
def AF (W:ba):VR->List Sl->Prop:=fun _ S1=>W.nx S1
theorem CK (h:va S (AF W)):Aw va W S:=h
theorem yf (h:W.nx S):AF W r S:=h
theorem CL (h:W.nx S):Av W S:=h
theorem j_c (h:Q (.d d) S):vC d S Q:=h
theorem FW {i:Nat} (e:rdO i S[i]?=some r) (h:Q r S):mO i S Q:=⟨r,e,h⟩
def t4 (Q:VR->List Sl->Prop):VR->List Sl->Prop:=fun r S'=>(match r with | .d d=>flat d=true | .own _=>True)/\Q r S'
theorem CM (h:va S (t4 Q)):pT va S Q:=h
theorem bZ (e:flat d=true) (h:Q (.d d) S):t4 Q (.d d) S:=⟨e,h⟩
theorem t5 {i:Nat} (h:Q (.own i) S):t4 Q (.own i) S:=⟨trivial,h⟩
def k2a (w:D->D->(D->Prop)->Prop) (vb:VT) (Q:VR->List Sl->Prop):VR->List Sl->Prop:=fun ra S1=>vb S1 fun rb S2=>∃d1 d2,get S2 ra=some d1/\get S2 rb=some d2/\w d1 d2 fun d=>Q (.d d) S2
def k2b (w:D->D->(D->Prop)->Prop) (Q:VR->List Sl->Prop) (ra:VR):VR->List Sl->Prop:=fun rb S2=>∃d1 d2,get S2 ra=some d1/\get S2 rb=some d2/\w d1 d2 fun d=>Q (.d d) S2
theorem j_2 {w:D->D->(D->Prop)->Prop} (h:va S (k2a w vb Q)):v2 w va vb S Q:=h
theorem Ip {w:D->D->(D->Prop)->Prop} {ra:VR} (h:vb S (k2b w Q ra)):k2a w vb Q ra S:=h
theorem Iq {w:D->D->(D->Prop)->Prop} {ra rb:VR} {d1 d2:D} (e1:get S ra=some d1) (e2:get S rb=some d2) (h:w d1 d2 fun d=>Q (.d d) S):k2b w Q ra rb S:=⟨d1,d2,e1,e2,h⟩
theorem FX {f:Int->Int->L2.V} {i j:Int} (h:q (ofV (f i j))):wI0 f (.int i) (.int j) q:=⟨i,j,rfl,rfl,h⟩
theorem FY {C:Int->Int->Prop} {f:Int->Int->L2.V} {i j:Int} (c:C i j) (h:q (ofV (f i j))):wI C f (.int i) (.int j) q:=⟨i,j,rfl,rfl,c,h⟩
theorem FZ {neg:Bool} (h:q (.bl (if neg then !tG d else tG d))):Cm neg d .non q:=⟨rfl,h⟩
def F0 (vb:VT) (Q:VR->List Sl->Prop):VR->List Sl->Prop:=fun ra S1=>vb S1 fun rb S2=>∃ds i d,(get S2 ra=some (.lst ds)\/get S2 ra=some (.tup ds))/\get S2 rb=some (.int i)/\atI ds i=some d/\Q (.d d) S2
def CN (Q:VR->List Sl->Prop) (ra:VR):VR->List Sl->Prop:=fun rb S2=>∃ds i d,(get S2 ra=some (.lst ds)\/get S2 ra=some (.tup ds))/\get S2 rb=some (.int i)/\atI ds i=some d/\Q (.d d) S2
theorem Ir (h:va S (F0 vb Q)):vIx va vb S Q:=h
theorem F4 {ra:VR} (h:vb S (CN Q ra)):F0 vb Q ra S:=h
theorem aZ {ra rb:VR} {i:Int} (e1:get S ra=some (.lst ds)) (e2:get S rb=some (.int i)) (e3:atI ds i=some d) (h:Q (.d d) S):CN Q ra rb S:=⟨ds,i,d,.inl e1,e2,e3,h⟩
theorem AG {ra rb:VR} {i:Int} (e1:get S ra=some (.tup ds)) (e2:get S rb=some (.int i)) (e3:atI ds i=some d) (h:Q (.d d) S):CN Q ra rb S:=⟨ds,i,d,.inr e1,e2,e3,h⟩
def kUn (f:Int->L2.V) (Q:VR->List Sl->Prop):VR->List Sl->Prop:=fun r S1=>∃i,get S1 r=some (.int i)/\Q (.d (ofV (f i))) S1
theorem Iu {f:Int->L2.V} (h:va S (kUn f Q)):vUn f va S Q:=h
theorem F5 {f:Int->L2.V} {i:Int} (e:get S r=some (.int i)) (h:Q (.d (ofV (f i))) S):kUn f Q r S:=⟨i,e,h⟩
def t6 (QT:Bool->List Sl->Prop):VR->List Sl->Prop:=fun r S'=>∃k,r=.d (.bl k)/\QT k S'
theorem CO (h:va S (t6 QT)):f9 va S QT:=h
theorem yg {k:Bool} (h:QT k S):t6 QT (.d (.bl k)) S:=⟨k,rfl,h⟩
def t7 (u:VTT) (QT:Bool->List Sl->Prop):Bool->List Sl->Prop:=fun c S1=>if c=true then u S1 QT else QT false S1
def kOr (u:VTT) (QT:Bool->List Sl->Prop):Bool->List Sl->Prop:=fun c S1=>if c=true then QT true S1 else u S1 QT
def F6 (QT:Bool->List Sl->Prop):Bool->List Sl->Prop:=fun c S1=>QT (!c) S1
theorem F7 (h:vt S (t7 vu QT)):Fq vt vu S QT:=h
theorem Iw (h:vt S (kOr vu QT)):vOr vt vu S QT:=h
theorem F8 (h:vt S (F6 QT)):Cp vt S QT:=h
theorem CP {b:Bool} (h:QT (!b) S):F6 QT b S:=h
theorem jr {b:Bool} (h1:b=true->vu S QT) (h2:b=false->QT false S):t7 vu QT b S:=by
 cases b with
 | true=>show (if true=true then _ else _);rw [if_pos rfl];exact h1 rfl
 | false=>show (if false=true then _ else _);rw [if_neg IT];exact h2 rfl
theorem AH {b:Bool} (h1:b=true->QT true S) (h2:b=false->vu S QT):kOr vu QT b S:=by
 cases b with
 | true=>show (if true=true then _ else _);rw [if_pos rfl];exact h1 rfl
 | false=>show (if false=true then _ else _);rw [if_neg IT];exact h2 rfl
theorem t8 (h:vu S QT):kOr vu QT false S:=AH (fun e=>nomatch e) fun _=>h
theorem CQ (h:QT true S):kOr vu QT true S:=AH (fun _=>h) fun e=>nomatch e
theorem yh (h:vu S QT):t7 vu QT true S:=jr (fun _=>h) fun e=>nomatch e
theorem yi (h:QT false S):t7 vu QT false S:=jr (fun e=>nomatch e) fun _=>h
def t9 (vb:VT) (Q:VR->List Sl->Prop):VR->List Sl->Prop:=fun r S1=>∃c,r=.d (.bl c)/\if c=true then vb S1 Q else Q (.d (.bl false)) S1
def yj (vb:VT) (Q:VR->List Sl->Prop):VR->List Sl->Prop:=fun r S1=>∃c,r=.d (.bl c)/\if c=true then Q (.d (.bl true)) S1 else vb S1 Q
theorem CS (h:va S (t9 vb Q)):Ar va vb S Q:=h
theorem F9 (h:va S (yj vb Q)):Fs va vb S Q:=h
theorem yk {c:Bool} (h1:c=true->vb S Q) (h2:c=false->Q (.d (.bl false)) S):t9 vb Q (.d (.bl c)) S:=⟨c,rfl,by
 cases c with
 | true=>rw [if_pos rfl];exact h1 rfl
 | false=>rw [if_neg IT];exact h2 rfl⟩
theorem ua {c:Bool} (h1:c=true->Q (.d (.bl true)) S) (h2:c=false->vb S Q):yj vb Q (.d (.bl c)) S:=⟨c,rfl,by
 cases c with
 | true=>rw [if_pos rfl];exact h1 rfl
 | false=>rw [if_neg IT];exact h2 rfl⟩
def yl (va vb:VT) (Q:VR->List Sl->Prop):Bool->List Sl->Prop:=fun c S1=>if c=true then va S1 Q else vb S1 Q
theorem Ga (h:vt S (yl va vb Q)):vIf vt va vb S Q:=h
theorem ub {b:Bool} (h1:b=true->va S Q) (h2:b=false->vb S Q):yl va vb Q b S:=by
 cases b with
 | true=>show (if true=true then _ else _);rw [if_pos rfl];exact h1 rfl
 | false=>show (if false=true then _ else _);rw [if_neg IT];exact h2 rfl
theorem Gb (h:QA [] S):ot S QA:=h
def uc (vr:VTA) (QA:List VR->List Sl->Prop):VR->List Sl->Prop:=fun r S1=>vr S1 fun rs S2=>QA (r::rs) S2
theorem CT (h:va S (uc vr QA)):fw va vr S QA:=h
theorem ym (h:vr S fun rs S2=>QA (r::rs) S2):uc vr QA r S:=h
def og (Q:VR->List Sl->Prop):List VR->List Sl->Prop:=fun rs S1=>∃ds,allD rs=some ds/\ds.length<=1000/\Q (.d (.tup ds)) S1
theorem Gc (h:vr S (og Q)):Fw vr S Q:=h
theorem CU (e:allD rs=some ds) (e2:PU ds.length 1000=true) (h:Q (.d (.tup ds)) S):og Q rs S:=⟨ds,e,Jn e2,h⟩
def Ge (QN:List D->List Sl->Prop):List VR->List Sl->Prop:=fun rs S1=>∃ds,allD rs=some ds/\ds.length<=1000/\QN ds S1
theorem Gf (h:vr S (Ge QN)):Cq vr S QN:=h
theorem CV (e:allD rs=some ds) (e2:PU ds.length 1000=true) (h:QN ds S):Ge QN rs S:=⟨ds,e,Jn e2,h⟩
def CW (Q:VR->List Sl->Prop):List D->List Sl->Prop:=fun ds S1=>Q (.d (.lst ds)) S1
theorem Gg (h:vn S (CW Q)):xY vn S Q:=h
theorem CY (h:Q (.d (.lst ds)) S):CW Q ds S:=h
def kCB (w:List D->(D->Prop)->Prop) (Q:VR->List Sl->Prop):List VR->List Sl->Prop:=fun rs S1=>∃ds,gets S1 rs=some ds/\w ds fun d=>Q (.d d) S1
theorem Iy {w:List D->(D->Prop)->Prop} (h:vr S (kCB w Q)):vCB w vr S Q:=h
theorem Gh {w:List D->(D->Prop)->Prop} (e:gets S rs=some ds) (h:w ds fun d=>Q (.d d) S):kCB w Q rs S:=⟨ds,e,h⟩
theorem CZ {es:List D} (h:q (.int es.length)):Cr [.lst es] q:=⟨es,.inl rfl,h⟩
theorem Gi {i:Int} (h:q (.int (if i < 0 then -i else i))):Fz [.int i] q:=⟨i,rfl,h⟩
theorem Iz {f:Int->Int->Int} {i j:Int} (h:q (.int (f i j))):wMM f [.int i,.int j] q:=⟨i,j,rfl,h⟩
theorem IA (h:vr S (kCB p Q)):vFn p vr S Q:=h
def Gj (p:List D->(D->Prop)->Prop) (QN:List D->List Sl->Prop):List VR->List Sl->Prop:=fun rs S1=>∃ds,gets S1 rs=some ds/\p ds fun d=>∃es,d=.lst es/\flats es=true/\QN es S1
theorem Gk (h:vr S (Gj p QN)):FA p vr S QN:=h
theorem C0 (e:gets S rs=some ds) (h:p ds fun d=>∃es,d=.lst es/\flats es=true/\QN es S):Gj p QN rs S:=⟨ds,e,h⟩
def Gm (j:Nat) (p:List Int->List D->(D->List Int->Prop)->Prop) (Q:VR->List Sl->Prop):List VR->List Sl->Prop:=fun rs S1=>∃i rs' ad ns ds,pick rs j=some (i,rs')/\S1[i]?=some (.pen ad ns)/\allD rs'=some ds/\p ns ds fun d ns'=>Q (.d d) (S1.set i (.pen ad ns'))
theorem Gn {j:Nat} {p:List Int->List D->(D->List Int->Prop)->Prop} (h:vr S (Gm j p Q)):x6 j p vr S Q:=h
theorem C1 {j:Nat} {p:List Int->List D->(D->List Int->Prop)->Prop} {rs rs':List VR} {i:Nat} {ad:Option Addr} (e1:pick rs j=some (i,rs')) (e2:S[i]?=some (.pen ad ns)) (e3:allD rs'=some ds) (h:p ns ds fun d ns'=>Q (.d d) (S.set i (.pen ad ns'))):Gm j p Q rs S:=⟨i,rs',ad,ns,ds,e1,e2,e3,h⟩
def lz (QN:List D->List Sl->Prop):List VR->List Sl->Prop:=fun rs S1=>∃r ds,rs=[r]/\(get S1 r=some (.lst ds)\/get S1 r=some (.tup ds))/\flats ds=true/\QN ds S1
theorem ud (h:vr S (lz QN)):pV vr S QN:=h
theorem mV (e:get S r=some (.lst ds)) (f:flats ds=true) (h:QN ds S):lz QN [r] S:=⟨r,ds,rfl,.inl e,f,h⟩
theorem eI (e:get S r=some (.tup ds)) (f:flats ds=true) (h:QN ds S):lz QN [r] S:=⟨r,ds,rfl,.inr e,f,h⟩
def ue (Q:VR->List Sl->Prop):List VR->List Sl->Prop:=fun rs S1=>∃r ds,rs=[r]/\(get S1 r=some (.lst ds)\/r=.d (.tup ds))/\flats ds=true/\Q (.d (.tup ds)) S1
theorem yn (h:vr S (ue Q)):tJ vr S Q:=h
theorem lA (e:get S r=some (.lst ds)) (f:flats ds=true) (h:Q (.d (.tup ds)) S):ue Q [r] S:=⟨r,ds,rfl,.inl e,f,h⟩
def Gp (i:Nat) (Q:VR->List Sl->Prop):VR->List Sl->Prop:=fun r S1=>∃d ds,r=.d d/\S1[i]?=some (.own ds)/\ds.length<=1000000/\Q (.d .non) (S1.set i (.own (ds++[d])))
theorem Gq {i:Nat} (e:S[i]?=some (.own ds)) (h:va S (Gp i Q)):Cw i va S Q:=⟨⟨ds,e⟩,h⟩
theorem oA {i:Nat} (e:S[i]?=some (.own ds)) (e2:ds.length<=1000000) (h:Q (.d .non) (S.set i (.own (ds++[d])))):Gp i Q (.d d) S:=⟨d,ds,rfl,e,e2,h⟩
def pZ (i:Nat) (vi:VT) (W:ba):VR->List Sl->Prop:=fun r S1=>(∃s,S1[i]?=some s/\s.mut=true)/\vi S1 fun ri S2=>∃j,get S2 ri=some (.int j) /\
  ((∃ad ns k n,S2[i]?=some (.pen ad ns)/\ixN ns.length j=some k/\r=.d (.int n)/\W.nx (S2.set i (.pen ad (ns.set k n)))) \/
   (∃ds k d,S2[i]?=some (.own ds)/\ixN ds.length j=some k/\r=.d d/\W.nx (S2.set i (.own (ds.set k d)))))
def p6 (i:Nat) (W:ba) (r:VR):VR->List Sl->Prop:=fun ri S2=>∃j,get S2 ri=some (.int j) /\
  ((∃ad ns k n,S2[i]?=some (.pen ad ns)/\ixN ns.length j=some k/\r=.d (.int n)/\W.nx (S2.set i (.pen ad (ns.set k n)))) \/
   (∃ds k d,S2[i]?=some (.own ds)/\ixN ds.length j=some k/\r=.d d/\W.nx (S2.set i (.own (ds.set k d)))))
theorem yo {i:Nat} (h:va S (pZ i vb W)):tN i va vb W S:=h
theorem uf {i:Nat} {s:Sl} (e:S[i]?=some s) (m:s.mut=true) (h:vb S (p6 i W r)):pZ i vb W r S:=⟨⟨s,e,m⟩,h⟩
theorem rC {i:Nat} {ri:VR} {j n:Int} {ad:Option Addr} {k:Nat} (e1:get S ri=some (.int j)) (e2:S[i]?=some (.pen ad ns)) (e3:ixN ns.length j=some k) (h:W.nx (S.set i (.pen ad (ns.set k n)))):p6 i W (.d (.int n)) ri S:=⟨j,e1,.inl ⟨ad,ns,k,n,e2,e3,rfl,h⟩⟩
def kFor (g:VG) (b:VTS) (W:ba):List D->List Sl->Prop:=fun ds S1=>runFor g b W ds S1\/∃Iv:Nat->List Sl->Prop,Iv 0 S1/\(∀i d S2,ds[i]?=some d->Iv i S2->g d S2 fun S3=>b { W with nx:=Iv (i+1),ct:=Iv (i+1),bk:=W.nx } S3)/\∀S2,Iv ds.length S2->W.nx S2
theorem Gr {b:VTS} (h:vn S (kFor g b W)):FL vn g b W S:=h
theorem eJ {b:VTS} (Iv:Nat->List Sl->Prop) (h0:Iv 0 S) (h1:∀i d S2,ds[i]?=some d->Iv i S2->g d S2 fun S3=>b ⟨Iv (i+1),W.rt,W.nx,Iv (i+1)⟩ S3) (h2:∀S2,Iv ds.length S2->W.nx S2):kFor g b W ds S:=.inr ⟨Iv,h0,h1,h2⟩
theorem gh {b:VTS} {lo:Int} {n:Nat} (Iv:Nat->List Sl->Prop) (h0:Iv 0 S) (h1:∀i S2,i < n->Iv i S2->g (.int (lo+(i:Int))) S2 fun S3=>b ⟨Iv (i+1),W.rt,W.nx,Iv (i+1)⟩ S3) (h2:∀S2,Iv n S2->W.nx S2):kFor g b W (rg lo n) S:=
 .inr ⟨Iv,h0,fun i d S2 e p=>by
  have hi:i < n:=by have:=(List.getElem?_eq_some_iff.mp e).1;rwa [gZ] at this
  rw [tO hi] at e
  cases e
  exact h1 i S2 hi p,fun S2 p=>h2 S2 (by rwa [gZ] at p)⟩
def Gs (QN:List D->List Sl->Prop):VR->List Sl->Prop:=fun r S1=>∃ds,r=.d (.lst ds)/\QN ds S1
theorem Gu (h:va S (Gs QN)):FH va S QN:=h
theorem C2 (h:QN ds S):Gs QN (.d (.lst ds)) S:=⟨ds,rfl,h⟩
def Gv (QN:List D->List Sl->Prop):List VR->List Sl->Prop:=fun rs S1=>∃j:Int,rs=[.d (.int j)]/\-(2 ^ 62)<=j/\j < 2 ^ 62/\QN (rg 0 j.toNat) S1
def Gw (QN:List D->List Sl->Prop):List VR->List Sl->Prop:=fun rs S1=>∃i j:Int,rs=[.d (.int i),.d (.int j)]/\(-(2 ^ 62)<=i/\i < 2 ^ 62/\-(2 ^ 62)<=j/\j < 2 ^ 62)/\QN (rg i (j-i).toNat) S1
theorem Gx (h:vr S (Gv QN)):FI vr S QN:=h
theorem Gy (h:vr S (Gw QN)):FJ vr S QN:=h
theorem C3 {j:Int} (h1:0<=j/\j < 1000000) (h:QN (rg 0 j.toNat) S):Gv QN [.d (.int j)] S:=⟨j,rfl,by lia,by lia,h⟩
theorem C4 {i j:Int} (h1:-1000000<=i/\i < 1000000/\-1000000<=j/\j < 1000000) (h:QN (rg i (j-i).toNat) S):Gw QN [.d (.int i),.d (.int j)] S:=⟨i,j,rfl,⟨by lia,by lia,by lia,by lia⟩,h⟩
def iC (n:Nat) (ix:List Nat) (g:VG) (vt:VTT) (ve:VT) (QN:List D->List Sl->Prop):List D->List Sl->Prop:=fun ds S1=>ds.length<=1000000/\∃Iv:Nat->List D->List Sl->Prop,Iv 0 [] S1 /\
 (∀i d ys S2,ds[i]?=some d->Iv i ys S2->g d (bz n ix S2) fun S3=>vt S3 fun b S4=>if b=true then ve S4 fun r S5=>∃x,r=.d x/\Iv (i+1) (ys++[x]) (backS n ix S2 S5) else Iv (i+1) ys (backS n ix S2 S4)) /\
 ∀ys S2,Iv ds.length ys S2->QN ys S2
theorem C5 {n:Nat} {ve:VT} (h:vn S (iC n ix g vt ve QN)):tT vn n ix g vt ve S QN:=h
def fK (ve:VT) (A:D->List Sl->Prop) (B:List Sl->Prop):Bool->List Sl->Prop:=fun b S4=>if b=true then ve S4 fun r S5=>∃x,r=.d x/\A x S5 else B S4
def oB (A:D->List Sl->Prop):VR->List Sl->Prop:=fun r S5=>∃x,r=.d x/\A x S5
theorem yp {n:Nat} {ve:VT} (Iv:Nat->List D->List Sl->Prop) (hl:ds.length<=1000000) (h0:Iv 0 [] S)
  (h1:∀i d ys S2,ds[i]?=some d->Iv i ys S2->g d (bz n ix S2) fun S3=>vt S3 (fK ve (fun x S5=>Iv (i+1) (ys++[x]) (backS n ix S2 S5)) (fun S4=>Iv (i+1) ys (backS n ix S2 S4)))) (h2:∀ys S2,Iv ds.length ys S2->QN ys S2):iC n ix g vt ve QN ds S:=⟨hl,Iv,h0,h1,h2⟩
theorem ug {n:Nat} {ve:VT} {lo:Int} {m:Nat} (Iv:Nat->List D->List Sl->Prop) (hl:m<=1000000) (h0:Iv 0 [] S)
  (h1:∀i ys S2,i < m->Iv i ys S2->g (.int (lo+(i:Int))) (bz n ix S2) fun S3=>vt S3 (fK ve (fun x S5=>Iv (i+1) (ys++[x]) (backS n ix S2 S5)) (fun S4=>Iv (i+1) ys (backS n ix S2 S4)))) (h2:∀ys S2,Iv m ys S2->QN ys S2):iC n ix g vt ve QN (rg lo m) S:=
 ⟨by rw [gZ];exact hl,Iv,h0,fun i d ys S2 e p=>by
  have hi:i < m:=by have:=(List.getElem?_eq_some_iff.mp e).1;rwa [gZ] at this
  rw [tO hi] at e
  cases e
  exact h1 i ys S2 hi p,fun ys S2 p=>h2 ys S2 (by rwa [gZ] at p)⟩
theorem C6 (h:QT true S):tS S QT:=h
theorem gj {ve:VT} {A:D->List Sl->Prop} {B:List Sl->Prop} {b:Bool} (h1:b=true->ve S (oB A)) (h2:b=false->B S):fK ve A B b S:=by
 cases b with
 | true=>show (if true=true then _ else _);rw [if_pos rfl];exact h1 rfl
 | false=>show (if false=true then _ else _);rw [if_neg IT];exact h2 rfl
theorem rD {ve:VT} {A:D->List Sl->Prop} {B:List Sl->Prop} (h:ve S (oB A)):fK ve A B true S:=gj (fun _=>h) fun e=>nomatch e
theorem mW {A:D->List Sl->Prop} {x:D} (h:A x S):oB A (.d x) S:=⟨x,rfl,h⟩
theorem Gz {i j:Int} (h:q (.bl (decide (i=j)))):wEq (.int i) (.int j) q:=⟨.int i,.int j,rfl,rfl,rfl,by simpa using h⟩
theorem GA {i j:Int} (h:q (.bl (!decide (i=j)))):wNe (.int i) (.int j) q:=⟨.int i,.int j,rfl,rfl,rfl,by simpa using h⟩
theorem AI {c:String} {b:Bool} (hn:∀n,d≠.ty n) (e:rm (tyD d) c=some b) (h:q (.bl b)) (hE:isE d=false:=by with_unfolding_all rfl):xZ [d,.ty c] q:=⟨d,c,b,rfl,hn,hE,e,h⟩
end
end VL
end
section
namespace VL
open PySem L2
section
variable {K:IJ} {X:Cx} {m:Bool} {e a b c o:Expr} {ta tb tc te:TE} {va vb vc:VT} {pos:Pos}
theorem p7:∀{ps:List Addr} {nss:List (List Int)} {N:AP} {F:FP} {H:Hp},ja K (fun _=>none) ps nss->Reps K N F H (ps.map V.ref) (nss.map eT)
 | _,_,_,_,_,.nil=>.nil
 | _,_,_,_,_,.cons h t=>.cons (.tupK h Reps.ints) (p7 t)
end
section
variable {S:List Sl} {Q:VR->List Sl->Prop} {QT:Bool->List Sl->Prop} {W:ba} {va vb:VT} {vt vu:VTT} {t u:VTS} {b:Bool}
theorem GB (e:b=false) (h:vu S QT):kOr vu QT b S:=by subst e;exact t8 h
theorem GC (e:b=true) (h:t W S):kIf t u W b S:=by subst e;exact tY h
theorem GD (e:b=false) (h:u W S):kIf t u W b S:=by subst e;exact tZ h
theorem IB (e:b=true) (h:va S Q):yl va vb Q b S:=by subst e;exact ub (fun _=>h) fun e=>nomatch e
theorem IC (e:b=false) (h:vb S Q):yl va vb Q b S:=by subst e;exact ub (fun e=>nomatch e) fun _=>h
theorem GF {c:Bool} (e:c=true) (h:vb S Q):t9 vb Q (.d (.bl c)) S:=by subst e;exact yk (fun _=>h) fun e=>nomatch e
theorem GG {c:Bool} (e:c=true) (h:Q (.d (.bl true)) S):yj vb Q (.d (.bl c)) S:=by subst e;exact ua (fun _=>h) fun e=>nomatch e
theorem GH {c:Bool} (e:c=false) (h:vb S Q):yj vb Q (.d (.bl c)) S:=by subst e;exact ua (fun e=>nomatch e) fun _=>h
end
section
variable {α:Type} {S:List Sl} {QN:List D->List Sl->Prop} {g:VG} {vt:VTT} {ve:VT} {n:Nat} {ix:List Nat}
theorem bp {β:Type} {xs:List α} {en:α->β} {i:Nat} {d:β} (h:(xs.map en)[i]?=some d):∃x,xs[i]?=some x/\d=en x/\x∈xs/\xs.take (i+1)=xs.take i++[x]:=by
 rw [Jh] at h
 obtain ⟨x,h1,h2⟩:=Option.map_eq_some_iff.mp h
 refine ⟨x,h1,h2.symm,Jy h1,?_⟩
 rw [PV,h1]
 rfl
theorem di {xs:List α} {en f:α->D} {p:α->Bool} (hl:xs.length<=1000000)
  (h:∀x∈xs,∀(A:D->List Sl->Prop) (B:List Sl->Prop),(∀S5,backS n ix S S5=S->p x=true->A (f x) S5)->(∀S5,backS n ix S S5=S->p x=false->B S5)->g (en x) (bz n ix S) fun S3=>vt S3 (fK ve A B))
  (h2:QN ((xs.filter p).map f) S):iC n ix g vt ve QN (xs.map en) S:=by
 refine yp (fun i ys S'=>S'=S/\ys=((xs.take i).filter p).map f) (by simpa using hl) ⟨rfl,by simp⟩ ?_ ?_
 ·rintro i d ys S2 e ⟨rfl,rfl⟩
  obtain ⟨x,h1,rfl,hm,ht⟩:=bp e
  refine h x hm _ _ (fun S5 e5 hp=>⟨e5,?_⟩) (fun S5 e5 hp=>⟨e5,?_⟩)
  ·rw [ht,Nv,Jc]
   simp [hp]
  ·rw [ht,Nv,Jc]
   simp [hp]
 ·rintro ys S2 ⟨rfl,rfl⟩
  rw [IR,KQ]
  exact h2
theorem comp_map {xs:List α} {en f:α->D} (hl:xs.length<=1000000)
  (h:∀x∈xs,∀(A:D->List Sl->Prop) (B:List Sl->Prop),(∀S5,backS n ix S S5=S->A (f x) S5)->g (en x) (bz n ix S) fun S3=>vt S3 (fK ve A B))
  (h2:QN (xs.map f) S):iC n ix g vt ve QN (xs.map en) S:=by
 refine di (p:=fun _=>true) hl (fun x hx A B hA _=>h x hx A B fun S5 e=>hA S5 e rfl) ?_
 rwa [List.filter_eq_self.mpr (by intros;rfl)]
end
theorem p8 {p:Prop} [Decidable p] {t u:VTS} {W:ba} (P:List Sl->Prop) (fin:∀S',P S'->W.nx S') (h1:∀nx,(∀S',P S'->nx S')->p->t ⟨nx,W.rt,W.bk,W.ct⟩ S) (h2:∀nx,(∀S',P S'->nx S')->¬p->u ⟨nx,W.rt,W.bk,W.ct⟩ S):kIf t u W (decide p) S:=
 bH (fun h=>h1 W.nx fin h) fun h=>h2 W.nx fin h
section
variable {α:Type} [DecidableEq α] {n:Nat} {f:α->D} {x y:α} {l:List α} {q:D->Prop}
theorem AJ (e:Enc n f) (hx:x∉l) (h:q (.bl true)) (hn:n+1<=40:=by decide):oy true (f x) (.lst (l.map f)) q:=mU e (by rw [decide_eq_false hx];exact h) hn
theorem AK (e:Enc n f) (hx:x∈l) (h:q (.bl false)) (hn:n+1<=40:=by decide):oy true (f x) (.lst (l.map f)) q:=mU e (by rw [decide_eq_true hx];exact h) hn
theorem kG (e:Enc n f) (hx:x=y) (h:q (.bl true)) (hn:n<=40:=by decide):eH false (f x) (f y) q:=AA e (by rw [decide_eq_true hx];exact h) hn
theorem p9 (e:Enc n f) (hx:x≠y) (h:q (.bl false)) (hn:n<=40:=by decide):eH false (f x) (f y) q:=AA e (by rw [decide_eq_false hx];exact h) hn
theorem qa (e:Enc n f) (hx:x≠y) (h:q (.bl true)) (hn:n<=40:=by decide):eH true (f x) (f y) q:=AB e (by rw [decide_eq_false hx];exact h) hn
theorem js (e:Enc n f) (hx:x=y) (h:q (.bl false)) (hn:n<=40:=by decide):eH true (f x) (f y) q:=AB e (by rw [decide_eq_true hx];exact h) hn
end
theorem uh:∀{S:List Sl} {i:Nat} {ds:List D},S[i]?=some (.own ds)->Wk S (S.set i (.val (.lst ds)))
 | [],_,_,h=>by simp at h
 | s::r,0,ds,h=>by simp at h;subst h;exact .fz (Wk.refl r)
 | s::r,i+1,ds,h=>by simpa using Wk.keep (s:=s) (uh (i:=i) (by simpa using h))
end VL
end
section
namespace VL
open PySem L2 PySem.SeqAt PySem.Spec PyProof.Rows
section
variable {X:Cx} {pins:List (Addr×Obj)} {U:L2.St} {H:Hp} {s:IM} {K:IJ}
def ui (K:IJ) (le:Int->Int->Prop):List V->Hp->VK->Prop:=fun xs H Q=>∃(l:Addr) (ns:List Int),xs=[.ref l]/\SqL K H l (ns.map V.int)/\ns≠[]/\∀M,M∈ns->(∀a∈ns,le M a)->Q (.int M) H
theorem uj (hK:X.K=K) (hc:X.calm=true):b7 X (.builtin "min") (ui K (·<=·)):=by
 rintro pins s U H xs us Q I r ⟨l,ns,e,hq,hne,q⟩
 subst e hK
 obtain ⟨u,rfl,rx⟩:=Vals.one r
 cases rx
 obtain ⟨vs,rv,pl,_⟩:=I.list hq
 obtain ⟨m,F⟩:=I.fr
 exact PySem.W.kso_min F mx pl.isList (by simpa using intsAre_of rv) (List.length_pos_iff.mpr hne) (I.ok.hd hc) fun h' M t tk F' N' h1 h2=>⟨.int M,H,I.led (t':=tk) F.ns F' N',⟨_,rfl⟩,q M h1 h2⟩
theorem uk (hK:X.K=K) (hc:X.calm=true):b7 X (.builtin "max") (ui K fun M a=>a<=M):=by
 rintro pins s U H xs us Q I r ⟨l,ns,e,hq,hne,q⟩
 subst e hK
 obtain ⟨u,rfl,rx⟩:=Vals.one r
 cases rx
 obtain ⟨vs,rv,pl,_⟩:=I.list hq
 obtain ⟨m,F⟩:=I.fr
 exact PySem.W.kso_max F mx pl.isList (by simpa using intsAre_of rv) (List.length_pos_iff.mpr hne) (I.ok.hd hc) fun h' M t tk F' N' h1 h2=>⟨.int M,H,I.led (t':=tk) F.ns F' N',⟨_,rfl⟩,q M h1 h2⟩
def AL (le:Int->Int->Prop):List D->(D->Prop)->Prop:=fun ds q=>∃ns:List Int,ds=[.lst (ns.map .int)]/\ns≠[]/\∀M,M∈ns->(∀a∈ns,le M a)->q (.int M)
theorem lB {le:Int->Int->Prop}:fA K (ui K le) (AL le):=by
 rintro xs H ds q C r ⟨ns,rfl,hne,h⟩ hc
 obtain ⟨v,rfl,rv⟩:=rep1 r
 obtain ⟨a,vs,rfl,hq,rr⟩:=rv.sqL
 cases Reps.toInts rr
 exact ⟨a,ns,rfl,hq,hne,fun M h1 h2=>hc _ _ (h M h1 h2) fun _ _=>.int _⟩
end
section
variable {K:IJ} {X:Cx} {m:Bool} {e a b:Expr} {ta tb te:TE} {va vb:VT} {tr:TA} {vr:VTA} {pos p:Pos}
def GI (va:VT):VTT:=fun S Q=>va S fun r S1=>∃d b,get S1 r=some d/\tru d=some b/\Q b S1
theorem um (hK:X.K=K) (h:VE K X false e te va) (he:∀whole,Qh e X.env whole=(do let v <- whole;Mp e.pos;N5 [v] (QJ v)):=by intro _;rfl):VTe K X e (fun U H Q=>te U H fun x H'=>∃k,TruV K x H' k/\Q k H') (GI va):=
 ⟨by subst hK;exact sW h.pe he,fun H0 Z U H S Q C k t hc=>h.snd H0 Z U H S _ _ k t fun v H1 r S1 k1 st1 rr zq1=>by
  obtain ⟨d,b,e1,e2,q⟩:=zq1
  refine ⟨b,?_,hc b H1 S1 k1 st1 q⟩
  have r1:=rr.get k1 e1
  cases d with
  | int i=>cases r1;cases e2;rfl
  | bl i=>cases r1;cases e2;rfl
  | non=>cases r1;cases e2;rfl
  | str i=>cases e2
  | ty i=>cases e2
  | dic ks i=>cases e2
  | exc i=>cases e2
  | oth i=>cases e2
  | dib i j=>cases e2
  | tup ds=>obtain ⟨a,vs,rfl,hq,rr'⟩:=r1.sqT;cases e2;exact .inr (.inl ⟨vs,hq,by cases rr' <;> rfl⟩)
  | lst ds=>obtain ⟨a,vs,rfl,hq,rr'⟩:=r1.sqL;cases e2;exact .inl ⟨vs,hq,by cases rr' <;> rfl⟩⟩
def C7 (i j:Nat) (vr:VTA):VTS:=fun W S=>vr S fun rs S1=>∃d1 d2,rs=[.d d1,.d d2]/\i < S1.length/\j < S1.length/\W.nx ((S1.set i (.val d1)).set j (.val d2))
theorem C8 {i j:Nat} {stm:Stmt} (hp:PS X stm (sR i j tr)) (ha:Cj K false tr vr):VS K X stm (sR i j tr) (C7 i j vr):=⟨hp,fun H0 Z U H S W E k t l=>ha H0 Z U H S _ _ k t fun vs H1 rs S1 k1 st1 rrs zq1=>by
 obtain ⟨d1,d2,e,hi,hj,q⟩:=zq1
 subst e
 cases rrs with
 | cons r1 t1=>
  cases t1 with
  | cons r2 t2=>
   cases t2
   have r1:Rep K (NM Z U S1) AnyF H1 _ d1:=Rep.mono (fun _ n _=>⟨n,rfl⟩) (fun _ _=>trivial) r1
   have r2:Rep K (NM Z U S1) AnyF H1 _ d2:=Rep.mono (fun _ n _=>⟨n,rfl⟩) (fun _ _=>trivial) r2
   obtain ⟨k2,st2⟩:=k1.setVal hi r1
   obtain ⟨k3,st3⟩:=k2.setVal (i:=j) (by simpa using hj) (r2.step st2)
   exact ⟨_,_,rfl,l.nx _ _ _ k3 ((st1.trans st2).trans st3) q⟩⟩
def GJ (i:Nat) (t:VTN):VTN:=fun S Q=>(∃ds,S[i]?=some (.own ds))/\t S fun es S1=>∃ds,S1[i]?=some (.own ds)/\ds.length+es.length<=1000000/\Q (ds++es) S1
theorem oC {t:VTN} (i:Nat) (ho:PE X a (cF i)) (h:VN K X b tb t):VN K X (.BinOp a .Add b pos) (tOp Fg (cF i) tb) (GJ i t):=⟨sU Cd ho h.pe,fun H0 Z U H S Q C k zq1 hc=>by
 obtain ⟨⟨ds0,e0⟩,t⟩:=zq1
 obtain ⟨o,g1,c,us,rfl,g2,g3,g4⟩:=k.ownAt e0
 refine ⟨.ref c,g1,h.snd H0 Z U H S _ _ k t fun a' vs es H1 H' S1 k1 st1 ha hg hl rr zr1=>?_⟩
 obtain ⟨ds,e1,hlen,q⟩:=zr1
 obtain ⟨o',g1',c',us',rfl,g2',g3',g4'⟩:=k1.ownAt e1
 rw [g1] at g1';cases g1'
 have k2:=k1.grow hg
 have g2'':H' c=some (.lst us'):=by rw [hg c (by simp [g2'])];exact g2'
 refine ⟨c,a',us',vs,rfl,rfl,g2'',hl,by rw [g4'.length,rr.length,J7];lia,fun p hp=>?_⟩
 refine hc p _ _ H' _ S1 k2 (st1.trans (.grow hg)) hp (aV hp) aJ (Reps.append ?_ ?_) q
 ·exact cH hp ((g4'.mono (fun b n e=>⟨n,hg b e⟩) fun _ x=>x).mono (fun _ n _=>⟨n,rfl⟩) fun _ x _=>x)
 ·exact cH hp (rr.mono (fun _ n _=>⟨n.1,rfl⟩) fun _ x _=>x)⟩
abbrev VO:=List Sl->(Option Int->List Sl->Prop)->Prop
def ID (K:IJ) (te:TO) (t:VO):Prop:=∀H0 Z U H S Q C,OK K H0 Z U H S->t S Q->(∀o H' S',OK K H0 Z U H' S'->Step Z U S H U S' H'->Q o S'->C o H')->te U H C
structure VOe (K:IJ) (X:Cx) (e:Option Expr) (te:TO) (t:VO):Prop where
 pe:PO X e te
 snd:ID K te t
def GK:VO:=fun S Q=>Q none S
def uo (va:VT):VO:=fun S Q=>va S fun r S1=>∃i,r=.d (.int i)/\Q (some i) S1
theorem lC:VOe K X none pN GK:=⟨xE,fun _ _ _ _ _ _ _ k h q=>q _ _ _ k .refl h⟩
theorem gm (h:VE K X false e te va):VOe K X (some e) (Ap te) (uo va):=⟨xF h.pe,fun H0 Z U H S Q C k t hc=>h.snd H0 Z U H S _ _ k t fun v H1 r S1 k1 st1 rr zq1=>by
 obtain ⟨i,e,q⟩:=zq1
 subst e
 cases (show Rep K _ _ H1 v (.int i) from rr)
 exact ⟨i,rfl,hc _ H1 S1 k1 st1 q⟩⟩
def cutD (ds:List D) (lo hi:Option Int):List D:=(ds.drop (HT.sIx ds.length 0 lo)).take (HT.sIx ds.length ds.length hi-HT.sIx ds.length 0 lo)
theorem mX {N:AP} (r:Reps K N F H vs ds) (lo hi:Option Int):Reps K N F H (j4 vs lo hi) (cutD ds lo hi):=by
 unfold j4 cutD
 rw [r.length]
 exact (r.drop _).take _
theorem jt:∀{ds:List D} (n:Nat),flats ds=true->flats (ds.drop n)=true
 | _,0,h=>by simpa using h
 | [],_+1,h=>by simpa using h
 | d::r,n+1,h=>by simp only [flats,JF] at h;simpa using jt n h.2
theorem ju:∀{ds:List D} (n:Nat),flats ds=true->flats (ds.take n)=true
 | _,0,h=>by simp [flats]
 | [],_+1,h=>by simpa using h
 | d::r,n+1,h=>by simp only [flats,JF] at h;simp [flats,h.1,ju n h.2]
end
end VL
end
section
namespace VL
open PySem L2
theorem yq {X:Cx} {i j:Nat} {stm:Stmt} {a b:Expr} {tr:TA} {vr:VTA} (hp:∀tr,PA X [a,b] tr->PS X stm (sR i j tr)) (ha:VA K X false [a,b] tr vr):VS K X stm (sR i j tr) (C7 i j vr):=C8 (hp _ ha.pe) ha.snd
section
variable {S:List Sl} {Q:VR->List Sl->Prop} {QT:Bool->List Sl->Prop} {QN:List D->List Sl->Prop} {W:ba} {va vb:VT} {vr:VTA} {vn:VTN} {vl vh:VO}
@[irreducible] def yr (i:Nat) (QN:List D->List Sl->Prop):List D->List Sl->Prop:=fun es S1=>∃ds,S1[i]?=some (.own ds)/\ds.length+es.length<=1000000/\QN (ds++es) S1
theorem GL {i:Nat} (e:S[i]?=some (.own ds)) (h:vn S (yr i QN)):GJ i vn S QN:=by unfold yr at h;exact ⟨⟨ds,e⟩,h⟩
theorem lD {i:Nat} {es ds:List D} (e:S[i]?=some (.own ds)) (hl:ds.length+es.length<=1000000) (h:QN (ds++es) S):yr i QN es S:=by unfold yr;exact ⟨ds,e,hl,h⟩
@[irreducible] def yt (QT:Bool->List Sl->Prop):VR->List Sl->Prop:=fun r S1=>∃d b,get S1 r=some d/\tru d=some b/\QT b S1
theorem GM (h:va S (yt QT)):GI va S QT:=by unfold yt at h;exact h
theorem lE {b:Bool} (e:get S r=some d) (e2:tru d=some b) (h:QT b S):yt QT r S:=by unfold yt;exact ⟨d,b,e,e2,h⟩
@[irreducible] def yu (i j:Nat) (W:ba):List VR->List Sl->Prop:=fun rs S1=>∃d1 d2,rs=[.d d1,.d d2]/\i < S1.length/\j < S1.length/\W.nx ((S1.set i (.val d1)).set j (.val d2))
theorem GN {i j:Nat} (h:vr S (yu i j W)):C7 i j vr W S:=by unfold yu at h;exact h
theorem C9 {i j:Nat} {d1 d2:D} (h1:i < S.length) (h2:j < S.length) (h:W.nx ((S.set i (.val d1)).set j (.val d2))):yu i j W [.d d1,.d d2] S:=by unfold yu;exact ⟨d1,d2,rfl,h1,h2,h⟩
variable {QO:Option Int->List Sl->Prop}
theorem Da (h:QO none S):GK S QO:=h
@[irreducible] def kVo (QO:Option Int->List Sl->Prop):VR->List Sl->Prop:=fun r S1=>∃i,r=.d (.int i)/\QO (some i) S1
theorem uq (h:va S (kVo QO)):uo va S QO:=by unfold kVo at h;exact h
theorem GO {i:Int} (h:QO (some i) S):kVo QO (.d (.int i)) S:=by unfold kVo;exact ⟨i,rfl,h⟩
theorem lF {le:Int->Int->Prop} (hne:ns≠[]) (h:∀M,M∈ns->(∀a∈ns,le M a)->q (.int M)):AL le [.lst (ns.map .int)] q:=⟨ns,rfl,hne,h⟩
end
def mnI:List Int->Int
 | []=>0
 | [a]=>a
 | a::r=>min a (mnI r)
theorem oD:∀{ns:List Int} {a:Int},a∈ns->mnI ns<=a
 | [b],a,h=>by simp at h;subst h;exact Int.le_refl _
 | b::c::r,a,h=>by
  rw [mnI]
  ·rcases List.mem_cons.mp h with rfl | h
   ·exact Int.min_le_left ..
   ·exact Int.le_trans (Int.min_le_right ..) (oD h)
  ·simp
theorem lG:∀{ns:List Int},ns≠[]->mnI ns∈ns
 | [b],_=>by simp [mnI]
 | b::c::r,_=>by
  rw [show mnI (b::c::r)=min b (mnI (c::r)) from rfl]
  have:=lG (ns:=c::r) (by simp)
  rcases Int.le_total b (mnI (c::r)) with h | h
  ·rw [Int.min_eq_left h];simp
  ·rw [Int.min_eq_right h];exact IZ _ this
theorem lH {M:Int} (h:M∈ns) (h2:∀a∈ns,M<=a):M=mnI ns:=
 Int.le_antisymm (h2 _ (lG (List.ne_nil_of_mem h))) (oD h)
end VL
end
section
namespace VL
open PySem L2
section
variable {X:Cx} {K:IJ}
theorem yv:OpR X (Kz .IsNot) (fun x y H Q=>∃i j,x=.bl i/\y=.bl j/\Q (.bl (!(i==j))) H):=by
 intro pins s U H x y v u Q I rx ry h
 obtain ⟨i,j,rfl,rfl,q⟩:=h
 cases rx
 cases ry
 exact PyProof.Rows.isnot_bool (aT I q rfl)
def AM:D->D->(D->Prop)->Prop:=fun d1 d2 q=>∃i j,d1=.bl i/\d2=.bl j/\q (.bl (!(i==j)))
theorem Dc:cZ K (fun x y H Q=>∃i j,x=.bl i/\y=.bl j/\Q (.bl (!(i==j))) H) AM:=by
 rintro x y H d1 d2 q C r1 r2 ⟨i,j,rfl,rfl,h⟩ hc
 cases r1
 cases r2
 exact ⟨i,j,rfl,rfl,hc _ _ h fun _ _=>.bl _⟩
theorem Dd {i j:Bool} (h:q (.bl (!(i==j)))):AM (.bl i) (.bl j) q:=⟨i,j,rfl,rfl,h⟩
end
end VL
end
section
namespace VL
open PySem L2
section
variable {K:IJ} {X:Cx} {m:Bool} {e o:Expr} {te:TE} {vb:VT} {pos:Pos}
def GP (rows:List (Int×List (List Int))) (vb:VT):VT:=fun S Q=>vb S fun rb S1=>∃k nss,get S1 rb=some (.int k)/\(k,nss)∈rows/\Q (.d (.tup (nss.map eT))) S1
theorem De {a:Addr} {rows:List (Int×List (List Int))} (hK:X.K=K) (hd:okD K a rows=true) (ho:PE X o (tC (.ref a))) (h:VE K X false e te vb) (hs:cY e):VE K X m (.Subscript o e pos) (tOp (Fi K rows) (tC (.ref a)) te) (GP rows vb):=
 ⟨by subst hK;exact mG xS ho h.pe hs,fun H0 Z U H S Q C k t hc=>h.snd H0 Z U H S _ _ k t fun v H1 r S1 k1 st1 rr zq1=>by
  obtain ⟨i,nss,e1,hi,q⟩:=zq1
  cases rr.get k1 e1
  refine ⟨a,i,nss,rfl,rfl,hd,hi,fun v tt=>?_⟩
  obtain ⟨a',ps,rfl,h⟩:=tt
  obtain ⟨h1,h2⟩:=h fun _=>none
  exact hc _ H1 (.d (.tup (nss.map eT))) S1 k1 st1 (show Rep K _ _ H1 (.ref a') (.tup (nss.map eT)) from .tupK h1 (p7 h2)) q⟩
end
section
variable {S:List Sl} {Q:VR->List Sl->Prop} {vb:VT}
@[irreducible] def yw (rows:List (Int×List (List Int))) (Q:VR->List Sl->Prop):VR->List Sl->Prop:=fun rb S1=>∃k nss,get S1 rb=some (.int k)/\(k,nss)∈rows/\Q (.d (.tup (nss.map eT))) S1
theorem GQ {rows:List (Int×List (List Int))} (h:vb S (yw rows Q)):GP rows vb S Q:=by unfold yw at h;exact h
theorem Df {rows:List (Int×List (List Int))} {k:Int} {nss:List (List Int)} (e:get S r=some (.int k)) (hm:(k,nss)∈rows) (h:Q (.d (.tup (nss.map eT))) S):yw rows Q r S:=by unfold yw;exact ⟨k,nss,e,hm,h⟩
end
end VL
end
section
namespace KT
open PySem PySem.Spec L2 SeqAt PySem.W
def isNum:Int->IP->Bool
 | k,.int j _=>decide (j=k)
 | k,.bool b=>decide ((if b then (1:Int) else 0)=k)
 | _,_=>false
theorem bR {k:Int} {v:IP} (h:isNum k v=true):(∃t,v=.int k t)\/∃b,v=.bool b/\(if b then (1:Int) else 0)=k:=by
 cases v <;> simp [isNum] at h
 ·exact .inr ⟨_,rfl,h⟩
 ·exact .inl ⟨_,by rw [h]⟩
section
variable {prog:Jp} {w:JQ}
theorem rE {A:JY} {E:IP->IM->Prop} {s:IM} {b:Bool} {Q:Int->IM->Prop} (h:Q (Qz (if b then (1:Int) else 0)) { s with toks:=s.toks+1 }):JB (JD prog w) A (pyHash (.bool b)) Q E s:=by
 refine pyHash_slot (T:="bool") rfl F.slot_bool_hash entry_int_hash (args_int_hash _) (beq_builtin_none _) (.inl rfl) ?_
 cases b
 ·exact (show JB _ _ (do ret (<- mkInt 0)) _ _ s from II (Qp (IK ⟨_,_,rfl,h⟩)))
 ·exact (show JB _ _ (do ret (<- mkInt 1)) _ _ s from II (Qp (IK ⟨_,_,rfl,h⟩)))
def numKind (prog:Jp) (w:JQ):KeyKind prog w Int where
 is:=isNum
 hash:=Qz
 inj:=fun v a b x y=>by
  rcases bR x with ⟨t,rfl⟩ | ⟨c,rfl,rfl⟩
  ·rcases bR y with ⟨u,e⟩ | ⟨d,e,_⟩ <;> cases e;rfl
  ·rcases bR y with ⟨u,e⟩ | ⟨d,e,rfl⟩ <;> cases e;rfl
 byValue:=fun k v h=>by rcases bR h with ⟨t,rfl⟩ | ⟨c,rfl,_⟩ <;> rfl
 pyHash:=fun hv h=>by
  rcases bR hv with ⟨t,rfl⟩ | ⟨c,rfl,rfl⟩
  ·exact wpAny_pyHash_int h
  ·exact rE h
 eqBool:=fun {A E s a b u v Q} hu hv h=>by
  have z:∀c d:Int,decide (c=d)=(c==d):=fun c d=>by rw [Ky];simp
  rw [z] at h
  rcases bR hu with ⟨t,rfl⟩ | ⟨c,rfl,rfl⟩ <;> rcases bR hv with ⟨r,rfl⟩ | ⟨d,rfl,rfl⟩
  ·exact wpAny_eqBool_int h
  ·exact EqAt.int_bool _ _ _ prog w E Q h
  ·exact EqAt.bool_int _ _ _ prog w E Q h
  ·refine EqAt.bool_bool _ _ prog w E Q ?_
   have e:(c==d)=((if c then (1:Int) else 0)==(if d then 1 else 0)):=by cases c <;> cases d <;> rfl
   rw [e];exact h
 «strs»:=fun k x t v h=>by simp [isNum] at h
end
end KT
end
section
namespace L2
open PySem PySem.Spec PyProof.Rows
theorem jv {P:Jp} {w:JQ}:∀{ms:List Int} {us:List IP},Vals (ms.map V.int) us->ItemsAre (LF P w) ms us
 | [],_,r=>by rw [JW] at r;cases r;exact .nil
 | m::ms,_,r=>by
  rw [Jd] at r
  cases r with
  | cons h t=>obtain ⟨tk,rfl⟩:=h;exact .cons (OQ _ _ _ _) (jv t)
section
variable {X:Cx} {pins:List (Addr×Obj)} {U:St} {H:Hp} {s:IM}
theorem Dg {b:Addr} (I:Inv X pins U H s) (h:SqT X.K H b (ms.map V.int)):(MF (LF X.prog X.w)).is s.heap ms b:=by
 obtain ⟨its,r,⟨o,h1,h2,n,h3⟩,_⟩:=I.tuple h
 exact ⟨o,its.toArray,n,h1,h2,h3,by simpa using jv r⟩
inductive NumV:List Int->List V->Prop where
 | nil:NumV [] []
 | int (i:Int) {ms:List Int} {vs:List V} (t:NumV ms vs):NumV (i::ms) (.int i::vs)
 | bl (b:Bool) {ms:List Int} {vs:List V} (t:NumV ms vs):NumV ((if b then (1:Int) else 0)::ms) (.bl b::vs)
theorem NumV.ints:∀ms:List Int,NumV ms (ms.map V.int)
 | []=>.nil
 | i::r=>.int i (NumV.ints r)
def SqN (K:IJ) (H:Hp) (b:Addr) (ms:List Int):Prop:=∃vs,SqT K H b vs/\NumV ms vs
theorem SqN.of {b:Addr} (h:SqT K H b (ms.map V.int)):SqN K H b ms:=⟨_,h,NumV.ints ms⟩
theorem fL {P:Jp} {w:JQ}:∀{ms:List Int} {vs:List V} {us:List IP},NumV ms vs->Vals vs us->ItemsAre (KT.numKind P w) ms us
 | _,_,_,.nil,r=>by cases r;exact .nil
 | _,_,_,.int i t,r=>by
  cases r with
  | cons h u=>obtain ⟨tk,rfl⟩:=h;exact .cons (by simp [KT.numKind,KT.isNum]) (fL t u)
 | _,_,_,.bl b t,r=>by
  cases r with
  | cons h u=>cases h;exact .cons (by simp [KT.numKind,KT.isNum]) (fL t u)
theorem dj {b:Addr} (I:Inv X pins U H s) (h:SqN X.K H b ms):(MF (KT.numKind X.prog X.w)).is s.heap ms b:=by
 obtain ⟨vs,h,hn⟩:=h
 obtain ⟨its,r,⟨o,h1,h2,n,h3⟩,_⟩:=I.tuple h
 exact ⟨o,its.toArray,n,h1,h2,h3,by simpa using fL hn r⟩
def cr (K:IJ) (H:Hp) (es:List (List Int×Addr×V)):Prop:=∀x∈es,SqN K H x.2.1 x.1
theorem EV.keys {xs:List (List Int×Addr×IP)} (r:EV es xs):es.map (·.1)=xs.map (·.1):=by
 induction r with
 | nil=>rfl
 | cons h t ih=>rw [Jd,Jd,ih,h.1]
theorem EV.mem {xs:List (List Int×Addr×IP)} (r:EV es xs):∀x∈xs,∃e∈es,e.1=x.1/\e.2.1=x.2.1:=by
 induction r with
 | nil=>intro x h;exact nomatch h
 | @cons p q ps qs h t ih=>
  intro x hx
  rcases List.mem_cons.mp hx with rfl | hx
  ·exact ⟨p,IQ,h.1,h.2.1⟩
  ·obtain ⟨e,h1,h2⟩:=ih x hx
   exact ⟨e,IZ _ h1,h2⟩
theorem gq {a:Addr} {ob:Obj} (I:Inv X pins U H s) (e:H a=some (bK a ob es)) (k:cr X.K H es):es.length<=JA/\(a==KW)=false/\(es.map (·.1)).Nodup /\
  ∃xs,EV es xs/\s.heap.DictOfH (MF (KT.numKind X.prog X.w)) a xs:=by
 obtain ⟨z,m,nd,xs,ev,o,ds,ep,h1,h2,h3,h4⟩:=fV I e
 refine ⟨z,m,nd,xs,ev,o,ds,ep,h1,h2,h3,h4,fun x hx=>?_,by rw [<- ev.keys];exact nd⟩
 obtain ⟨e,he,e1,e2⟩:=ev.mem x hx
 rw [<- e1,<- e2]
 exact dj I (k e he)
def atE (es:List (List Int×Addr×V)) (k:List Int):Option V:=(es.find? fun x=>decide (x.1=k)).map (·.2.2)
theorem EV.at_ {xs:List (List Int×Addr×IP)} (r:EV es xs) (k:List Int):RelO (atE es k) ((NH xs k).map (·.2)):=by
 induction r with
 | nil=>exact LM
 | @cons p q ps qs h t ih=>
  obtain ⟨h1,_,h2⟩:=h
  by_cases e:p.1=k
  ·have e':q.1=k:=h1.symm.trans e
   have a:atE (p::ps) k=some p.2.2:=by simp [atE,JH,e]
   have b:NH (q::qs) k=some q.2:=by simp [NH,JH,e']
   rw [a,b];exact h2
  ·have e':¬ q.1=k:=fun z=>e (h1.trans z)
   have a:atE (p::ps) k=atE ps k:=by simp [atE,JH,e]
   have b:NH (q::qs) k=NH qs k:=by simp [NH,JH,e']
   rw [a,b];exact ih
theorem eZ:∀{o:Option V} {u:Option IP},RelO o u->o.isSome=u.isSome
 | some _,some _,_=>rfl
 | none,none,_=>rfl
 | some _,none,h=>h.elim
 | none,some _,h=>h.elim
theorem gu {k:List Int}:(atE es k).isSome=decide (k∈es.map (·.1)):=by
 induction es with
 | nil=>rfl
 | cons p ps ih=>
  by_cases e:p.1=k
  ·simp [atE,JH,e]
  ·have a:atE (p::ps) k=atE ps k:=by simp [atE,JH,e]
   rw [a,ih]
   have:¬ k=p.1:=fun z=>e z.symm
   simp [this]
def Dh (K:IJ) (neg:Bool):R2:=fun y x H Q=>∃b a ms es,y=.ref b/\x=.ref a/\SqN K H b ms/\(∃ob,H a=some (bK a ob es))/\cr K H es/\Q (.bl (if neg then !decide (ms∈es.map (·.1)) else decide (ms∈es.map (·.1)))) H
end
section
variable {X:Cx}
theorem Di (hu:X.A.units+64 < Lu):OpR X (Kz .In) (Dh X.K false):=by
 rintro pins s U H x y v u Q I rx ry ⟨b,a,ms,es,e1,e2,h1,⟨ob,h2⟩,h3,q⟩
 subst e1;subst e2
 cases rx;cases ry
 obtain ⟨z,m,nd,xs,ev,dd⟩:=gq I h2 h3
 refine wpAny_in_heap (LB (by lia)) (dj I h1) m dd ?_
 have e:=eZ (ev.at_ ms)
 rw [Mu,gu] at e
 rw [<- e]
 exact ⟨.bl _,H,I.tok _,rfl,q⟩
end
end L2
namespace L2
open PySem PySem.Spec PyProof.Rows
def fM (es:List (List Int×Addr×V)) (k:List Int) (b:Addr) (v:V):List (List Int×Addr×V):=if k∈es.map (·.1) then es.map (fun x=>if x.1=k then (x.1,x.2.1,v) else x) else es++[(k,b,v)]
theorem jw (es:List (List Int×Addr×V)) (k:List Int) (b:Addr) (v:V):(fM es k b v).length<=es.length+1:=by
 unfold fM;split <;> simp
theorem EV.repl {xs:List (List Int×Addr×IP)} (r:EV es xs) (k:List Int) {u:IP} (rv:RelV v u):EV (es.map fun x=>if x.1=k then (x.1,x.2.1,v) else x) (xs.map (putAt k u)):=by
 induction r with
 | nil=>exact .nil
 | @cons p q ps qs h t ih=>
  rw [Jd,Jd]
  refine .cons ?_ ih
  obtain ⟨h1,h2,h3⟩:=h
  unfold putAt
  by_cases e:p.1=k
  ·rw [if_pos e,if_pos (h1.symm.trans e)];exact ⟨h1,h2,rv⟩
  ·rw [if_neg e,if_neg (fun z=>e (h1.trans z))];exact ⟨h1,h2,h3⟩
theorem EV.put {xs:List (List Int×Addr×IP)} (r:EV es xs) (k:List Int) {b:Addr} {u:IP} (rv:RelV v u):EV (fM es k b v) (storedH xs k b u):=by
 have e:decide (k∈es.map (·.1))=(NH xs k).isSome:=by
  have:=eZ (r.at_ k)
  rw [Mu,gu] at this
  exact this
 unfold fM storedH
 by_cases q:(NH xs k).isSome=true
 ·rw [if_pos q,if_pos (of_decide_eq_true (e.trans q))];exact r.repl k rv
 ·rw [if_neg q,if_neg (fun z=>q (e.symm.trans (decide_eq_true z)))];exact Qq r ⟨rfl,rfl,rv⟩
section
variable {X:Cx} {o i value:Expr} {pos pos':Pos} {td ty tv:TE}
def AN (K:IJ) (td ty tv:TE):TS:=fun D U H=>tv U H fun v H1=>td U H1 fun x H2=>ty U H2 fun y H3=>∃a b ms es,x=.ref a/\y=.ref b/\SqN K H3 b ms/\(∃ob,H3 a=some (bK a ob es))/\cr K H3 es/\es.length < JA /\
 ∀ob,D.nx U (upd H3 a (bK a ob (fM es ms b v)))
theorem Dj {s:IM} {a b:Addr} {ob:Obj} {r:IP} {A:JY} {E:IP->IM->Prop} {Q:Unit->IM->Prop} (hu:A.units+1 < Lu) (I:Inv X pins U H s) (h1:SqN X.K H b ms) (h2:H a=some (bK a ob es)) (h3:cr X.K H es) (hl:es.length < JA) (rv:RelV v r)
  (h:∀ob s',Inv X pins U (upd H a (bK a ob (fM es ms b v))) s'->Q () s'):JB (JD X.prog X.w) A (QC (.ref a) (.ref b) r) Q E s:=by
 obtain ⟨z,m,nd,xs,ev,dd⟩:=gq I h2 h3
 refine Pq (hsz:=by rw [<- Kw ev];exact z) (LB hu) (dj I h1) dd fun h' dd' hs=>?_
 obtain ⟨q,ds,ep,hq,g2,g3,g4,_,g5⟩:=dd'
 refine h q _ (I.write (x:=a) (e:=a) (by rw [h2];exact LM) (.inl rfl) (fun b q hb z=>(hs.2 b hb).trans z) ⟨q,hq⟩ (DctP.ok ⟨?_,m,?_,_,ev.put ms rv,q,ds,ep,hq,g2,g3,g4⟩ hq))
 ·have:=jw es ms b v;lia
 ·rw [(ev.put ms rv).keys];exact g5
theorem yx (hu:X.A.units+64 < Lu) (ho:PE X o td) (hi:PE X i ty) (hv:PE X value tv) (hs:LW value (some (.Subscript o i pos')) pos.line X.env=pure false) :
  PS X (.Assign [.Subscript o i pos'] value pos) (AN X.K td ty tv):=by
 intro pins s U H D I h
 refine Ot (thn (hv pins s U H _ I h) fun r s1 ⟨v,H1,I1,rv,q1⟩=>thn (ho pins s1 U H1 _ I1 q1) fun u s2 ⟨x,H2,I2,rx,q2⟩=>thn (hi pins s2 U H2 _ I2 q2) fun iv s3 zr1=>?_) hs
 obtain ⟨y,H3,I3,ry,a,b,ms,es,ex,ey,h1,⟨ob,h2⟩,h3,hl,q3⟩:=zr1
 subst ex;subst ey
 obtain rfl:u=Jz a:=rx
 obtain rfl:iv=Jz b:=ry
 exact Dj (by lia) I3 h1 h2 h3 hl rv fun ob s4 I4=>⟨U,_,I4,q3 ob⟩
theorem lI {s:IM} (I:Inv X pins U H s):KW < s.heap.objs.size:=by
 have h:JC < s.heap.objs.size:=(I.mod.glob.keeps I.bk).lt
 exact Nat.lt_trans (by decide) h
def AO:TE:=fun _ H Q=>∀p ob,H p=none->Q (.ref p) (upd H p (bK p ob []))
theorem yz:PE X (.Dict [] [] pos) AO:=fun pins s U H Q I h=>
 wpAny_Dict_empty ⟨.ref s.heap.objs.size,_,I.laid (a:=s.heap.objs.size) (o:=bK s.heap.objs.size _ []) (t':=s.toks) (fun _ _ q=>IN _ q) (IS _)
  (DctP.ok ⟨Kk _,beq_eq_false_iff_ne.mpr (LS (JG (lI I))),Lz,[],.nil,_,#[],0,Je _ rfl,⟨rfl,rfl,rfl⟩,rfl,rfl⟩ (Je _ rfl)),rfl,h _ _ (I.hok.fresh (IS _))⟩
end
end L2
namespace VL
open PySem L2
def dc (kvs:List (List Int×D)):D:=.dic (kvs.map (·.1)) (kvs.map (·.2))
def od (kvs:List (List Int×D)):Sl:=.odi (kvs.map (·.1)) (kvs.map (·.2))
def cu (kvs:List (List Int×D)) (k:List Int) (d:D):List (List Int×D):=if k∈kvs.map (·.1) then kvs.map (fun x=>if x.1=k then (x.1,d) else x) else kvs++[(k,d)]
def dM (kvs:List (List Int×D)) (k:List Int):Option D:=(kvs.find? fun x=>decide (x.1=k)).map (·.2)
section
variable {K:IJ} {N:AP} {F:FP} {H:Hp}
theorem dN:∀{es:List (List Int×Addr×V)},Reps K N F H (es.map fun x=>.ref x.2.1) ((es.map (·.1)).map kT)->cr K H es
 | [],_=>fun _ h=>nomatch h
 | e::es,r=>by
  cases r with
  | cons h t=>
   intro x hx
   rcases List.mem_cons.mp hx with rfl | hx
   ·obtain ⟨a,vs,e1,hq,rr⟩:=Rep.sqT (show Rep K N F H _ (.tup (x.1.map D.int)) from h)
    cases e1
    cases Reps.toInts rr
    exact SqN.of hq
   ·exact dN t x hx
theorem Rep.dct {ks:List (List Int)} (h:Rep K N F H v (.dic ks ds)):∃a es,v=.ref a/\N a/\F (some a)/\(∃ob,H a=some (bK a ob es))/\es.map (·.1)=ks/\cr K H es/\Reps K N F H (es.map fun x=>.ref x.2.1) (ks.map kT)/\Reps K N F H (es.map (·.2.2)) ds:=by
 cases h with
 | dic n f h e rk r=>subst e;exact ⟨_,_,rfl,n,f,⟨_,h⟩,rfl,dN rk,rk,r⟩
theorem kH {k:List Int} (hv:Rep K N F H v d):∀{es:List (List Int×Addr×V)} {kvs:List (List Int×D)},es.map (·.1)=kvs.map (·.1)->Reps K N F H (es.map (·.2.2)) (kvs.map (·.2)) ->
  Reps K N F H ((es.map fun x=>if x.1=k then (x.1,x.2.1,v) else x).map (·.2.2)) ((kvs.map fun x=>if x.1=k then (x.1,d) else x).map (·.2))
 | [],[],_,_=>.nil
 | e::es,p::kvs,ek,r=>by
  simp only [Jd,OD] at ek
  cases r with
  | cons h t=>
   simp only [Jd]
   refine .cons ?_ (kH hv ek.2 t)
   by_cases hk:e.1=k
   ·rw [if_pos hk,if_pos (ek.1.symm.trans hk)];exact hv
   ·rw [if_neg hk,if_neg (fun z=>hk (ek.1.trans z))];exact h
 | [],_::_,ek,_=>by simp at ek
 | _::_,[],ek,_=>by simp at ek
theorem oE (es:List (List Int×Addr×V)) (k:List Int) (v:V):(es.map fun x=>if x.1=k then (x.1,x.2.1,v) else x).map (·.1)=es.map (·.1):=by
 rw [Jt]
 refine JL fun x _=>?_
 simp only [LP];split <;> rfl
theorem oF (es:List (List Int×Addr×V)) (k:List Int) (v:V):(es.map fun x=>if x.1=k then (x.1,x.2.1,v) else x).map (fun x=>V.ref x.2.1)=es.map fun x=>V.ref x.2.1:=by
 rw [Jt]
 refine JL fun x _=>?_
 simp only [LP];split <;> rfl
theorem cU (kvs:List (List Int×D)) (k:List Int) (d:D):(kvs.map fun x=>if x.1=k then (x.1,d) else x).map (·.1)=kvs.map (·.1):=by
 rw [Jt]
 refine JL fun x _=>?_
 simp only [LP];split <;> rfl
theorem qb {k:List Int} {b:Addr} (hv:Rep K N F H v d) {F':FP} (hb:Rep K N F' H (.ref b) (kT k)) (ek:es.map (·.1)=kvs.map (·.1))
  (rk:Reps K N F' H (es.map fun x=>V.ref x.2.1) ((kvs.map (·.1)).map kT)) (r:Reps K N F H (es.map (·.2.2)) (kvs.map (·.2))) :
  (fM es k b v).map (·.1)=(cu kvs k d).map (·.1)/\Reps K N F' H ((fM es k b v).map fun x=>V.ref x.2.1) (((cu kvs k d).map (·.1)).map kT)/\Reps K N F H ((fM es k b v).map (·.2.2)) ((cu kvs k d).map (·.2)):=by
 unfold fM cu
 by_cases hk:k∈es.map (·.1)
 ·rw [if_pos hk,if_pos (by rw [<- ek];exact hk),oE,cU,oF]
  exact ⟨ek,rk,kH hv ek r⟩
 ·rw [if_neg hk,if_neg (by rw [<- ek];exact hk)]
  simp only [Jc,Jd,JW]
  exact ⟨by rw [ek],Reps.append rk (.cons hb .nil),Reps.append r (.cons hv .nil)⟩
end
section
variable {K:IJ} {X:Cx} {m:Bool} {e o ie:Expr} {te ti:TE} {va vi:VT} {pos posS:Pos}
def GR (neg:Bool):D->D->(D->Prop)->Prop:=fun d1 d2 q=>∃ms kvs,d1=kT ms/\d2=dc kvs/\q (.bl (if neg then !decide (ms∈kvs.map (·.1)) else decide (ms∈kvs.map (·.1))))
theorem AQ {neg:Bool}:cZ K (Dh K neg) (GR neg):=by
 rintro x y H d1 d2 q C r1 r2 ⟨ms,kvs,rfl,rfl,h⟩ hc
 obtain ⟨b,vs,rfl,hq,rr⟩:=Rep.sqT (show Rep K _ _ H x (.tup (ms.map D.int)) from r1)
 cases Reps.toInts rr
 obtain ⟨a,es,rfl,_,_,ha,ek,hk,_,_⟩:=Rep.dct (show Rep K _ _ H y (.dic _ _) from r2)
 refine ⟨b,a,ms,es,rfl,rfl,SqN.of hq,ha,hk,?_⟩
 rw [ek]
 exact hc _ _ h fun _ _=>.bl _
theorem AR (hK:X.K=K) (hu:X.A.units+64 < Lu):OpR X (Kz .In) (Dh K false):=by subst hK;exact Di hu
abbrev VTD:=List Sl->(List (List Int×D)->List Sl->Prop)->Prop
def IE (K:IJ) (te:TE) (t:VTD):Prop:=∀H0 Z U H S Q C,OK K H0 Z U H S->t S Q->(∀a es kvs H1 H' S',OK K H0 Z U H1 S'->Step Z U S H U S' H1->H1 a=none->(∀b,H1 b≠none->H' b=H1 b)->(∃ob,H' a=some (bK a ob es)) ->
 es.map (·.1)=kvs.map (·.1)->Reps K (fun b=>NM Z U S' b/\b≠a) AnyF H' (es.map fun x=>V.ref x.2.1) ((kvs.map (·.1)).map kT)->Reps K (fun b=>NM Z U S' b/\b≠a) (Fr H0) H' (es.map (·.2.2)) (kvs.map (·.2))->Q kvs S'->C (.ref a) H')->te U H C
structure VDe (K:IJ) (X:Cx) (e:Expr) (te:TE) (t:VTD):Prop where
 pe:PE X e te
 snd:IE K te t
def AS:VTD:=fun S Q=>Q [] S
theorem oG:VDe K X (.Dict [] [] pos) AO AS:=⟨yz,fun H0 Z U H S Q C k t hc=>fun p ob hp=>hc p [] [] H _ S k .refl hp (aV hp) ⟨ob,aJ⟩ rfl .nil .nil t⟩
def AT (i:Nat) (t:VTD):VTS:=fun V S=>t S fun kvs S1=>i < S1.length/\V.nx (S1.set i (od kvs))
theorem gv {i:Nat} {x:Str} {pos':Pos} {tn:VTD} (ps:∀te,PE X e te->PS X (.Assign [.Name x pos'] e pos) (dD te (bJ i))) (h:VDe K X e te tn):VS K X (.Assign [.Name x pos'] e pos) (dD te (bJ i)) (AT i tn):=
 ⟨ps te h.pe,fun H0 Z U H S V E k t l=>h.snd H0 Z U H S _ _ k t fun a es kvs H1 H' S' k1 st1 ha hg hl ek rk rr zq1=>by
  obtain ⟨hi,q⟩:=zq1
  obtain ⟨k2,st2⟩:=k1.setNew (s:=od kvs) hi ha hg ⟨a,es,rfl,hl,k1.dom a ha,⟨ek,rk⟩,rr⟩ rfl
  exact l.nx _ _ _ k2 (st1.trans st2) q⟩
def AU (i:Nat) (ve vi:VT):VTS:=fun V S=>ve S fun r S1=>(∃kvs,S1[i]?=some (od kvs))/\vi S1 fun ri S2=>∃d ms kvs,r=.d d/\get S2 ri=some (kT ms)/\S2[i]?=some (od kvs)/\kvs.length<=1000000/\V.nx (S2.set i (od (cu kvs ms d)))
theorem iO (i:Nat) (hK:X.K=K) (hu:X.A.units+64 < Lu) (ho:PE X o (cF i)) (h:VE K X true e te va) (hi:VE K X false ie ti vi) (hs:LW e (some (.Subscript o ie posS)) pos.line X.env=pure false:=by rfl) :
  VS K X (.Assign [.Subscript o ie posS] e pos) (AN K (cF i) ti te) (AU i va vi):=⟨by subst hK;exact yx hu ho hi.pe h.pe hs,fun H0 Z U H S V E k t l=>by
 refine h.snd H0 Z U H S _ _ k t fun x H1 r S1 k1 st1 rr zr1=>?_
 obtain ⟨⟨kvs0,e0⟩,q⟩:=zr1
 obtain ⟨o1,g1,p,es0,rfl,_⟩:=k1.ownAt e0
 refine ⟨.ref p,g1,hi.snd H0 Z U H1 S1 _ _ k1 q fun y H2 ri S2 k2 st2 rr2 zr1=>?_⟩
 obtain ⟨d,ms,kvs,er,ek,e1,hl,q2⟩:=zr1
 subst er
 obtain ⟨o2,g2,p',es,e2,h2,h3,⟨h4,h5⟩,h6⟩:=k2.ownAt e1
 rw [g1] at g2;cases g2;cases e2
 have rx:Rep K (NM Z U S2) (FM H0 true) H2 x d:=Rep.step (show Rep K (NM Z U S1) (FM H0 true) H1 x d from rr) st2
 have ry:∃b,y=.ref b/\SqT K H2 b (ms.map L2.V.int)/\Rep K (NM Z U S2) AnyF H2 (.ref b) (kT ms):=by
  cases ri with
  | d z=>
   cases ek
   obtain ⟨b,vs,rfl,hq,rr⟩:=Rep.sqT (show Rep K _ _ H2 y (.tup (ms.map D.int)) from rr2)
   cases Reps.toInts rr
   exact ⟨b,rfl,hq,Rep.mono (fun _ n _=>⟨n,rfl⟩) (fun _ _=>trivial) rr2⟩
  | own j=>
   have ek:getO S2[j]?=some (kT ms):=ek
   cases es:S2[j]? with
   | none=>rw [es] at ek;cases ek
   | some s=>rw [es] at ek;cases s <;> cases ek
 obtain ⟨b,rfl,hq,rb⟩:=ry
 have hk:cr K H2 es:=dN (by rw [h4];exact h5)
 refine ⟨p,b,ms,es,rfl,rfl,SqN.of hq,h2,hk,?_,?_⟩
 ·have:es.length=kvs.length:=by have:=congrArg K4 h4;simpa using this
  rw [J7];lia
 ·intro obn
  have na:NM Z U S2 p->False:=fun n=>n (.inl ⟨i,_,e1,rfl,g1⟩)
  have hm:∀b,NM Z U S2 b->H2 b≠none->NM Z U S2 b/\upd H2 p (bK p obn (fM es ms b x)) b=H2 b:=fun b n _=>⟨n,aL fun z=>na (by rw [<- z];exact n)⟩
  have hm':∀c,NM Z U S2 c->H2 c≠none->NM Z U S2 c/\upd H2 p (bK p obn (fM es ms b x)) c=H2 c:=fun c n _=>⟨n,aL fun z=>na (by rw [<- z];exact n)⟩
  obtain ⟨z1,z2,z3⟩:=qb (k:=ms) (b:=b) (Rep.mono hm' (fun _ x=>x rfl) rx) (Rep.mono hm' (fun _ x=>x) rb) h4 (h5.mono hm' fun _ x=>x) (h6.mono hm' fun _ x=>x)
  obtain ⟨k3,st3⟩:=k2.chgD (s:=od (cu kvs ms d)) (o:=bK p obn (fM es ms b x)) e1 rfl g1 rfl ⟨p,_,rfl,⟨obn,aJ⟩,h3,⟨z1,z2⟩,z3⟩
  exact l.nx _ _ _ k3 ((st1.trans st2).trans st3) q2⟩
end
end VL
end
section
namespace L2
open PySem PySem.Spec PyProof.Rows
section
variable {prog:Jp} {w:JQ} {A:JY} {E:IP->IM->Prop} {s:IM}
theorem lJ {t S:Addr} {items:Array IP} {led:Bool} {R:Result->IM->Prop} (hh:A.handled=none) (ht:s.heap.IsTuple t items) (hi:O7 items.toList ns) (hb:items.size+1 < OE)
  (hS:s.heap.get? S=some { cls:=.type "set",dict:=none,data:=.set #[] 0 (.fresh 0 0 led) })
  (h:∀s',Moved [S,s.heap.objs.size] (fun a b=>b=a) { s with heap:=s.heap.push { cls:=.type "tuple_iterator",data:=.fields #[.ref t,.int 0 0] } } s' ->
   s'.heap.SetOf (LF prog w) S (fun k=>(MX (fun i=>ns.getD i 0) items.size).any (·==k)) (MX (fun i=>ns.getD i 0) items.size).length->R (.ok (.ret .none)) s') :
  JB (JD prog w) A.in1 (Builtin.«set.__init__» ⟨[.ref S,.ref t],[]⟩) (fun fin s'=>match fin with | .done f=>R (.ok f) s' | .again c'=>c'.quiet=true/\L0 (JD prog w) A c' R s') (fun e s'=>R (.error e) s') s:=by
 have ty:s.TypeIs (.ref S) "set":=⟨_,hS,rfl⟩
 have tt:s.TypeIs (.ref t) "tuple":=ht.typeIs
 have n1:isSubtype (.type "tuple") (.type "set")=pure false:=by rw [isSubtype_type];kernel_rfl
 have n2:isSubtype (.type "tuple") (.type "frozenset")=pure false:=by rw [isSubtype_type];kernel_rfl
 simp only [Builtin.«set.__init__»,noKeywords,Builtin.Frozenset.updateFrom]
 wp_walk using wpAny_pyIter_tuple ht
 have tlt:t < s.heap.objs.size:=by obtain ⟨o,e,_⟩:=ht;exact Jg e
 have W:=Walks.tuple (prog:=prog) (w:=w) (A:=A.in1.in1) (by simp [hh]) s.heap.objs.size t (JG tlt) items
 have zero:Heap.SetOf (LF prog w) (s.heap.push { cls:=.type "tuple_iterator",data:=.fields #[.ref t,.int 0 0] }) S (fun k=>(MX (fun i=>ns.getD i 0) 0).any (·==k)) (MX (fun i=>ns.getD i 0) 0).length:=
  (setObjOf_fresh (knd:=LF prog w) led).setOf (IN _ hS) (by decide)
 refine codeAny_set_update_loopS W.toS S ?_ _ (fun i v e=>hi.int_at i v (by rwa [JI])) hb _ 0 _ rfl (Kk _) ⟨⟨_,Je _ rfl,rfl,rfl⟩,ht.push _⟩ zero fun s' mv so=>IK (IK (h s' mv so))
 intro z
 rcases List.mem_cons.mp z with e | e
 ·exact absurd e (JG (Jg hS))
 ·obtain ⟨o,e1,e2,_⟩:=ht
  rw [List.mem_singleton.mp e,e1] at hS
  cases hS
  exact absurd e2 (by simp)
theorem mY {c:Code} {Q:IP->IM->Prop} {R:Result->IM->Prop} (h:L0 (JD prog w) A c (wants Q E) s) (ok:∀v s',Q v s'->R (.ok (.ret v)) s') (no:∀e s',E e s'->R (.error e) s'):L0 (JD prog w) A c R s:=
 Oy h fun r s' z=>match r,z with
  | .error e,z=>no e s' z
  | .ok (.ret v),z=>ok v s' z
theorem mZ {T newId initId:String} {args:List IP} {Q Q1:IP->IM->Prop} (ft:TypeCalled T newId initId) (ct:checkTypeCall T ⟨args,[]⟩=pure ())
  (new:L0 (JD prog w) A.in1 (.call (.builtin newId) ⟨.type T::args,[]⟩) (wants Q1 E) s)
  (init:∀v s1,Q1 v s1->s1.TypeIs v T/\L0 (JD prog w) A.in1 (.call (.builtin initId) ⟨v::args,[]⟩) (wants (fun r s2=>r=.none/\Q v s2) E) s1):JB (JD prog w) A (call (.type T) args) Q E s:=by
 have f1:=ft.notType
 have f2:=ft.canCreate
 have f3:=ft.made
 have f4:=ft.sub
 have f5:=ft.init.lookup
 have f6:=fun v=>ft.init.bind v
 have ⟨_,_,f7⟩:=ft.mro
 apply wpAny_call
 apply codeAny_of_tree
 wp_walk
 constructor
 ·exact Code.quiet_builtin _ (by decide +kernel)
 apply OF F.entry_type_call
 rw [Around.under_plain (weight_type_call_type ..) rfl]
 repeat' (first | assumption | wp_step)
 refine mY new (fun v s1 hv=>?_) fun e s' he=>he
 obtain ⟨g1,g2⟩:=init v s1 hv
 have f8:=f6 v
 repeat' (first | assumption | wp_step)
 refine mY g2 (fun u s2 hu=>?_) fun e s' he=>he
 obtain ⟨rfl,q⟩:=hu
 repeat' (first | assumption | wp_step)
theorem yA {t:Addr} {items:Array IP} {Q:IP->IM->Prop} (hh:A.handled=none) (ht:s.heap.IsTuple t items) (hi:O7 items.toList ns) (hb:items.size+1 < OE)
  (h:∀(h':Heap) (tk:Nat),(∀b o,s.heap.get? b=some o->h'.get? b=some o) ->
   h'.SetOf (LF prog w) s.heap.objs.size (fun k=>(MX (fun i=>ns.getD i 0) items.size).any (·==k)) (MX (fun i=>ns.getD i 0) items.size).length->Q (.ref s.heap.objs.size) { s with heap:=h',toks:=tk }) :
  JB (JD prog w) A (call (.type "set") [.ref t]) Q E s:=by
 refine mZ F.called_set (F.typeCall_set_1 _) (code_set_new_1 (Q₁:=fun v s1=>∃led,v=.ref s.heap.objs.size/\s1={ s with heap:=s.heap.push { cls:=.type "set",dict:=none,data:=.set #[] 0 (.fresh 0 0 led) } }) _ fun led=>⟨led,rfl,rfl⟩) ?_
 rintro v s1 ⟨led,rfl,rfl⟩
 have e0:(s.heap.push { cls:=.type "set",dict:=none,data:=.set #[] 0 (.fresh 0 0 led) }).get? s.heap.objs.size=some { cls:=.type "set",dict:=none,data:=.set #[] 0 (.fresh 0 0 led) }:=Je _ rfl
 refine ⟨⟨_,e0,rfl⟩,codeAny_call_builtin F.called_set.init.plain F.entry_set_init (check_set_init_1 ⟨_,e0,rfl⟩ ?_)⟩
 refine lJ (A:=A.in1) hh (ht.push _) hi hb e0 fun s' mv so=>⟨rfl,?_⟩
 rw [mv.eq_with] at so ⊢
 refine h s'.heap s'.toks (fun b o e=>?_) so
 have lt:=Jg e
 refine mv.heap b o ?_ (IN _ (IN _ e))
 simp only [KA,Ko,or_false,MB]
 exact fun z=>z.elim (fun q=>JG lt q) fun q=>JG (PZ lt) q
end
end L2
end
section
namespace VL
open PySem L2
section
variable {S:List Sl} {Q:VR->List Sl->Prop} {QN:List D->List Sl->Prop} {QD:List (List Int×D)->List Sl->Prop} {W:ba} {va vb:VT} {vr:VTA} {vd:VTD}
theorem Dk (h:QD [] S):AS S QD:=h
@[irreducible] def qc (i:Nat) (W:ba):List (List Int×D)->List Sl->Prop:=fun kvs S1=>i < S1.length/\W.nx (S1.set i (od kvs))
theorem Dl {i:Nat} (h:vd S (qc i W)):AT i vd W S:=by unfold qc at h;exact h
theorem yB {i:Nat} (e:PU (i+1) S.length=true) (h:W.nx (S.set i (od kvs))):qc i W kvs S:=by unfold qc;exact ⟨Jn e,h⟩
@[irreducible] def qf (i:Nat) (vi:VT) (W:ba):VR->List Sl->Prop:=fun r S1=>(∃kvs,S1[i]?=some (od kvs))/\vi S1 fun ri S2=>∃d ms kvs,r=.d d/\get S2 ri=some (kT ms)/\S2[i]?=some (od kvs)/\kvs.length<=1000000/\W.nx (S2.set i (od (cu kvs ms d)))
@[irreducible] def lK (i:Nat) (r:VR) (W:ba):VR->List Sl->Prop:=fun ri S2=>∃d ms kvs,r=.d d/\get S2 ri=some (kT ms)/\S2[i]?=some (od kvs)/\kvs.length<=1000000/\W.nx (S2.set i (od (cu kvs ms d)))
theorem Dm {i:Nat} {vi:VT} (h:va S (qf i vi W)):AU i va vi W S:=by unfold qf at h;exact h
theorem yC {i:Nat} {vi:VT} (e:S[i]?=some (od kvs)) (h:vi S (lK i r W)):qf i vi W r S:=by unfold qf;unfold lK at h;exact ⟨⟨kvs,e⟩,h⟩
theorem gw {i:Nat} {ri:VR} (e1:get S ri=some (kT ms)) (e2:S[i]?=some (od kvs)) (hl:kvs.length<=1000000) (h:W.nx (S.set i (od (cu kvs ms d)))):lK i (.d d) W ri S:=by unfold lK;exact ⟨d,ms,kvs,rfl,e1,e2,hl,h⟩
theorem ur {neg:Bool} {d1 d2:D} (e1:d1=kT ms) (e2:d2=dc kvs) (h:q (.bl (if neg then !decide (ms∈kvs.map (·.1)) else decide (ms∈kvs.map (·.1))))):GR neg d1 d2 q:=⟨ms,kvs,e1,e2,h⟩
end
theorem oH {α:Type} [DecidableEq α] {n:Nat} {f:α->D} (e:Enc n f) {x:α} {l:List α} (h:q (.bl (decide (x∈l)))) (hn:n+1<=40:=by decide):oy false (f x) (.tup (l.map f)) q:=⟨_,.inr rfl,e.okd (by lia) x,e.lst.okd hn l,by simpa only [e.any,Jk,if_false] using h⟩
theorem rF {ve:VT} {A:D->List Sl->Prop} {B:List Sl->Prop} (h:B S):fK ve A B false S:=gj (fun e=>nomatch e) fun _=>h
section
variable {K:IJ} {X:Cx} {e:Expr} {te:TE} {va:VT} {pos pos':Pos} {x:Str}
theorem aI {i:Nat} (hN:X.N.Nodup) (hi:X.N[i]?=some x) (hx:Loc X.env.scope x) (h:VE K X false e te va) (hs:LW e (some (.Name x pos')) pos.line X.env=pure false:=by rfl)
  (hf:X.fn x=true\/X.env.scope.names.lookup x=some .local:=by first | exact .inl rfl | exact .inr rfl | assumption):VS K X (.Assign [.Name x pos'] e pos) (dD te (bJ i)) (rp va (vgN i)):=Cv (fun _ h=>bU hN hi hx h hs hf) h
end
end VL
end
section
namespace L2
open PySem PySem.Spec PyProof.Rows
def Do (lo c:Int) (n:Nat):It:=⟨fun i _=>i < n,fun i H x H'=>H'=H/\x=.int (lo+i*c),fun i _=>n<=i⟩
theorem m3 {P:Jp} {w:JQ} {tg:Expr} (it:Addr) (lo c:Int) (n:Nat):Turn P w K tg (Do lo c n) [it] it (fun i h=>O6 h it (lo+(i:Nat)*c) ((n:Int)-(i:Nat)) c) where
 mem:=by simp
 obj:=fun i h st b hb=>by
  have e:b=it:=by simpa using hb
  subst e
  exact ⟨_,st,fun v z=>by
   have z':N6 _=M9 v:=z
   cases z'⟩
 keep:=fun i h h' st k=>k it (by simp) _ st
 item:=by
  intro X hP hw hK hc i pins s U H E I hf st hg
  subst hP hw hK
  obtain ⟨f0,f1,f2,f3,f4,f5⟩:=hf it (by simp)
  have W:=Walks.range (prog:=X.prog) (w:=X.w) (I.ok.hd hc) it lo c n
  refine W.item i s _ _ hg st fun v h' tk hv st' kk=>?_
  obtain ⟨t,rfl⟩:=hv
  have I1:Inv X pins U H { s with heap:=h',toks:=tk }:=I.turned (fun b o hb e=>kk b o (by simpa using hb) e) f0 f1 f3 f4 f5
  exact ⟨_,rfl,pG (s:={ s with heap:=h',toks:=tk }) (n:="range_iterator") st' rfl rfl (by decide) ⟨.int (lo+i*c),H,I1,⟨t,rfl⟩,⟨rfl,rfl⟩,st',fun b hb=>(hf b hb).1⟩⟩
 done:=by
  intro X hP hw hK hc i pins s U H E I hf st hg
  subst hP hw hK
  obtain ⟨f0,f1,f2,f3,f4,f5⟩:=hf it (by simp)
  exact Om (I.ok.hd hc) st (by have:n<=i:=hg;lia) fun h' eb=>⟨rfl,I.turned (t':=s.toks) (fun b o hb e=>eb b o hb e) f0 f1 f3 f4 f5⟩
 self:=fun _ _ _ _ _ st h=>On st h
section
variable {X:Cx} {tg:Expr}
def AV (ta:TA):TI:=fun U H R=>ta U H fun vs H1=>∃i j c:Int,vs=[.int i,.int j,.int c]/\(-1000000<=i/\i < 1000000/\-1000000<=j/\j < 1000000/\0 < c/\c < 1000)/\R (Do i c (Jr i j c).toNat) H1
theorem rG {a b c:Expr} {ta:TA} {p pos:Pos} (hg:Gl X "range") (hm:X.mg "range"=none) (ha:PA X [a,b,c] ta) (hs:Jf [a,b,c] X.env=[(false,eval a X.env),(false,eval b X.env),(false,eval c X.env)]:=by rfl) (hs2:Jf [b,c] X.env=[(false,eval b X.env),(false,eval c X.env)]:=by rfl) :
  PI X tg (.Call (.Name "range" p) [a,b,c] [] pos) (AV ta):=by
 intro pins s U H R I h
 refine Call_ (fC I hg hm Qv (Kx (thn (ha pos pins s U H _ I h) fun us s1 ⟨vs,H1,I1,r1,q1⟩=>?_) (by rw [hs,hs2]) (by rw [hs2];rfl)))
 obtain ⟨lo,hi,c,e,⟨h1,h2,h3,h4,h5,h6⟩,q⟩:=q1
 subst e
 cases r1 with
 | cons r rr=>
  cases rr with
  | cons r' rr=>
   cases rr with
   | cons r'' rr=>
    cases rr
    obtain ⟨t,rfl⟩:=r
    obtain ⟨u,rfl⟩:=r'
    obtain ⟨v,rfl⟩:=r''
    refine call_range_3 (by lia) ?_ (IW (Oo (by lia)))
    have hn:0<=Jr lo hi c:=by
     unfold Jr
     rw [if_pos h5]
     split
     ·have:=Int.ediv_nonneg (a:=hi-lo-1) (b:=c) (by lia) (by lia)
      lia
     ·lia
    refine Ph (IsRange.new ..) (by
     have hb:Jr lo hi c<=2000001:=by
      unfold Jr
      rw [if_pos h5]
      split
      ·have:=Int.ediv_le_self (a:=hi-lo-1) c (by lia)
       lia
      ·lia
     have hm:(Jr lo hi c)*c<=2000001*1000:=Int.mul_le_mul hb (by lia) (by lia) (by lia)
     unfold Builtin.Range.small
     simp only [Builtin.Range.rangeFitsLong,JF,Bool.or_eq_true,decide_eq_true_eq,beq_iff_eq]
     generalize Jr lo hi c=sz at *
     refine ⟨by lia,.inr ?_⟩
     rw [if_pos (by lia),JF,decide_eq_true_eq,decide_eq_true_eq]
     lia) ?_
    have I2:Inv X pins U H1 { s1 with heap:=s1.heap.push { cls:=.type "range",data:=.fields #[.int lo t,.int hi u,.int c v] },toks:=s1.toks }:=I1.kept fun b o e=>IN _ e
    refine ⟨(s1.heap.push { cls:=.type "range",data:=.fields #[.int lo t,.int hi u,.int c v] }).objs.size,[(s1.heap.push { cls:=.type "range",data:=.fields #[.int lo t,.int hi u,.int c v] }).objs.size],_,_,H1,rfl,
     I2.kept (t':=s1.toks) fun b o e=>IN _ e,m3 _ lo c (Jr lo hi c).toNat,?_,fun b hb=>?_,q⟩
    ·have e1:lo+((0:Nat):Int)*c=lo:=by simp
     have e2:(((Jr lo hi c).toNat:Nat):Int)-((0:Nat):Int)=Jr lo hi c:=by lia
     show O6 _ _ (lo+((0:Nat):Int)*c) ((((Jr lo hi c).toNat:Nat):Int)-((0:Nat):Int)) c
     rw [e1,e2]
     exact Je _ rfl
    ·have e:b=(s1.heap.push { cls:=.type "range",data:=.fields #[.int lo t,.int hi u,.int c v] }).objs.size:=by simpa using hb
     subst e
     exact I2.fpOk (IS _) (I2.hok.fresh (IS _))
end
end L2
namespace VL
open PySem L2
section
variable {K:IJ} {X:Cx} {a b c tg:Expr} {tr:TA} {vr:VTA} {p pos:Pos}
def rg3 (lo c:Int) (n:Nat):List D:=(JS n).map fun (i:Nat)=>D.int (lo+(i:Int)*c)
theorem yD {lo c:Int} {n:Nat}:Gd K Z (Do lo c n) (rg3 lo c n) U S H:=fun U2 S2 H2 _ st2 i=>by
 have e:(rg3 lo c n).length=n:=by simp [rg3]
 rw [e]
 refine ⟨fun h=>h,fun x H3 zt1 hi=>by obtain ⟨e,hx⟩:=zt1;exact ⟨fun _ _=>by rw [e],.int (lo+(i:Int)*c),by simp [rg3,hi],by rw [hx];exact .int _⟩,fun h=>by rw [h];exact IS _⟩
def GS (vr:VTA):VTN:=fun S Q=>vr S fun rs S1=>∃i j c:Int,rs=[.d (.int i),.d (.int j),.d (.int c)]/\(-1000000<=i/\i < 1000000/\-1000000<=j/\j < 1000000/\0 < c/\c < 1000)/\Q (rg3 i c (Jr i j c).toNat) S1
theorem rH (hg:Gl X "range") (hm:X.mg "range"=none) (ha:VA K X false [a,b,c] tr vr) (hs:Jf [a,b,c] X.env=[(false,eval a X.env),(false,eval b X.env),(false,eval c X.env)]:=by rfl) (hs2:Jf [b,c] X.env=[(false,eval b X.env),(false,eval c X.env)]:=by rfl):VI K X tg (.Call (.Name "range" p) [a,b,c] [] pos) (AV tr) (GS vr):=⟨rG hg hm ha.pe hs hs2,fun H0 Z U H S Q C k t hc=>
 ha.snd H0 Z U H S _ _ k t fun vs H1 rs S1 k1 st1 rrs zq1=>by
  obtain ⟨i,j,c,e,h1,q⟩:=zq1
  subst e
  cases rrs with
  | cons r t=>
   cases t with
   | cons r' t=>
    cases t with
    | cons r'' t=>
     cases t
     cases (show Rep K _ _ H1 _ (.int i) from r)
     cases (show Rep K _ _ H1 _ (.int j) from r')
     cases (show Rep K _ _ H1 _ (.int c) from r'')
     exact ⟨i,j,c,rfl,h1,hc _ _ H1 S1 k1 st1 yD q⟩⟩
variable {S:List Sl} {QN:List D->List Sl->Prop}
@[irreducible] def yE (QN:List D->List Sl->Prop):List VR->List Sl->Prop:=fun rs S1=>∃i j c:Int,rs=[.d (.int i),.d (.int j),.d (.int c)]/\(-1000000<=i/\i < 1000000/\-1000000<=j/\j < 1000000/\0 < c/\c < 1000)/\QN (rg3 i c (Jr i j c).toNat) S1
theorem GU (h:vr S (yE QN)):GS vr S QN:=by unfold yE at h;exact h
theorem Dp {i j c:Int} (h1:-1000000<=i/\i < 1000000/\-1000000<=j/\j < 1000000/\0 < c/\c < 1000) (h:QN (rg3 i c (Jr i j c).toNat) S):yE QN [.d (.int i),.d (.int j),.d (.int c)] S:=by unfold yE;exact ⟨i,j,c,rfl,h1,h⟩
end
end VL
end
section
namespace VL
open PySem L2
section
variable {K:IJ} {X:Cx} {m:Bool} {e a b o:Expr} {te ta tb:TE} {va vb:VT} {pos apos:Pos}
def GV (t:VTN) (vb:VT):VT:=fun S Q=>t S fun ds S1=>vb S1 fun rb S2=>∃j d,get S2 rb=some (.int j)/\atI ds j=some d/\Q (.d d) S2
theorem Dq {t:VTN} (hK:X.K=K) (ha:VN K X a ta t) (hb:VE K X false b tb vb) (hs:cY b):VE K X m (.Subscript a b pos) (tOp (rIx K) ta tb) (GV t vb):=⟨by subst hK;exact mG sZ ha.pe hb.pe hs,fun H0 Z U H S Q C k t hc=>
 ha.snd H0 Z U H S _ _ k t fun p vs ds H1 H' S1 k1 st1 hp hg hl rr t1=>by
  have k1':=k1.grow hg
  have rl:Rep K (NM Z U S1) (FM H0 true) H' (.ref p) (.lst ds):=.lst (k1.nm hp) (fun _=>⟨p,rfl,k1.dom p hp⟩) hl (rr.mono (fun b n _=>⟨n.1,rfl⟩) fun _ x _=>x)
  refine hb.snd H0 Z U H' S1 _ _ k1' t1 fun y H2 rb S2 k2 st2 r2 zr1=>?_
  obtain ⟨j,d,e2,e3,q⟩:=zr1
  cases r2.get k2 e2
  have rl2:=rl.step st2
  cases rl2 with
  | lst n f h r=>
   obtain ⟨v,h3,h4⟩:=jh r e3
   exact .inl ⟨p,_,j,v,rfl,rfl,.inl (.inl h),h3,hc v H2 (.d d) S2 k2 ((st1.trans (.grow hg)).trans st2) (show Rep K _ _ H2 v d from h4.mono (fun _ n _=>⟨n,rfl⟩) fun _ x _=>x rfl) q⟩
  | lstF n f h r=>obtain ⟨c,ec,_⟩:=f rfl;cases ec
  | lstK f h r=>obtain ⟨c,ec,_⟩:=f rfl;cases ec⟩
end
section
variable {S:List Sl} {Q:VR->List Sl->Prop} {va vb:VT} {vn:VTN}
@[irreducible] def qg (vb:VT) (Q:VR->List Sl->Prop):List D->List Sl->Prop:=fun ds S1=>vb S1 fun rb S2=>∃j d,get S2 rb=some (.int j)/\atI ds j=some d/\Q (.d d) S2
@[irreducible] def qh (ds:List D) (Q:VR->List Sl->Prop):VR->List Sl->Prop:=fun rb S2=>∃j d,get S2 rb=some (.int j)/\atI ds j=some d/\Q (.d d) S2
theorem GW (h:vn S (qg vb Q)):GV vn vb S Q:=by unfold qg at h;exact h
theorem yF (h:vb S (qh ds Q)):qg vb Q ds S:=by unfold qg;unfold qh at h;exact h
theorem yG {j:Int} (e2:get S r=some (.int j)) (e3:atI ds j=some d) (h:Q (.d d) S):qh ds Q r S:=by unfold qh;exact ⟨j,d,e2,e3,h⟩
theorem GX {x y:Str} (h:q (.bl (decide (x=y)))):wEq (.str x) (.str y) q:=⟨.str x,.str y,rfl,rfl,rfl,by simpa using h⟩
end
end VL
end
section
namespace L2
open PySem PySem.Spec PyProof.Rows
def rJ (a:Addr) (n:Nat) (h:Heap):Prop:=∃o es ep t,h.get? a=some o/\o.ExactSet/\o.data=.set es ep t/\t.fits es.size=true/\es.size=n/\n < OE
def nW (a:Addr) (n:Nat):HO:=.ext (rJ a n)
theorem rJ.ok {P:Jp} {w:JQ} {h:Heap} {a:Addr} {n:Nat} (d:rJ a n h):bt P w H h a (nW a n):=
 ⟨d,let ⟨o,_,_,_,e,_⟩:=d;⟨o,e⟩,fun h1 h2 zt1 k=>by obtain ⟨o,es,ep,t,e,r⟩:=zt1;exact ⟨o,es,ep,t,k o e,r⟩⟩
theorem yH {X:Cx} {s:IM} {a:Addr} {n:Nat} (I:Inv X pins U H s) (e:H a=some (nW a n)):rJ a n s.heap:=
 (show bt X.prog X.w H s.heap a (.ext (rJ a n)) from I.hok a _ e).1
def uu:List V->Hp->VK->Prop:=fun xs H Q=>∃a n,xs=[.ref a]/\H a=some (nW a n)/\Q (.int n) H
theorem rK {X:Cx}:b7 X (.builtin "len") uu:=by
 rintro pins s U H xs us Q I r ⟨a,n,e,ha,q⟩
 subst e
 obtain ⟨u,rfl,rx⟩:=vals1 r
 cases rx
 obtain ⟨o,es,ep,t,h1,h2,h3,h4,h5,h6⟩:=yH I ha
 subst h5
 refine call_len_set h1 h2 h3 h4 ?_ ⟨.int es.size,H,I.tok _,⟨_,rfl⟩,q⟩
 unfold OE at h6
 lia
end L2
end
section
namespace VL
open PySem L2 PySem.W
section
variable {K:IJ} {X:Cx} {m:Bool} {e c:Expr} {te:TE} {va:VT} {pos:Pos} {i:Nat} {tc:TT} {wc:VTT} {t:TS} {v:VTS} {body:List Stmt}
def Dr (wc:VTT) (vb:VTS):VTS:=fun V S=>∃Iv:Nat->List Sl->Prop,(∃n,Iv n S)/\∀n S,Iv n S->wc S fun b S1=>if b=true then vb { nx:=fun S2=>∃n',n' < n/\Iv n' S2,ct:=fun S2=>∃n',n' < n/\Iv n' S2,bk:=V.nx,rt:=V.rt } S1 else V.nx S1
theorem uv (hp:Qj (JD X.prog X.w) X.A X.env X.xe) (hc:VTe K X c tc wc) (hb:VSs K X body t v):VS K X (.While c body [] pos) (sS tc t) (Dr wc v):=
 ⟨sT hp hc.pe hb.ps,fun H0 Z U H S V E k zq1 l=>by
  obtain ⟨Iv,⟨n0,i0⟩,h⟩:=zq1
  refine ⟨fun n U' H'=>∃S',OK K H0 Z U' H' S'/\Step Z U S H U' S' H'/\Iv n S',⟨n0,S,k,.refl,i0⟩,?_⟩
  rintro n U1 H1 ⟨S1,k1,st1,i1⟩
  refine hc.snd H0 Z U1 H1 S1 _ _ k1 (h n S1 i1) fun b H2 S2 k2 st2 q=>?_
  cases b with
  | false=>rw [if_neg IT] at q ⊢;exact l.nx _ _ _ k2 (st1.trans st2) q
  | true=>
   rw [if_pos rfl] at q ⊢
   refine ⟨fun U' H'=>∃n',n' < n/\∃S',OK K H0 Z U' H' S'/\Step Z U S H U' S' H'/\Iv n' S',fun U' H' zt1=>by obtain ⟨n',hn,z⟩:=zt1;exact ⟨n',hn,z⟩,?_⟩
   have st:=st1.trans st2
   exact hb.snd H0 Z U1 H2 S2 _ _ k2 q ⟨fun U' H' S' k' s' zt1=>by obtain ⟨n',hn,q'⟩:=zt1;exact ⟨n',hn,S',k',st.trans s',q'⟩,fun U' H' S' k' s' q'=>l.nx _ _ _ k' (st.trans s') q',fun U' H' S' k' s' zt1=>by obtain ⟨n',hn,q'⟩:=zt1;exact ⟨n',hn,S',k',st.trans s',q'⟩,fun v d U' H' S' k' s' r q'=>l.rt v d _ _ _ k' (st.trans s') r q'⟩⟩
end
end VL
namespace L2
open PySem PySem.Spec PyProof.Rows PySem.W
def dl (ns:List Int):Nat:=(ns.foldl step_dedup []).length
def AW (K:IJ):List V->Hp->VK->Prop:=fun xs H Q=>∃(l:Addr) (ns:List Int),xs=[.ref l]/\(SqL K H l (ns.map V.int)\/SqT K H l (ns.map V.int))/\ns.length < 4000/\∀a,H a=none->Q (.ref a) (upd H a (nW a (dl ns)))
theorem m4:(MX (fun i=>ns.getD i 0) ns.length).length=dl ns:=by
 unfold MX dl
 congr 2
 refine List.ext_getElem (by simp) fun i h1 h2=>?_
 simp [LR,h2]
theorem rL {X:Cx} (hc:X.calm=true):b7 X (.type "set") (AW X.K):=by
 rintro pins s U H xs us Q I r ⟨l,ns,e,hl,h4,q⟩
 subst e
 obtain ⟨u,rfl,rx⟩:=vals1 r
 cases rx
 have made:∀(vs:List IP),vs.length=ns.length->∀(h':Heap) (tk:Nat),(∀b o,s.heap.get? b=some o->h'.get? b=some o) ->
   h'.SetOf (LF X.prog X.w) s.heap.objs.size (fun k=>(MX (fun i=>ns.getD i 0) vs.toArray.size).any (·==k)) (MX (fun i=>ns.getD i 0) vs.toArray.size).length ->
   EP X pins U Q (.ref s.heap.objs.size) { s with heap:=h',toks:=tk }:=fun vs hv h' tk old so=>by
  rw [show vs.toArray.size=ns.length by simpa using hv,m4] at so
  obtain ⟨o,es,ep,t,z1,z2,z3,_,_,z4,z5,z6⟩:=so
  exact ⟨.ref s.heap.objs.size,_,I.laid (t':=tk) old (IS _) (rJ.ok ⟨o,es,ep,t,z1,z2,z3,z5,z6,z6▸z4⟩),rfl,q _ (I.hok.fresh (IS _))⟩
 rcases hl with hl | hl
 ·obtain ⟨vs,rv,pl,_⟩:=I.list hl
  have hv:vs.length=ns.length:=by rw [<- rv.length,IR]
  exact PySem.call_set_list (I.ok.hd hc) pl.isList (by simpa using intsAre_of rv) (by rw [Jb,hv];unfold OE;lia) fun h' tk so old=>made vs hv h' tk (fun b o e=>old b o (Jg e) e) so
 ·obtain ⟨vs,rv,pl,_⟩:=I.tuple hl
  have hv:vs.length=ns.length:=by rw [<- rv.length,IR]
  exact yA (I.ok.hd hc) pl (by simpa using intsAre_of rv) (by rw [Jb,hv];unfold OE;lia) (made vs hv)
end L2
namespace VL
open PySem L2 PySem.W
section
variable {K:IJ} {X:Cx} {m:Bool} {e:Expr} {tr:TA} {vr:VTA} {pos p1 p2 pos2:Pos}
def m5 (vr:VTA):VT:=fun S Q=>vr S fun rs S1=>∃(r:VR) (ns:List Int),rs=[r]/\(get S1 r=some (.lst (ns.map .int))\/get S1 r=some (.tup (ns.map .int)))/\ns.length < 4000/\Q (.d (.int (dl ns:Nat))) S1
theorem jx (hK:X.K=K) (hcm:X.calm=true) (hg1:Gl X "len") (hm1:X.mg "len"=none) (hg2:Gl X "set") (hm2:X.mg "set"=none) (ha:VA K X false [e] tr vr) (he:Jf [e] X.env=[(false,eval e X.env)]:=by rfl) :
  VE K X m (.Call (.Name "len" p1) [.Call (.Name "set" p2) [e] [] pos2] [] pos) (tCB uu (i6 (tCB (AW K) tr) mD)) (m5 vr):=
 ⟨by subst hK;exact fS rK hg1 hm1 ck (cX (eV (rL hcm) hg2 hm2 CB ha.pe (by decide) (by decide) he rfl) gT),fun H0 Z U H S Q C k t hc=>ha.snd H0 Z U H S _ _ k t fun vs H1 rs S1 k1 st1 rrs zq1=>by
  obtain ⟨r,ns,e1,e2,hl,q⟩:=zq1
  subst e1
  obtain ⟨v,rfl,rv⟩:=rrs.one
  have fin:∀a,H1 a=none->mD U (upd H1 a (nW a (dl ns))) fun xs H2=>uu (.ref a::xs) H2 C:=fun a ha=>by
   have g:=aV (o:=nW a (dl ns)) ha
   exact ⟨a,dl ns,rfl,aJ,hc _ _ (.d (.int (dl ns:Nat))) S1 (k1.grow g) (st1.trans (.grow g)) (Rep.int _) q⟩
  rcases e2 with e2 | e2
  ·obtain ⟨a,ys,rfl,hq,rr⟩:=rv.elems k1 e2
   cases Reps.toInts rr
   exact ⟨a,ns,rfl,.inl hq,hl,fin⟩
  ·obtain ⟨a,ys,rfl,hq,rr⟩:=rv.elemsT k1 e2
   cases Reps.toInts rr
   exact ⟨a,ns,rfl,.inr hq,hl,fin⟩⟩
end
end VL
namespace VL
open PySem L2 PySem.W
section
variable {i:Nat} {va:VT} {vr:VTA} {S:List Sl} {Q:VR->List Sl->Prop} {q:D->Prop}
@[irreducible] def gA (Q:VR->List Sl->Prop):List VR->List Sl->Prop:=fun rs S1=>∃(r:VR) (ns:List Int),rs=[r]/\(get S1 r=some (.lst (ns.map .int))\/get S1 r=some (.tup (ns.map .int)))/\ns.length < 4000/\Q (.d (.int (dl ns:Nat))) S1
theorem rM (h:vr S (gA Q)):m5 vr S Q:=by unfold gA at h;exact h
theorem jy {ns:List Int} (e:get S r=some (.lst (ns.map .int))\/get S r=some (.tup (ns.map .int))) (hl:ns.length < 4000) (h:Q (.d (.int (dl ns:Nat))) S):gA Q [r] S:=by unfold gA;exact ⟨r,ns,rfl,e,hl,h⟩
end
end VL
namespace VL
open PySem L2 PySem.W
section
variable {K:IJ} {X:Cx} {m:Bool} {e:Expr} {te:TE} {va:VT} {pos pos':Pos} {i:Nat} {x:Str}
theorem OK.setFre {H H0:Hp} (k:OK K H0 Z U H S) (hi:i < S.length) (h:Rep K (NM Z U S) (Fr H0) H v d):OK K H0 Z (U.set i (some v)) H (S.set i (.fre d))/\Step Z U S H (U.set i (some v)) (S.set i (.fre d)) H:=by
 have n:∀a,NM Z U S a->NM Z (U.set i (some v)) (S.set i (.fre d)) a:=fun a x z=>by
  rcases lw z with z | ⟨z,_⟩
  ·exact x z
  ·cases z
 exact ⟨k.put hi (fun a x _=>⟨n a x,rfl⟩) (fun _ _ _ _ _ _ _=>rfl) ⟨v,rfl,h.mono (fun a x _=>⟨n a x,rfl⟩) fun _ x=>x⟩ (fun _ _ _ _ _ _ z=>nomatch z) (fun _ e=>e) k.zl (fun _ z=>nomatch z),fun a x _=>⟨rfl,n a x⟩,fun _ e=>e,fun _ _ _=>rfl⟩
@[irreducible] def m6 (i:Nat) (V:ba):VR->List Sl->Prop:=fun r S1=>∃d,r=.d d/\i < S1.length/\V.nx (S1.set i (.fre d))
def AX (i:Nat) (va:VT):VTS:=fun V S=>va S (m6 i V)
theorem Ds {V:ba} (h:va S (m6 i V)):AX i va V S:=h
theorem qj {V:ba} (hi:i < S.length) (h:V.nx (S.set i (.fre d))):m6 i V (.d d) S:=by unfold m6;exact ⟨d,rfl,hi,h⟩
theorem qk (hN:X.N.Nodup) (hi:X.N[i]?=some x) (hx:Loc X.env.scope x) (h:VE K X true e te va) (hs:LW e (some (.Name x pos')) pos.line X.env=pure false:=by rfl)
  (hf:X.fn x=true\/X.env.scope.names.lookup x=some .local:=by first | exact .inl rfl | exact .inr rfl | assumption):VS K X (.Assign [.Name x pos'] e pos) (dD te (bJ i)) (AX i va):=
 ⟨bU hN hi hx h.pe hs hf,fun H0 Z U H S V E k t l=>h.snd H0 Z U H S _ _ k t fun v H' r S' k' st rr q=>by
  unfold m6 at q
  obtain ⟨d,e,hi,q⟩:=q
  subst e
  have r:Rep K (NM Z U S') (Fr H0) H' v d:=(show Rep K (NM Z U S') (FM H0 true) H' v d from rr).mono (fun _ n _=>⟨n,rfl⟩) fun _ x=>x rfl
  exact l.nx _ _ _ (k'.setFre hi r).1 (st.trans (k'.setFre hi r).2) q⟩
def AY (i:Nat):VT:=fun S Q=>∃d,(S[i]?=some (.fre d)\/S[i]?=some (.val d)/\flat d=true)/\Q (.d d) S
theorem dW (i:Nat) (h:PE X e (cF i)):VE K X m e (cF i) (AY i):=⟨h,fun H0 Z U H S Q C k zq1 hc=>by
 obtain ⟨d,h,q⟩:=zq1
 rcases h with h | ⟨h,hf⟩
 ·obtain ⟨o,h1,v,rfl,r⟩:=k.ownAt h
  exact ⟨v,h1,hc _ _ (.d d) _ k .refl (show Rep K _ _ _ _ _ from r.mono (fun _ n _=>⟨n,rfl⟩) fun _ x _=>x) q⟩
 ·obtain ⟨o,h1,v,rfl,r⟩:=k.ownAt h
  exact ⟨v,h1,hc _ _ (.d d) _ k .refl (show Rep K _ _ _ _ _ from Rep.flat r hf) q⟩⟩
theorem Dt {Q:VR->List Sl->Prop} (h:S[i]?=some (.fre d)\/S[i]?=some (.val d)/\flat d=true) (q:Q (.d d) S):AY i S Q:=⟨d,h,q⟩
end
end VL
end
section
namespace L2
open PySem PySem.Spec PyProof.Rows PySem.W
section
variable {X:Cx}
def uw (K:IJ) (n:Int):R2:=fun x y H Q=>∃b a ms es i,y=.ref b/\x=.ref a/\SqN K H b ms/\(∃ob,H a=some (bK a ob es))/\cr K H es/\(atE es ms).getD (.int n)=.int i/\Q (.int i) H
def AZ (K:IJ) (n:Int) (to ti:TE):TE:=fun U H Q=>to U H fun x H1=>(∃a es ob,x=.ref a/\H1 a=some (bK a ob es))/\ti U H1 fun y H2=>uw K n x y H2 Q
theorem rN {s:IM} {x y:V} {v u:IP} {n:Int} {t:Tok} {Q:VK} (hu:X.A.units+64 < Lu) (I:Inv X pins U H s) (rx:RelV x v) (ry:RelV y u) (h:uw X.K n x y H Q) :
  JB (JD X.prog X.w) X.A (call (.builtin "dict.get") [v,u,.int n t]) (EP X pins U Q) X.xe s:=by
 obtain ⟨b,a,ms,es,i,rfl,rfl,h1,⟨ob,h2⟩,h3,hi,q⟩:=h
 cases rx;cases ry
 obtain ⟨z,m,nd,xs,ev,dd⟩:=gq I h2 h3
 refine call_meetsIn F.slot_dict_get dd.typeIs F.entry_dict_get (F.args_dict_get_3 _ _ _) (meetsH_dict_get_default (MF (KT.numKind X.prog X.w)) a b m (.int n t)) ⟨LB (by lia),ms,xs,dj I h1,dd,?_⟩
 have r:=ev.at_ ms
 refine ⟨.int i,H,I.tok _,?_,q⟩
 cases h4:atE es ms with
 | none=>
  rw [h4] at r hi
  cases h5:(NH xs ms).map (·.2) with
  | none=>cases hi;exact ⟨t,rfl⟩
  | some w=>rw [h5] at r;exact r.elim
 | some w=>
  rw [h4] at r hi
  cases h5:(NH xs ms).map (·.2) with
  | none=>rw [h5] at r;exact r.elim
  | some w'=>rw [h5] at r;cases (show w=.int i from hi);exact r
def two (K:IJ) (x:V) (Q:VK):List V->Hp->Prop
 | [y,.int k],H=>uw K k x y H Q
 | _,_=>False
theorem yI {o ie:Expr} {to ti:TE} {n:Int} {j:Nat} {pc apos cpos:Pos} (hu:X.A.units+64 < Lu) (ho:PE X o to) (hi:PE X ie ti) (hbase:Lw o "get" X.env (eval o X.env)=eval o X.env:=by rfl)
  (hfew:((K8 cpos (Jf [ie,.Constant (.int n) j pc] X.env)).all (fun x=>!x.1)&&(Po cpos (Nb [] X.env)).all (fun x=>x.1.isSome)
   && decide (([ie,.Constant (.int n) j pc]:List Expr).length+([]:List Nc).length+(if ([]:List Nc).isEmpty then 0 else 1) < 30))=true:=by rfl)
  (hline:(apos.endLine==cpos.line)=true:=by rfl) (hs:Jf [ie,.Constant (.int n) j pc] X.env=(false,eval ie X.env)::Jf [.Constant (.int n) j pc] X.env:=by rfl) (hplain:(K8 cpos (Jf [.Constant (.int n) j pc] X.env)).any (·.1)=false:=by rfl) :
  PE X (.Call (.Attribute o "get" apos) [ie,.Constant (.int n) j pc] [] cpos) (AZ X.K n to ti):=by
 intro pins s U H Q I h
 refine Mj hbase hfew hline rfl (thn (ho pins s U H _ I h) fun v s1 zr1=>?_)
 obtain ⟨x,H1,I1,r1,⟨a,es,ob,hx,ha⟩,q1⟩:=zr1
 subst hx
 cases r1
 obtain ⟨_,_,_,_,_,ob,_,_,z1,z2,_⟩:=fV I1 ha
 refine ⟨"dict","dict.get",Mf,PySem.F.slot_dict_get,PySem.F.type_dict_get,⟨_,z1,z2.1⟩,fun b e=>by cases e;exact ⟨_,z1,z2.2.1⟩,?_⟩
 have hA:=cX hi (cX (gR (i:=n)) gT rfl) hs cpos pins s1 U H1 (two X.K (.ref a) Q) I1 q1
 rw [hs] at hA ⊢
 refine LA (by show (false||(K8 cpos (Jf [.Constant (.int n) j pc] X.env)).any (·.1))=false;rw [hplain] <;> rfl) (MR ?_)
 refine thn hA fun us s2 zr1=>?_
 obtain ⟨vs,H2,I2,r2,q2⟩:=zr1
 match vs,r2,q2 with
 | [y,.int k],r2,q2=>
  obtain ⟨u,w,rfl,ru,t,rfl⟩:=r2.two
  exact rN hu I2 (show RelV (.ref a) (.ref a) from rfl) ru q2
end
section
variable {X:Cx}
theorem DctP.at {D:Addr} {h h':Heap} (d:DctP D es h) (e:h'.get? D=h.get? D):DctP D es h':=
 let ⟨z,m,nd,xs,ev,o,ds,ep,q,r⟩:=d;⟨z,m,nd,xs,ev,o,ds,ep,e.trans q,r⟩
theorem DctP.nocell {D:Addr} {h:Heap} {o:Obj} (d:DctP D es h) (e:h.get? D=some o):∀v,o.data≠.cell v:=fun v z=>by
 obtain ⟨_,_,_,_,_,o',ds,ep,q,_,hd,_⟩:=d
 rw [e] at q;cases q
 rw [hd] at z;cases z
theorem yJ {D:Addr} {h:Heap} (e:h.get? D=some { cls:=.type "dict",data:=.dict #[] }) (hb:KW < D):DctP D [] h:=
 ⟨Kk _,beq_eq_false_iff_ne.mpr (LS (JG hb)),Lz,[],.nil,_,#[],0,e,⟨rfl,rfl,rfl⟩,rfl,rfl⟩
theorem yK {s:IM} {a:Addr} (I:Inv X pins U H s) (d:DctP a es s.heap) (k:cr X.K H es):es.length<=JA/\(a==KW)=false/\(es.map (·.1)).Nodup /\
  ∃xs,EV es xs/\s.heap.DictOfH (MF (KT.numKind X.prog X.w)) a xs:=by
 obtain ⟨z,m,nd,xs,ev,o,ds,ep,h1,h2,h3,h4⟩:=d
 refine ⟨z,m,nd,xs,ev,o,ds,ep,h1,h2,h3,h4,fun x hx=>?_,ev.keys▸nd⟩
 obtain ⟨e,he,e1,e2⟩:=ev.mem x hx
 exact e1▸e2▸dj I (k e he)
def ux (K:IJ) (wi:TI) (n:Nat) (ix:List Nat) (g:TG) (tc:TT) (tk tv:TE):TE:=fun U H Q=>wi U H fun J H1=>∃W:Nat->Nat->List (List Int×Addr×V)->Hp->Prop,(∃m,W 0 m [] H1)/\∀i m es H2,W i m es H2 ->
 (J.stop i H2/\∀D ob,H2 D=none->Q (.ref D) (upd H2 D (bK D ob es))) \/
 (J.go i H2/\es.length < JA/\∃Nx:List (List Int×Addr×V)->Hp->Prop,(∀es' H',Nx es' H'->∃m',m' < m/\W (i+1) m' es' H') /\
  ∀x H3,J.yld i H2 x H3->g x (capt n ix U) H3 fun U2 H4=>tc U2 H4 fun b H5=>if b=true then tk U2 H5 fun y H6=>tv U2 H6 fun v H7=>∃b ms,y=.ref b/\SqN K H7 b ms/\cr K H7 es/\Nx (fM es ms b v) H7 else Nx es H5)
theorem uy {kx vx target iter:Expr} {ifs:List Expr} {scope:MO} {pos:Pos} {tg cs:List Str} {wi:TI} {g:TG} {tc:TT} {tk tv:TE} (hu:X.A.units+64 < Lu) (S:bC X scope tg cs ix) (hcalm:X.calm=true) (kg:cS tg.length ix g)
    (hi:PI X target iter wi) (hg:∀C fp s H,PG (aA X scope (tg++cs) C fp s H) target g) (hc:∀C fp s H,PTs (aA X scope (tg++cs) C fp s H) ifs tc) (hk:∀C fp s H,PE (aA X scope (tg++cs) C fp s H) kx tk) (hv:∀C fp s H,PE (aA X scope (tg++cs) C fp s H) vx tv)
    (hs:∀x,Kh iter X.env x=pure x:=by intro _;rfl):PE X (.DictComp kx vx [⟨target,iter,ifs,0⟩] scope pos) (ux X.K wi tg.length ix g tc tk tv):=by
  intro pins s U H Q I h
  rw [arm_eval_DictComp]
  refine L6 (use:=none) (cl:=cn X.env scope.names []) rfl hs (fF fun n hn=>I.ok.has n (S.out n hn)) S.kind S.names ?_
  refine J9 (hi pins s U H _ I h) (fun v s1 h1=>J9 h1 (fun itv s2 h2=>?_) fun _ _ e=>e) fun _ _ e=>e
  obtain ⟨it,fp,tn,J,H2,rfl,I2,T,st2,f2,W,⟨m0,w0⟩,turn⟩:=h2
  refine JX (MS S.nocell (by intro y hy;simp at hy) (fun h1 hns1 hsb1=>?_) S.kind)
  dsimp only at hns1 hsb1 ⊢
  generalize hP:s2.heap.push { cls:=.type "dict",dict:=none,data:=.dict #[] }=P2 at hns1 hsb1 ⊢
  have hCs:P2.objs.size=s2.heap.objs.size+1:=by rw [<- hP,MB]
  have hDC:s2.heap.objs.size≠P2.objs.size:=by rw [hCs];exact JG (Oh _)
  have hCle:s2.heap.objs.size<=P2.objs.size:=by rw [hCs];exact Mt _
  generalize hCg:P2.objs.size=C at *
  have old:∀b o,s2.heap.get? b=some o->h1.get? b=some o:=fun b o e=>hsb1.extBut b o (JG (Js (Jg e) hCle)) (IN _ (hP▸IN _ e))
  generalize hDg:s2.heap.objs.size=D at *
  have hD0:h1.get? D=some { cls:=.type "dict",data:=.dict #[] }:=hsb1.extBut _ _ hDC (IN _ (hP▸hDg▸Je _ rfl))
  have nC:H2 C=none:=I2.hok.fresh (by rw [hDg];exact hCle)
  have nD:H2 D=none:=I2.hok.fresh (by rw [hDg];exact IS _)
  have fo:∀b∈fp,∃o,s2.heap.get? b=some o:=fun b hb=>let ⟨o,e,_⟩:=T.obj _ _ st2 b hb;⟨o,e⟩
  have Dfp:D∉fp:=fun z=>by
    obtain ⟨o,e⟩:=fo D z
    have:=Jg e
    rw [hDg] at this
    exact absurd this (Kp _)
  have Dfs:D∉frs X.stack:=fun z=>by
    rcases List.mem_cons.mp (I2.stkSub D z) with e | e
    · have:=I2.lt
      rw [<- e,hDg] at this
      exact absurd this (Kp _)
    · exact I2.nofs (by rw [hDg];exact IS _) e
  have DcY:∀x c,(cn X.env scope.names []).lookup x=some c->c≠D:=fun x c e=>by
    rcases eh (Ke e) with h | h
    · cases h
    · exact (I2.fpOk (H':=H2) (b:=D) (by rw [hDg];exact IS _) nD).2.2.2.2.1 x c h
  -- the block's context
  have Yok:∀s4:IM,s4={ s2 with heap:=h1,toks:=s2.toks+([]:List (Str×IP)).length }->Inv (aA X scope (tg++cs) C fp s2 H2) [] (capt tg.length ix U) H2 s4:=by
    rintro s4 rfl
    exact jb S I2 f2 fo (by rw [hDg];exact hCle) old (by simpa using hns1) rfl I2.bare nC
  -- the loop
  have loop:∀s4:IM,s4={ s2 with heap:=h1,toks:=s2.toks+([]:List (Str×IP)).length } ->
      L0 (JD X.prog X.w) X.A (.compLoop (.DictComp kx vx [⟨target,iter,ifs,0⟩] scope pos) 0 (.ref it) (.ref D) (MW scope (cn X.env scope.names []) C X.env)) (QH (JD X.prog X.w) X.A X.xe none (EP X pins U Q) (.ref D) C) s4:=by
    intro s4 e4
    refine Qf rfl (fun n s'=>∃i es o H',Inv (aA X scope (tg++cs) C fp s2 H2) [] (capt tg.length ix U) H' s'/\tn i s'.heap/\(∀b∈fp,H' b=none)/\H' D=none/\s'.heap.get? D=some o/\DctP D es s'.heap/\W i n es H')
      ?_ m0 ⟨0,[],_,H2,Yok s4 e4,?_,fun b hb=>(f2 b hb).1,nD,by rw [e4];exact hD0,yJ (by rw [e4];exact hD0) (by rw [<- hDg];exact lI I2),w0⟩
    · rintro n s5 ⟨i,es,o,H5,I5,st5,fr5,d5,o5,v5,w5⟩
      show JB _ X.A ((QI (.DictComp kx vx [⟨target,iter,ifs,0⟩] scope pos) 0 (.ref it) (.ref D) (MW scope (cn X.env scope.names []) C X.env)).onRaise (fun x=>do Qm x (MW scope (cn X.env scope.names []) C X.env);OC x)) _ _ s5
      refine Qn ?_
      rw [compTurn_dict]
      have pin0:Inv (aA X scope (tg++cs) C fp s2 H2) [(D,o)] (capt tg.length ix U) H5 s5:=I5.pins_of fun p hp=>by
        have e:p=(D,o):=by simpa using hp
        subst e
        exact ⟨o5,d5,hDC,Dfs,v5.nocell o5⟩
      have fpY:∀{H':Hp},(∀b∈fp,H' b=none)->∀b∈fp,iG (aA X scope (tg++cs) C fp s2 H2) [(D,o)] H' b:=fun hn b hb=>
        ⟨hn b hb,(I5.ok.exf b hb).1,fun z=>I5.ok.exfs b hb z,.inl hb,(I5.ok.exf b hb).2,fun p hp z=>by
          have hp:p∈([]:List (Addr×Obj))++[(D,o)]:=hp
          have e:p=(D,o):=by simpa using hp
          subst e
          have z:D=b:=z
          exact Dfp (z▸hb)⟩
      refine II (KR (II ?_))
      rcases turn i n es H5 w5 with ⟨stop,qn⟩ | ⟨go,hz,Nx,hN,step⟩
      · refine thn (T.done (aA X scope (tg++cs) C fp s2 H2) rfl rfl rfl hcalm i _ s5 _ H5 _ pin0 (fpY fr5) st5 stop) fun r s6 zr1=>?_
        obtain ⟨hr,I6⟩:=zr1
        subst hr
        refine IK ?_
        obtain ⟨mC,hnsC,_⟩:=id I6.loc
        refine ⟨mC,hnsC,fun h' sb=>?_⟩
        have IX:Inv X pins U H5 s6:=I2.call' (ch:=fp) I6.os I6.base I6.hok I6.bare fun b hb=>let ⟨_,a1,_,a3,a4,a5⟩:=f2 b hb;⟨a3,a1,a4,a5⟩
        obtain ⟨_,c1,_,c3,c4,c5⟩:=I2.fpOk (H':=H5) (b:=C) (by rw [hDg];exact hCle) I6.free
        have IX2:Inv X pins U H5 { s6 with heap:=h' }:=IX.turned (t':=s6.toks) (fun b o hb e=>(sb.2 b hb).trans e) I6.free c1 c3 c4 c5
        obtain ⟨_,b1,_,b3,b4,b5⟩:=I2.fpOk (H':=H5) (b:=D) (by rw [hDg];exact IS _) d5
        have gD:h'.get? D=some o:=(sb.2 D hDC).trans (I6.pin (D,o) (IU _ IQ)).1
        exact ⟨.ref D,upd H5 D (bK D o es),IX2.track d5 (by rw [<- hDg];exact I2.sz) b1 b4 b5 ((v5.at (gD.trans o5.symm)).ok gD),rfl,qn D o d5⟩
      · refine thn (T.item (aA X scope (tg++cs) C fp s2 H2) rfl rfl rfl hcalm i _ s5 _ H5 _ pin0 (fpY fr5) st5 go) fun r s6 zr1=>?_
        obtain ⟨u,hr,h6⟩:=zr1
        subst hr
        refine II (thn h6 fun _ s7 zr1=>?_)
        obtain ⟨x,H7,I7,r7,y7,st7,fr7⟩:=zr1
        have I7':=I7.pinned (fpY fr7) (T.obj _ _ st7)
        -- the next turn
        have again:∀{U2:St} {H8:Hp} {s8:IM} {es':List (List Int×Addr×V)} {o':Obj},Inv (aA X scope (tg++cs) C fp s2 H2) [] U2 H8 s8->(U2.length=(capt tg.length ix U).length/\∀(i:Nat) (v:V),(capt tg.length ix U)[i]?=some (some v)->U2[i]?=some (some v)) ->
            (∀b∈fp,∀o,s7.heap.get? b=some o->s8.heap.get? b=some o)->(∀b∈fp,H8 b=none)->H8 D=none->s8.heap.get? D=some o'->DctP D es' s8.heap->Nx es' H8 ->
            ∃m,m < n/\∃i es o H',Inv (aA X scope (tg++cs) C fp s2 H2) [] (capt tg.length ix U) H' s8/\tn i s8.heap/\(∀b∈fp,H' b=none)/\H' D=none/\s8.heap.get? D=some o/\DctP D es s8.heap/\W i m es H':=by
          intro U2 H8 s8 es' o' I8 kp fk fn dn dg vv nx
          obtain ⟨m',hm,w8⟩:=hN es' H8 nx
          exact ⟨m',hm,i+1,es',o',H8,I8.weak kp.1.symm kp.2,T.keep _ _ _ st7 fk,fn,dn,dg,vv,w8⟩
        refine II (J9 (hg C fp s2 H2 _ s7 _ H7 x u _ I7' r7 (kg x U H7 _ (step x H7 y7))) (fun _ s8 zr1=>?_) fun _ _ z=>z.elim)
        obtain ⟨U8,H8,I8,kp8,q8⟩:=zr1
        refine II (J9 (hc C fp s2 H2 _ s8 U8 H8 _ I8 q8) (fun ok s9 zr1=>?_) fun _ _ z=>z.elim)
        obtain ⟨H9,I9,q9⟩:=zr1
        have pinsOf:∀{U':St} {H':Hp} {s':IM},Inv (aA X scope (tg++cs) C fp s2 H2) ([(D,o)]++fD fp s7.heap) U' H' s' ->
            (∀b∈fp,∀o,s7.heap.get? b=some o->s'.heap.get? b=some o)/\(∀b∈fp,H' b=none)/\H' D=none/\s'.heap.get? D=some o:=by
          intro U' H' s' I'
          refine ⟨fun b hb o e=>(I'.pin (b,o) (IU _ (IU _ (bP hb e)))).1,fun b hb=>?_,(I'.pin (D,o) (IU _ (J3 _ IQ))).2.1,(I'.pin (D,o) (IU _ (J3 _ IQ))).1⟩
          obtain ⟨o,e,d⟩:=T.obj _ _ st7 b hb
          exact (I'.pin (b,o) (IU _ (IU _ (bP hb e)))).2.1
        cases ok with
        | false=>
          obtain ⟨p1,p2,p3,p4⟩:=pinsOf I9
          exact IK ⟨rfl,again (I9.pins_of fun p hp=>nomatch hp) kp8 p1 p2 p3 p4 (v5.at (p4.trans o5.symm)) q9⟩
        | true=>
          have q9:tk U8 H9 fun y H6=>tv U8 H6 fun v H7=>∃b ms,y=.ref b/\SqN X.K H7 b ms/\cr X.K H7 es/\Nx (fM es ms b v) H7:=q9
          refine II (II (J9 (hk C fp s2 H2 _ s9 U8 H9 _ I9 q9) (fun kv s10 zr1=>?_) fun _ _ z=>z.elim))
          obtain ⟨y,H10,I10,ry,q10⟩:=zr1
          refine II (J5 (J9 (hv C fp s2 H2 _ s10 U8 H10 _ I10 q10) (fun vv s11 zr1=>?_) fun _ _ z=>z.elim))
          obtain ⟨v,H11,I11,rv,b,ms,ey,sq,ka,nx⟩:=zr1
          subst ey
          cases ry
          obtain ⟨p1,p2,p3,p4⟩:=pinsOf I11
          have P11:DctP D es s11.heap:=v5.at (p4.trans o5.symm)
          obtain ⟨z,m,nd,xs,ev,dd⟩:=yK I11 P11 ka
          refine II (KR (J5 (wpAny_dictSet_heap (hsz:=by rw [<- Kw ev];exact z) (show (MF (KT.numKind X.prog X.w)).room X.A from by show X.A.units < Lu;lia) (dj (X:=aA X scope (tg++cs) C fp s2 H2) I11 sq) dd fun h' dd' hs'=>?_)))
          have I12:Inv (aA X scope (tg++cs) C fp s2 H2) [] U8 H11 s11:=I11.pins_of fun p hp=>nomatch hp
          have I13:Inv (aA X scope (tg++cs) C fp s2 H2) [] U8 H11 { s11 with heap:=h',toks:=s11.toks+(MF (KT.numKind X.prog X.w)).draws ms }:=
            I12.turned (fun b o hb e=>(hs'.2 b hb).trans e) p3 hDC (.inr (by show s2.heap.objs.size<=D;rw [hDg];exact IS _)) DcY (fun p hp=>nomatch hp)
          obtain ⟨qo,qd,qe,h1q,h2q,h3q,h4q,_,h5q⟩:=dd'
          refine IK ⟨rfl,again I13 kp8 (fun b hb o e=>(hs'.2 b (fun z:b=D=>Dfp (z▸hb))).trans (p1 b hb o e)) p2 p3 h1q ⟨?_,m,?_,_,ev.put ms rv,qo,qd,qe,h1q,h2q,h3q,h4q⟩ nx⟩
          · have:=jw es ms b v;lia
          · rw [(ev.put ms rv).keys];exact h5q
    · rw [e4];exact T.keep _ _ _ st2 fun b _ o e=>old b o e
  exact codeAny_compStart_dict (loop _ rfl) (T.self _ 0 _ _ _ (T.keep _ _ _ st2 fun b _ o e=>old b o e) (loop _ rfl))
end
end L2
namespace VL
open PySem L2 PySem.W
section
variable {X:Cx} {K:IJ} {m:Bool} {e:Expr} {te:TE} {va:VT} {pos:Pos}
theorem gB {N:AP} {k:List Int}:∀{es:List (List Int×Addr×V)} {kvs:List (List Int×D)},es.map (·.1)=kvs.map (·.1)->Reps K N F H (es.map (·.2.2)) (kvs.map (·.2)) ->
  (atE es k=none/\dM kvs k=none)\/∃v d,atE es k=some v/\dM kvs k=some d/\Rep K N F H v d
 | [],[],_,_=>.inl ⟨rfl,rfl⟩
 | [],_::_,h,_=>by cases h
 | _::_,[],h,_=>by cases h
 | e::es,p::ps,h,.cons r t=>by
  have h1:e.1=p.1:=(MY h).1
  by_cases z:p.1=k
  ·exact .inr ⟨e.2.2,p.2,by simp [atE,h1,z],by simp [dM,z],r⟩
  ·rcases gB (k:=k) (MY h).2 t with ⟨a,b⟩ | ⟨v,d,a,b,r⟩
   ·exact .inl ⟨by simpa [atE,JH,h1,z] using a,by simpa [dM,JH,z] using b⟩
   ·exact .inr ⟨v,d,by simpa [atE,JH,h1,z] using a,by simpa [dM,JH,z] using b,r⟩
def A0 (n:Int) (va vb:VT):VT:=fun S Q=>va S fun ra S1=>(∃kvs,get S1 ra=some (dc kvs))/\vb S1 fun rb S2=>∃kvs ms i,get S2 ra=some (dc kvs)/\get S2 rb=some (kT ms)/\(dM kvs ms).getD (.int n)=.int i/\Q (.d (.int i)) S2
theorem lL {o ie:Expr} {to ti:TE} {vo vi:VT} {n:Int} {j:Nat} {pc apos:Pos} (hK:X.K=K) (hu:X.A.units+64 < Lu) (ho:VE K X false o to vo) (hi:VE K X false ie ti vi) (hbase:Lw o "get" X.env (eval o X.env)=eval o X.env:=by rfl)
  (hfew:((K8 pos (Jf [ie,.Constant (.int n) j pc] X.env)).all (fun x=>!x.1)&&(Po pos (Nb [] X.env)).all (fun x=>x.1.isSome)
   && decide (([ie,.Constant (.int n) j pc]:List Expr).length+([]:List Nc).length+(if ([]:List Nc).isEmpty then 0 else 1) < 30))=true:=by rfl)
  (hline:(apos.endLine==pos.line)=true:=by rfl) (hs:Jf [ie,.Constant (.int n) j pc] X.env=(false,eval ie X.env)::Jf [.Constant (.int n) j pc] X.env:=by rfl) (hplain:(K8 pos (Jf [.Constant (.int n) j pc] X.env)).any (·.1)=false:=by rfl) :
  VE K X m (.Call (.Attribute o "get" apos) [ie,.Constant (.int n) j pc] [] pos) (AZ K n to ti) (A0 n vo vi):=
 ⟨by subst hK;exact yI hu ho.pe hi.pe hbase hfew hline hs hplain,fun H0 Z U H S Q C k t hc=>by
  refine ho.snd H0 Z U H S _ _ k t fun x H1 ra S1 k1 st1 r1 zr1=>?_
  obtain ⟨⟨kvs0,e0⟩,t1⟩:=zr1
  obtain ⟨a,es0,rfl,_,_,⟨ob0,ha⟩,_⟩:=Rep.dct (show Rep K _ _ H1 x (.dic _ _) from r1.get k1 e0)
  refine ⟨⟨a,es0,ob0,rfl,ha⟩,?_⟩
  refine hi.snd H0 Z U H1 S1 _ _ k1 t1 fun y H2 rb S2 k2 st2 r2 zr1=>?_
  obtain ⟨kvs,ms,i,e1,e2,ei,q⟩:=zr1
  obtain ⟨b,vs,rfl,hq,rr⟩:=Rep.sqT (show Rep K _ _ H2 y (.tup (ms.map D.int)) from r2.get k2 e2)
  cases Reps.toInts rr
  obtain ⟨a',es,ea,_,_,ha',ek,hk,_,rv⟩:=Rep.dct (show Rep K _ _ H2 (.ref a) (.dic _ _) from (r1.step st2).get k2 e1)
  cases ea
  refine ⟨b,a,ms,es,i,rfl,rfl,SqN.of hq,ha',hk,?_,hc _ H2 (.d (.int i)) S2 k2 (st1.trans st2) (Rep.int i) q⟩
  rcases gB (k:=ms) ek rv with ⟨z1,z2⟩ | ⟨v,d,z1,z2,r⟩
  ·rw [z2] at ei;rw [z1];cases ei;rfl
  ·rw [z2] at ei;rw [z1]
   cases (show d=.int i from ei)
   cases r
   rfl⟩
end
section
variable {K:IJ} {X:Cx} {kx vx iter:Expr} {pos:Pos}
theorem uz {H0 H:Hp} {y:V} {ri:VR} {m:Bool} (rr:fq K (FM H0 m) Z U S H y ri) (ek:get S ri=some (kT ms)):∃b,y=.ref b/\SqT K H b (ms.map L2.V.int)/\Rep K (NM Z U S) AnyF H (.ref b) (kT ms):=by
 cases ri with
 | d z=>
  cases ek
  obtain ⟨b,vs,rfl,hq,r2⟩:=Rep.sqT (show Rep K _ _ H y (.tup (ms.map D.int)) from rr)
  cases Reps.toInts r2
  exact ⟨b,rfl,hq,Rep.mono (fun _ n _=>⟨n,rfl⟩) (fun _ _=>trivial) rr⟩
 | own j=>
  have ek:getO S[j]?=some (kT ms):=ek
  cases e:S[j]? with
  | none=>rw [e] at ek;cases ek
  | some s=>rw [e] at ek;cases s <;> cases ek
def uA (vi:VTN) (n:Nat) (ix:List Nat) (vg:VG) (vt:VTT) (vk vv:VT):VTD:=fun S Q=>vi S fun ds S1=>ds.length<=1000000/\∃Iv:Nat->List (List Int×D)->List Sl->Prop,Iv 0 [] S1 /\
 (∀i d kvs S2,ds[i]?=some d->Iv i kvs S2->vg d (bz n ix S2) fun S3=>vt S3 fun b S4=>if b=true then vk S4 fun rk S5=>vv S5 fun rv S6=>∃ms x,get S6 rk=some (kT ms)/\rv=.d x/\Iv (i+1) (cu kvs ms x) (backS n ix S2 S6) else Iv (i+1) kvs (backS n ix S2 S4)) /\
 ∀kvs S2,Iv ds.length kvs S2->Q kvs S2
theorem yL {ifs:List Expr} {scope:MO} {tg cs:List Str} {target:Expr} {wi:TI} {vi:VTN} {g:TG} {vg:VG} {tc:TT} {vt:VTT} {tk tv:TE} {vk vv:VT} (hK:X.K=K) (hu:X.A.units+64 < Lu) (Sc:bC X scope tg cs ix) (hcalm:X.calm=true) (kg:cS tg.length ix g) (hnd:ix.Nodup)
    (hi:VI K X target iter wi vi) (hg:∀C fp s H,VGe K (aA X scope (tg++cs) C fp s H) target g vg) (hc:∀C fp s H,VTs K (aA X scope (tg++cs) C fp s H) ifs tc vt) (hk:∀C fp s H,VE K (aA X scope (tg++cs) C fp s H) false kx tk vk) (hv:∀C fp s H,VE K (aA X scope (tg++cs) C fp s H) true vx tv vv)
    (hs:∀x,Kh iter X.env x=pure x:=by intro _;rfl):VDe K X (.DictComp kx vx [⟨target,iter,ifs,0⟩] scope pos) (ux K wi tg.length ix g tc tk tv) (uA vi tg.length ix vg vt vk vv):=by
  have sg:SndG K g vg:=(hg 0 [] X.s₀ (fun _=>none)).snd
  have sc:SndT K tc vt:=(hc 0 [] X.s₀ (fun _=>none)).snd
  have sk:SndE K false tk vk:=(hk 0 [] X.s₀ (fun _=>none)).snd
  have sv:SndE K true tv vv:=(hv 0 [] X.s₀ (fun _=>none)).snd
  refine ⟨by subst hK;exact uy hu Sc hcalm kg hi.pi (fun C fp s H=>(hg C fp s H).pg) (fun C fp s H=>(hc C fp s H).pe) (fun C fp s H=>(hk C fp s H).pe) (fun C fp s H=>(hv C fp s H).pe) hs,fun H0 Z U H S Q C k t hq=>?_⟩
  refine hi.snd H0 Z U H S _ _ k t fun J ds H1 S1 k1 st1 gd zr1=>?_
  obtain ⟨hl,Iv,i0,hs,hd⟩:=zr1
  refine ⟨fun i m es H=>m=ds.length-i/\i<=ds.length/\es.length<=i/\∃S2 kvs,OK K H0 Z U H S2/\Step Z U S1 H1 U S2 H/\es.map (·.1)=kvs.map (·.1)/\Reps K (NM Z U S2) AnyF H (es.map fun x=>V.ref x.2.1) ((kvs.map (·.1)).map kT)/\Reps K (NM Z U S2) (Fr H0) H (es.map (·.2.2)) (kvs.map (·.2))/\Iv i kvs S2,
    ⟨ds.length,by simp,Kk _,IS _,S1,[],k1,.refl,rfl,.nil,.nil,i0⟩,?_⟩
  rintro i m es H2 ⟨rfl,hi,hy,S2,kvs,k2,st2,ek,rk,rz,p⟩
  obtain ⟨g1,g2,g3⟩:=gd U S2 H2 (fun _=>k2.nm) st2.1 i
  have hsz:(1000000:Nat) < JA:=by rw [J7];lia
  by_cases hlt:i < ds.length
  · refine .inr ⟨g1 hlt,by lia,fun es' H'=>es'.length<=i+1/\∃S' kvs',OK K H0 Z U H' S'/\Step Z U S1 H1 U S' H'/\es'.map (·.1)=kvs'.map (·.1)/\Reps K (NM Z U S') AnyF H' (es'.map fun x=>V.ref x.2.1) ((kvs'.map (·.1)).map kT)/\Reps K (NM Z U S') (Fr H0) H' (es'.map (·.2.2)) (kvs'.map (·.2))/\Iv (i+1) kvs' S',
      fun es' H' zt1=>by obtain ⟨p1,p2⟩:=zt1;exact ⟨ds.length-(i+1),by lia,rfl,hlt,p1,p2⟩,fun x H3 y=>?_⟩
    obtain ⟨hgr,d,hd',rd⟩:=g2 x H3 y hlt
    replace k2:=k2.grow hgr
    replace st2:=st2.trans (.grow hgr)
    replace rk:=rk.step (.grow hgr)
    replace rz:=rz.step (.grow hgr)
    have kc:=k2.capt (n:=tg.length) hnd
    have rd':Rep K (NM (Zin Z ix U S2) (L2.capt tg.length ix U) (bz tg.length ix S2)) AnyF H3 x d:=rd.mono (fun a n _=>⟨fun z=>n (jk.mp z),rfl⟩) fun _ x=>x
    have h1:=sg H0 _ _ H3 _ x d _ (fun U4 H4=>∃S4,OK K H0 (Zin Z ix U S2) U4 H4 S4/\Step (Zin Z ix U S2) (L2.capt tg.length ix U) (bz tg.length ix S2) H3 U4 S4 H4/\vt S4 fun b S5=>if b=true then vk S5 fun rk S6=>vv S6 fun rv S7=>∃ms x,get S7 rk=some (kT ms)/\rv=.d x/\Iv (i+1) (cu kvs ms x) (backS tg.length ix S2 S7) else Iv (i+1) kvs (backS tg.length ix S2 S5)) kc rd' (hs i d kvs S2 hd' p) (fun U4 H4 S4 k4 st4 q4=>⟨S4,k4,st4,q4⟩)
    have h2:=kg x U H3 _ h1
    refine (hg 0 [] X.s₀ (fun _=>none)).mono _ _ _ _ _ ?_ h2
    rintro U4 H4 ⟨⟨hl4,hσ4⟩,S4,k4,st4,q4⟩
    refine sc H0 _ U4 H4 S4 _ _ k4 q4 fun bb H5 S5 k5 st5 q5=>?_
    cases bb with
    | false=>
      rw [if_neg IT] at q5 ⊢
      obtain ⟨kb,sb,nb⟩:=k2.back k5 (st4.trans st5) hσ4
      exact ⟨by lia,_,kvs,kb,st2.trans sb,ek,rk.step sb,rz.step sb,q5⟩
    | true=>
      rw [if_pos rfl] at q5 ⊢
      refine sk H0 _ U4 H5 S5 _ _ k5 q5 fun yy H6 ry S6 k6 st6 rry q6=>?_
      refine sv H0 _ U4 H6 S6 _ _ k6 q6 fun vv' H7 rv S7 k7 st7 rrv zr1=>?_
      obtain ⟨ms,xx,e1,er,q7⟩:=zr1
      subst er
      obtain ⟨b,rfl,sq,rb⟩:=uz (rry.step st7) e1
      obtain ⟨kb,sb,nb⟩:=k2.back k7 (((st4.trans st5).trans st6).trans st7) hσ4
      have rk':=rk.step sb
      have rz':=rz.step sb
      obtain ⟨z1,z2,z3⟩:=qb (k:=ms) (b:=b) (v:=vv') (d:=xx) (F:=Fr H0) (F':=AnyF) (Rep.mono (fun a n _=>⟨nb a n,rfl⟩) (fun _ x=>x rfl) rrv) (Rep.mono (fun a n _=>⟨nb a n,rfl⟩) (fun _ x=>x) rb) ek rk' rz'
      refine ⟨b,ms,rfl,SqN.of sq,dN (by rw [ek];exact rk'),?_,_,cu kvs ms xx,kb,st2.trans sb,z1,z2,z3,q7⟩
      have:=jw es ms b vv'
      lia
  · have e:i=ds.length:=by lia
    refine .inl ⟨g3 e,fun l ob hp=>?_⟩
    exact hq l es kvs H2 _ S2 k2 (st1.trans st2) hp (aV hp) ⟨ob,aJ⟩ ek (rk.mono (fun a n e=>⟨⟨n,fun z=>e (z▸hp)⟩,aL fun z=>e (z▸hp)⟩) fun _ x=>x) (cH hp (rz.mono (fun _ n _=>⟨n,rfl⟩) fun _ x _=>x)) (hd kvs S2 (by rw [<- e];exact p))
end
end VL
end
section
namespace VL
open PySem L2 PySem.W
section
variable {va vb:VT} {vn:VTN} {S:List Sl} {Q:VR->List Sl->Prop} {i:Nat}
def Du (n:Int) (ra:VR) (Q:VR->List Sl->Prop):VR->List Sl->Prop:=fun rb S2=>∃kvs ms i,get S2 ra=some (dc kvs)/\get S2 rb=some (kT ms)/\(dM kvs ms).getD (.int n)=.int i/\Q (.d (.int i)) S2
def GY (n:Int) (vb:VT) (Q:VR->List Sl->Prop):VR->List Sl->Prop:=fun ra S1=>(∃kvs,get S1 ra=some (dc kvs))/\vb S1 (Du n ra Q)
theorem Dv {n:Int} (h:va S (GY n vb Q)):A0 n va vb S Q:=h
theorem Dw {n:Int} {ra:VR} (e:get S ra=some (dc kvs)) (h:vb S (Du n ra Q)):GY n vb Q ra S:=⟨⟨kvs,e⟩,h⟩
theorem oI {n:Int} {ra rb:VR} {i:Int} (e:get S ra=some (dc kvs)) (e2:get S rb=some (kT ms)) (e3:(dM kvs ms).getD (.int n)=.int i) (h:Q (.d (.int i)) S):Du n ra Q rb S:=⟨kvs,ms,i,e,e2,e3,h⟩
end
section
variable {α β:Type} {n:Nat} {ix:List Nat} {g g2:VG} {vt vt2:VTT} {vi vi2:VTN} {ve vk vv:VT} {S:List Sl}
def Dy (rk:VR) (A:List Int->D->List Sl->Prop):VR->List Sl->Prop:=fun rv S6=>∃ms x,get S6 rk=some (kT ms)/\rv=.d x/\A ms x S6
def Dz (vv:VT) (A:List Int->D->List Sl->Prop):VR->List Sl->Prop:=fun rk S5=>vv S5 (Dy rk A)
def yM (vk vv:VT) (A:List Int->D->List Sl->Prop) (B:List Sl->Prop):Bool->List Sl->Prop:=fun b S4=>if b=true then vk S4 (Dz vv A) else B S4
def uB (n:Nat) (ix:List Nat) (g:VG) (vt:VTT) (vk vv:VT) (Q:List (List Int×D)->List Sl->Prop):List D->List Sl->Prop:=fun ds S1=>ds.length<=1000000/\∃Iv:Nat->List (List Int×D)->List Sl->Prop,Iv 0 [] S1 /\
 (∀i d kvs S2,ds[i]?=some d->Iv i kvs S2->g d (bz n ix S2) fun S3=>vt S3 (yM vk vv (fun ms x S6=>Iv (i+1) (cu kvs ms x) (backS n ix S2 S6)) fun S4=>Iv (i+1) kvs (backS n ix S2 S4)))/\∀kvs S2,Iv ds.length kvs S2->Q kvs S2
theorem yN {Q:List (List Int×D)->List Sl->Prop} (h:vi S (uB n ix g vt vk vv Q)):uA vi n ix g vt vk vv S Q:=h
theorem DA {A:List Int->D->List Sl->Prop} {B:List Sl->Prop} (h:vk S (Dz vv A)):yM vk vv A B true S:=by unfold yM;rw [if_pos rfl];exact h
theorem DB {A:List Int->D->List Sl->Prop} {rk:VR} (h:vv S (Dy rk A)):Dz vv A rk S:=h
theorem DC {A:List Int->D->List Sl->Prop} {rk:VR} {x:D} (e:get S rk=some (kT ms)) (h:A ms x S):Dy rk A (.d x) S:=⟨ms,x,e,rfl,h⟩
theorem rO {Q:List (List Int×D)->List Sl->Prop} {xs:List α} {en f:α->D} {ky:α->List Int} (hl:xs.length<=1000000)
  (h:∀x∈xs,∀(A:List Int->D->List Sl->Prop) (B:List Sl->Prop),(∀S5,backS n ix S S5=S->A (ky x) (f x) S5)->g (en x) (bz n ix S) fun S3=>vt S3 (yM vk vv A B))
  (h2:Q (xs.foldl (fun kvs x=>cu kvs (ky x) (f x)) []) S):uB n ix g vt vk vv Q (xs.map en) S:=by
 refine ⟨by simpa using hl,fun i kvs S'=>S'=S/\kvs=(xs.take i).foldl (fun kvs x=>cu kvs (ky x) (f x)) [],⟨rfl,by simp⟩,?_,?_⟩
 ·rintro i d kvs S2 e ⟨rfl,rfl⟩
  obtain ⟨x,h1,rfl,hm,ht⟩:=bp e
  refine h x hm _ _ fun S5 e5=>⟨e5,?_⟩
  rw [ht,P0]
  rfl
 ·rintro kvs S2 ⟨rfl,rfl⟩
  rw [IR,KQ]
  exact h2
theorem uC {k c:List Int}:c∈(cu kvs k d).map (·.1)↔c=k\/c∈kvs.map (·.1):=by
 unfold cu
 split
 ·next h=>
  rw [show (kvs.map fun x=>if x.1=k then (x.1,d) else x).map (·.1)=kvs.map (·.1) from cU kvs k d]
  exact ⟨.inr,fun z=>z.elim (fun e=>e▸h) id⟩
 ·simp [or_comm]
theorem hV {α:Type} {ky:α->List Int} {f:α->D} {c:List Int}:∀(xs:List α) (kvs:List (List Int×D)),c∈(xs.foldl (fun kvs x=>cu kvs (ky x) (f x)) kvs).map (·.1)↔c∈xs.map ky\/c∈kvs.map (·.1)
 | [],kvs=>by simp
 | x::xs,kvs=>by
  rw [Nf,hV xs,uC,Jd,KA]
  exact ⟨fun z=>z.elim (fun h=>.inl (.inr h)) fun z=>z.elim (fun h=>.inl (.inl h)) .inr,fun z=>z.elim (fun z=>z.elim (fun h=>.inr (.inl h)) .inl) fun h=>.inr (.inr h)⟩
end
end VL
end
section
namespace L2
open PySem PySem.Spec PyProof.Rows PySem.W
section
variable {X:Cx}
def A1 (K:IJ):R2:=fun x y H Q=>∃l b xs zs,x=.ref l/\y=.ref b/\SqL K H l xs/\H b=some (.lst zs)/\xs.length+zs.length<=JA/\∀p,H p=none->Q (.ref p) (upd H p (.lst (xs++zs)))
theorem yO:OpR X (MV .Add) (A1 X.K):=by
 rintro pins s U H x y v u Q I rx ry ⟨l,b,xs,zs,e1,e2,hR,hB,hz,q⟩
 subst e1;subst e2
 cases rx;cases ry
 obtain ⟨its,r,⟨⟨cls,dd,data,sl⟩,n,e,hc,hd,hs⟩,z⟩:=I.list hR
 obtain ⟨z2,its2,n2,r2,hl2,e2⟩:=I.lstM hB
 have hl:=r.length
 cases (show cls=.type "list" from hc)
 cases (show data=.seq its.toArray n from hs)
 refine concat_meets (T:="list") ⟨_,e,rfl⟩ ⟨_,e2,rfl⟩ noFill_list_add seq_list_add F.slot_list_add F.entry_list_add (F.args_list_add_2 _ _) (list_addW l b _ _ n n2 dd _ sl _ (by simp only [Jb];lia)) ⟨e,e2,?_⟩
 rw [List.append_toArray]
 exact ⟨.ref _,_,I.lnew (t':=s.toks) (r.append r2) (by rw [Ji];lia),rfl,q _ I.fresh⟩
end
end L2
namespace VL
open PySem L2 PySem.W
section
variable {K:IJ} {X:Cx} {a b:Expr} {ta tb:TE} {pos:Pos}
def A2 (va:VT) (u:VTN):VTN:=fun S Q=>va S fun r S1=>u S1 fun es S2=>∃ds,get S2 r=some (.lst ds)/\flats ds=true/\ds.length+es.length<=1000000/\Q (ds++es) S2
theorem yP {va:VT} {u:VTN} (hK:X.K=K) (h1:VE K X false a ta va) (h2:VN K X b tb u):VN K X (.BinOp a .Add b pos) (tOp (A1 K) ta tb) (A2 va u):=⟨by subst hK;exact sU yO h1.pe h2.pe,fun H0 Z U H S Q C k t hc=>
 h1.snd H0 Z U H S _ _ k t fun x H1 r S1 k1 st1 r1 t1=>h2.snd H0 Z U H1 S1 _ _ k1 t1 fun a' vs es H2 H' S2 k2 st2 ha hg hl rr zq1=>by
  obtain ⟨ds,e,f,hlen,q⟩:=zq1
  obtain ⟨c,us,rfl,hR,r2⟩:=((r1.step st2).step (.grow hg)).elems (k2.grow hg) e
  refine ⟨c,a',us,vs,rfl,rfl,hR,hl,by rw [r2.length,rr.length,J7];lia,fun p hp=>?_⟩
  refine hc p _ _ H' _ S2 (k2.grow hg) (st1.trans (st2.trans (.grow hg))) hp (aV hp) aJ (Reps.append ?_ ?_) q
  ·exact gX hp r2 f
  ·exact cH hp (rr.mono (fun _ n _=>⟨n.1,rfl⟩) fun _ x _=>x)⟩
def GZ (u:VTN) (Q:List D->List Sl->Prop):VR->List Sl->Prop:=fun r S1=>u S1 fun es S2=>∃ds,get S2 r=some (.lst ds)/\flats ds=true/\ds.length+es.length<=1000000/\Q (ds++es) S2
def G0 (r:VR) (Q:List D->List Sl->Prop):List D->List Sl->Prop:=fun es S2=>∃ds,get S2 r=some (.lst ds)/\flats ds=true/\ds.length+es.length<=1000000/\Q (ds++es) S2
theorem DD {va:VT} {u:VTN} {Q:List D->List Sl->Prop} (h:va S (GZ u Q)):A2 va u S Q:=h
theorem DE {u:VTN} {Q:List D->List Sl->Prop} (h:u S (G0 r Q)):GZ u Q r S:=h
theorem DF {ds es:List D} {Q:List D->List Sl->Prop} (e:get S r=some (.lst ds)) (f:flats ds=true) (hl:ds.length+es.length<=1000000) (h:Q (ds++es) S):G0 r Q es S:=⟨ds,e,f,hl,h⟩
end
end VL
end
section
namespace Tim
open PySem PyProof.Rows
def gal:Bool->Jo->Array Jo->Nat->Nat->Nat->StateT KF Sem (Option Nat):=sortPriv% PySem.Builtin.gallop
def at_ (arr:Array Jo) (i:Nat):Jo:=arr.getD i (JR,JR)
theorem ql {arr:Array Jo} {i:Nat} (h:i < arr.size):arr[i]?=some (at_ arr i):=by
 unfold at_;simp [L9,h]
theorem bh {a b:Array Jo} {i j:Nat} (h:a[i]?=b[j]?):at_ a i=at_ b j:=by
 unfold at_;rw [Ng,Ng,h]
def hW (prog:Jp) (w:JQ) (A:JY) (s:IM) (κ:MC) (O:NX) (key:Jo->O.α) (P:Jo->Prop):Prop:=
 ∀(x y:Jo) (C:Bool->IM->Prop),P x->P y->C (O.blt (key x) (key y)) s->JB (JD prog w) A (keyLt' κ x.1 y.1) C (fun _ _=>False) s
def bey {O:NX} (key:Jo->O.α) (left:Bool) (x y:Jo):Bool:=if left=true then O.blt (key y) (key x) else !O.blt (key x) (key y)
section
variable {prog:Jp} {w:JQ} {A:JY} {E:IP->IM->Prop} {s:IM} {κ:MC} {O:NX} {key:Jo->O.α} {P:Jo->Prop}
theorem m7 (C:hW prog w A s κ O key P) {x y:Jo} {st:KF} {Q:Option Bool->KF->Prop} (hx:P x) (hy:P y) (hk:kindOf st=κ) (h:Q (some (O.blt (key x) (key y))) st) :
  wpS (JD prog w) A E s (lt' x y) Q st:=by
 rw [lt'_eq]
 refine IV (MP ?_)
 rw [hk]
 refine IV (Ob (MZ (J9 (C x y (fun b s'=>s'=s/\b=O.blt (key x) (key y)) hx hy ⟨rfl,rfl⟩) (fun b s' z=>⟨z.1,?_⟩) fun _ _ z=>z.elim)))
 rw [z.2]
 exact Ja h
theorem aX {arr:Array Jo} {i:Nat} {st:KF} {Q:Jo->KF->Prop} (e:i < arr.size) (h:Q (at_ arr i) st):wpS (JD prog w) A E s (elem' arr i) Q st:=by
 rw [elem'_eq,ql e];exact Ja h
theorem DG (C:hW prog w A s κ O key P) {left:Bool} {x:Jo} {arr:Array Jo} {i:Nat} {st:KF} {Q:Option Bool->KF->Prop} (e:i < arr.size) (hx:P x) (hy:P (at_ arr i)) (hk:kindOf st=κ)
  (h:Q (some (bey key left x (at_ arr i))) st) :
  wpS (JD prog w) A E s (elem' arr i >>= fun y=>if left=true then lt' y x else lt' x y >>= fun r=>pure (Option.map (fun z=>!z) r)) Q st:=by
 refine IV (aX e ?_)
 unfold bey at h
 cases left with
 | true=>exact m7 C hy hx hk h
 | false=>exact IV (m7 C hx hy hk (Ja h))
theorem hZ (C:hW prog w A s κ O key P) {left:Bool} {x:Jo} {arr:Array Jo} {base n hint:Nat} {st:KF} {Q:Option Nat->KF->Prop} (hk:kindOf st=κ) (hh:hint < n) (hz:base+n<=arr.size)
  (hP:∀i,i < n->P (at_ arr (base+i))) (hx:P x) (mono:∀i j,i<=j->j < n->bey key left x (at_ arr (base+j))=true->bey key left x (at_ arr (base+i))=true)
  (h:∀k,k<=n->(∀i,i < k->bey key left x (at_ arr (base+i))=true)->(∀i,k<=i->i < n->bey key left x (at_ arr (base+i))=false)->Q (some k) st) :
  wpS (JD prog w) A E s (gal left x arr base n hint) Q st:=by
 have B:=fun i (hi:i < n) (R:Option Bool->KF->Prop) (r:R (some (bey key left x (at_ arr (base+i)))) st)=>DG (E:=E) C (left:=left) (show base+i < arr.size by lia) hx (hP i hi) hk r
 generalize eb:(fun i=>bey key left x (at_ arr (base+i)))=b at *
 have eb':∀i,bey key left x (at_ arr (base+i))=b i:=fun i=>by rw [<- eb]
 simp only [eb'] at *
 have anti:∀i j,i<=j->j < n->b i=false->b j=false:=fun i j hij hj hi=>by
  cases hj':b j with
  | false=>rfl
  | true=>rw [mono i j hij hj hj'] at hi;cases hi
 delta gal
 refine IV (B hint hh _ ?_)
 dsimp only
 cases hb:b hint with
 | true=>
  rw [if_pos rfl]
  refine IV (KE (JV (I:=fun k c st'=>st'=st/\∃ls os,c=(none,ls,os)/\ls < os/\k+1<=os/\hint+ls < n/\b (hint+ls)=true)
   (Q:=fun c st'=>st'=st/\∃ls os,c=(none,ls,os)/\ls < os/\hint+ls < n/\b (hint+ls)=true/\(n-hint<=os\/b (hint+os)=false)) ?step ?fin ⟨rfl,0,1,rfl,by lia,by lia,by lia,hb⟩) ?post)
  case fin=>
   rintro c st' ⟨rfl,ls,os,rfl,h1,h2,h3,h4⟩
   exact ⟨rfl,ls,os,rfl,h1,h3,h4,.inl (by lia)⟩
  case step=>
   rintro k c st' _ hkn ⟨rfl,ls,os,rfl,h1,h2,h3,h4⟩
   dsimp only
   by_cases hge:os >= n-hint
   ·rw [if_pos hge];exact Ja ⟨rfl,ls,os,rfl,h1,h3,h4,.inl hge⟩
   ·rw [if_neg hge]
    refine IV (B (hint+os) (by lia) _ ?_)
    dsimp only
    cases ho:b (hint+os) with
    | true=>exact Ja ⟨rfl,os,2*os+1,rfl,by lia,by lia,by lia,ho⟩
    | false=>exact Ja ⟨rfl,ls,os,rfl,h1,h3,h4,.inr ho⟩
  case post=>
   rintro c st' ⟨rfl,ls,os,rfl,h1,h3,h4,h5⟩
   dsimp only
   refine IV (KE (JV (I:=fun k c st''=>st''=st'/\∃lo hi,c=(none,lo,hi)/\lo<=hi/\hi<=n/\hi-lo<=n-k/\(∀i,i < lo->b i=true)/\(∀i,hi<=i->i < n->b i=false))
    (Q:=fun c st''=>st''=st'/\∃k,c=(none,k,k)/\k<=n/\(∀i,i < k->b i=true)/\(∀i,k<=i->i < n->b i=false)) ?step ?fin ?init) ?post)
   case init=>
    refine ⟨rfl,_,_,rfl,by lia,by lia,by lia,fun i hi=>mono i _ (by lia) h3 h4,fun i hi hn=>?_⟩
    rcases h5 with h5 | h5
    ·lia
    ·by_cases hge:n-hint<=os
     ·lia
     ·exact anti _ i (by lia) hn h5
   case post=>
    rintro c st'' ⟨rfl,k,rfl,z1,z2,z3⟩
    exact Ja (h k z1 z2 z3)
   case fin=>
    rintro c st'' ⟨rfl,lo,hi,rfl,a1,a2,a3,a4,a5⟩
    have:lo=hi:=by lia
    subst this
    exact ⟨rfl,lo,rfl,a2,a4,a5⟩
   case step=>
    rintro k c st'' _ hkn ⟨rfl,lo,hi,rfl,a1,a2,a3,a4,a5⟩
    dsimp only
    by_cases hge:lo >= hi
    ·rw [if_pos hge]
     have:lo=hi:=by lia
     subst this
     exact Ja ⟨rfl,lo,rfl,a2,a4,a5⟩
    ·rw [if_neg hge]
     refine IV (B (lo+(hi-lo) / 2) (by lia) _ ?_)
     dsimp only
     cases ho:b (lo+(hi-lo) / 2) with
     | true=>exact Ja ⟨rfl,_,_,rfl,by lia,a2,by lia,fun i hi=>mono i _ (by lia) (by lia) ho,a5⟩
     | false=>exact Ja ⟨rfl,_,_,rfl,by lia,by lia,by lia,a4,fun i h1 h2=>anti _ i h1 h2 ho⟩
 | false=>
  rw [if_neg (by simp)]
  refine IV (KE (JV (I:=fun k c st'=>st'=st/\∃ls os,c=(none,ls,os)/\ls < os/\k+1<=os/\ls<=hint/\b (hint-ls)=false)
   (Q:=fun c st'=>st'=st/\∃ls os,c=(none,ls,os)/\ls < os/\ls<=hint/\b (hint-ls)=false/\(hint+1<=os\/(os<=hint/\b (hint-os)=true))) ?step ?fin ⟨rfl,0,1,rfl,by lia,by lia,by lia,hb⟩) ?post)
  case fin=>
   rintro c st' ⟨rfl,ls,os,rfl,h1,h2,h3,h4⟩
   exact ⟨rfl,ls,os,rfl,h1,h3,h4,.inl (by lia)⟩
  case step=>
   rintro k c st' _ hkn ⟨rfl,ls,os,rfl,h1,h2,h3,h4⟩
   dsimp only
   by_cases hge:os >= hint+1
   ·rw [if_pos hge];exact Ja ⟨rfl,ls,os,rfl,h1,h3,h4,.inl hge⟩
   ·rw [if_neg hge]
    refine IV (B (hint-os) (by lia) _ ?_)
    dsimp only
    cases ho:b (hint-os) with
    | true=>exact Ja ⟨rfl,ls,os,rfl,h1,h3,h4,.inr ⟨by lia,ho⟩⟩
    | false=>exact Ja ⟨rfl,os,2*os+1,rfl,by lia,by lia,by lia,ho⟩
  case post=>
   rintro c st' ⟨rfl,ls,os,rfl,h1,h3,h4,h5⟩
   dsimp only
   refine IV (KE (JV (I:=fun k c st''=>st''=st'/\∃lo hi,c=(none,lo,hi)/\lo<=hi/\hi<=n/\hi-lo<=n-k/\(∀i,i < lo->b i=true)/\(∀i,hi<=i->i < n->b i=false))
    (Q:=fun c st''=>st''=st'/\∃k,c=(none,k,k)/\k<=n/\(∀i,i < k->b i=true)/\(∀i,k<=i->i < n->b i=false)) ?step ?fin ?init) ?post)
   case init=>
    refine ⟨rfl,_,_,rfl,by lia,by lia,by lia,fun i hi=>?_,fun i hi hn=>anti _ i hi hn h4⟩
    rcases h5 with h5 | h5
    ·lia
    ·exact mono i _ (by lia) (by lia) h5.2
   case post=>
    rintro c st'' ⟨rfl,k,rfl,z1,z2,z3⟩
    exact Ja (h k z1 z2 z3)
   case fin=>
    rintro c st'' ⟨rfl,lo,hi,rfl,a1,a2,a3,a4,a5⟩
    have:lo=hi:=by lia
    subst this
    exact ⟨rfl,lo,rfl,a2,a4,a5⟩
   case step=>
    rintro k c st'' _ hkn ⟨rfl,lo,hi,rfl,a1,a2,a3,a4,a5⟩
    dsimp only
    by_cases hge:lo >= hi
    ·rw [if_pos hge]
     have:lo=hi:=by lia
     subst this
     exact Ja ⟨rfl,lo,rfl,a2,a4,a5⟩
    ·rw [if_neg hge]
     refine IV (B (lo+(hi-lo) / 2) (by lia) _ ?_)
     dsimp only
     cases ho:b (lo+(hi-lo) / 2) with
     | true=>exact Ja ⟨rfl,_,_,rfl,by lia,a2,by lia,fun i hi=>mono i _ (by lia) (by lia) ho,a5⟩
     | false=>exact Ja ⟨rfl,_,_,rfl,by lia,by lia,by lia,a4,fun i h1 h2=>anti _ i h1 h2 ho⟩
end
end Tim
end
section
namespace Tim
open PySem PyProof.Rows
section
variable {α:Type} {le:α->α->Prop}
structure MI (le:α->α->Prop) (A B out:List α) (ia ib:Nat):Prop where
 perm:out.Perm (A.take ia++B.take ib)
 srt:out.Pairwise le
 la:∀x∈out,∀y∈A.drop ia,le x y
 lb:∀x∈out,∀y∈B.drop ib,le x y
def Res (le:α->α->Prop) (A B r:List α):Prop:=r.Perm (A++B)/\r.Pairwise le
theorem MI.pushA {A B out:List α} {ia ib k:Nat} (sA:A.Pairwise le) (M:MI le A B out ia ib) (h:∀x∈(A.drop ia).take k,∀y∈B.drop ib,le x y):MI le A B (out++(A.drop ia).take k) (ia+k) ib:=by
 have sD:((A.drop ia).take k++(A.drop ia).drop k).Pairwise le:=by rw [Ju];exact sA.drop
 have eD:A.drop (ia+k)=(A.drop ia).drop k:=by rw [List.drop_drop]
 rw [Li] at sD
 refine ⟨?_,?_,?_,?_⟩
 ·rw [List.take_add,Jm]
  refine (M.perm.append_right _).trans ?_
  rw [Jm]
  exact KM _ KN
 ·exact List.pairwise_append.mpr ⟨M.srt,sD.1,fun x hx y hy=>M.la x hx y (LU hy)⟩
 ·intro x hx y hy
  rw [eD] at hy
  rcases List.mem_append.mp hx with hx | hx
  ·exact M.la x hx y (LV hy)
  ·exact sD.2.2 x hx y hy
 ·intro x hx y hy
  rcases List.mem_append.mp hx with hx | hx
  ·exact M.lb x hx y hy
  ·exact h x hx y hy
theorem MI.swap {A B out:List α} {ia ib:Nat} (M:MI le A B out ia ib):MI le B A out ib ia:=⟨M.perm.trans KN,M.srt,M.lb,M.la⟩
theorem MI.pushB {A B out:List α} {ia ib k:Nat} (sB:B.Pairwise le) (M:MI le A B out ia ib) (h:∀x∈(B.drop ib).take k,∀y∈A.drop ia,le x y):MI le A B (out++(B.drop ib).take k) ia (ib+k):=
 (M.swap.pushA sB h).swap
theorem MI.done {A B out:List α} {ia ib:Nat} (sA:A.Pairwise le) (sB:B.Pairwise le) (M:MI le A B out ia ib) (h:A.drop ia=[]\/B.drop ib=[]):Res le A B (out++A.drop ia++B.drop ib):=by
 refine ⟨?_,?_⟩
 ·rw [Jm]
  refine (M.perm.append_right _).trans ?_
  conv=>rhs;rw [<- Ju ia A,<- Ju ib B]
  rw [Jm,Jm]
  refine KM _ ?_
  rw [<- Jm,<- Jm]
  exact Mk _ KN
 ·rw [Jm]
  refine List.pairwise_append.mpr ⟨M.srt,?_,fun x hx y hy=>?_⟩
  ·rcases h with h | h
   ·rw [h];exact sB.drop
   ·rw [h,KL];exact sA.drop
  ·rcases List.mem_append.mp hy with hy | hy
   ·exact M.la x hx y hy
   ·exact M.lb x hx y hy
theorem MI.last {A B out:List α} {ia ib:Nat} (sA:A.Pairwise le) (sB:B.Pairwise le) (M:MI le A B out ia ib) (h:∀x∈B,∀y∈A.drop ia,le x y):Res le A B (out++B.drop ib++A.drop ia):=by
 refine ⟨?_,?_⟩
 ·rw [Jm]
  refine (M.perm.append_right _).trans ?_
  conv=>rhs;rw [<- Ju ia A,<- Ju ib B]
  rw [Jm,Jm]
  refine KM _ ?_
  rw [<- Jm]
  exact KN
 ·rw [Jm]
  refine List.pairwise_append.mpr ⟨M.srt,List.pairwise_append.mpr ⟨sB.drop,sA.drop,fun x hx y hy=>h x (LV hx) y hy⟩,fun x hx y hy=>?_⟩
  rcases List.mem_append.mp hy with hy | hy
  ·exact M.lb x hx y hy
  ·exact M.la x hx y hy
structure MH (le:α->α->Prop) (A B R:List α) (na nb:Nat):Prop where
 perm:R.Perm (A.drop na++B.drop nb)
 srt:R.Pairwise le
 la:∀x∈A.take na,∀y∈R,le x y
 lb:∀x∈B.take nb,∀y∈R,le x y
theorem MH.swap {A B R:List α} {na nb:Nat} (M:MH le A B R na nb):MH le B A R nb na:=⟨M.perm.trans KN,M.srt,M.lb,M.la⟩
theorem MH.pushA {A B R:List α} {na nb k:Nat} (sA:A.Pairwise le) (hk:k<=na) (M:MH le A B R na nb) (h:∀x∈B.take nb,∀y∈(A.take na).drop k,le x y):MH le A B ((A.take na).drop k++R) k nb:=by
 have sD:((A.take na).take k++(A.take na).drop k).Pairwise le:=by rw [Ju];exact sA.take
 have eT:A.take k=(A.take na).take k:=by rw [List.take_take,OG hk]
 have eD:A.drop k=(A.take na).drop k++A.drop na:=by
  conv=>lhs;rw [<- Ju na A]
  rw [List.drop_append]
  by_cases hz:na<=A.length
  ·rw [show k-(A.take na).length=0 by rw [Kf];lia];rfl
  ·rw [KG (show A.length<=na by lia)];simp
 rw [Li] at sD
 refine ⟨?_,?_,?_,?_⟩
 ·rw [eD,Jm]
  exact KM _ M.perm
 ·exact List.pairwise_append.mpr ⟨sD.2.1,M.srt,fun x hx y hy=>M.la x (LV hx) y hy⟩
 ·intro x hx y hy
  rw [eT] at hx
  rcases List.mem_append.mp hy with hy | hy
  ·exact sD.2.2 x hx y hy
  ·exact M.la x (LU hx) y hy
 ·intro x hx y hy
  rcases List.mem_append.mp hy with hy | hy
  ·exact h x hx y hy
  ·exact M.lb x hx y hy
theorem MH.pushB {A B R:List α} {na nb k:Nat} (sB:B.Pairwise le) (hk:k<=nb) (M:MH le A B R na nb) (h:∀x∈A.take na,∀y∈(B.take nb).drop k,le x y):MH le A B ((B.take nb).drop k++R) na k:=
 (M.swap.pushA sB hk h).swap
theorem MH.done {A B R:List α} {na nb:Nat} (sA:A.Pairwise le) (sB:B.Pairwise le) (M:MH le A B R na nb) (h:A.take na=[]\/B.take nb=[]):Res le A B (A.take na++B.take nb++R):=by
 refine ⟨?_,?_⟩
 ·refine (M.perm.append_left _).trans ?_
  conv=>rhs;rw [<- Ju na A,<- Ju nb B]
  rw [Jm,Jm]
  refine KM _ ?_
  rw [<- Jm,<- Jm]
  exact Mk _ KN
 ·refine List.pairwise_append.mpr ⟨?_,M.srt,fun x hx y hy=>?_⟩
  ·rcases h with h | h
   ·rw [h];exact sB.take
   ·rw [h,KL];exact sA.take
  ·rcases List.mem_append.mp hx with hx | hx
   ·exact M.la x hx y hy
   ·exact M.lb x hx y hy
theorem MH.first {A B R:List α} {na nb:Nat} (sA:A.Pairwise le) (sB:B.Pairwise le) (M:MH le A B R na nb) (h:∀x∈B.take nb,∀y∈A,le x y):Res le A B (B.take nb++A.take na++R):=by
 refine ⟨?_,?_⟩
 ·refine (M.perm.append_left _).trans ?_
  conv=>rhs;rw [<- Ju na A,<- Ju nb B]
  rw [<- Jm,<- Jm]
  refine Mk _ ?_
  rw [Jm,Jm]
  exact List.perm_append_comm.trans (by rw [Jm])
 ·refine List.pairwise_append.mpr ⟨List.pairwise_append.mpr ⟨sB.take,sA.take,fun x hx y hy=>h x hx y (LU hy)⟩,M.srt,fun x hx y hy=>?_⟩
  rcases List.mem_append.mp hx with hx | hx
  ·exact M.lb x hx y hy
  ·exact M.la x hx y hy
theorem du {l:List α} {i:Nat} (d:α) (h:i < l.length):(l.drop i).take 1=[l.getD i d]:=by
 rw [KI h,O9,List.take_zero,LR,IL h];rfl
theorem dw {l:List α} {i:Nat} (d:α) (h:i < l.length):(l.take (i+1)).drop i=[l.getD i d]:=by
 rw [PV,List.drop_append,KG (by simp;lia)]
 simp [h,OG (Ox h)]
end
end Tim
end
section
namespace Tim
open PySem PyProof.Rows
def mlo:Array Jo->Array Jo->StateT KF Sem (Array Jo):=sortPriv% PySem.Builtin.mergeLo
def Same (st st':KF):Prop:=kindOf st'=kindOf st/\IY st'=IY st/\Jv st'=Jv st/\LC st'=LC st
theorem Same.rfl' {st:KF}:Same st st:=⟨rfl,rfl,rfl,rfl⟩
theorem lM (a:Array Jo) (i:Nat):(a.extract i a.size).toList=a.toList.drop i:=by
 simp only [OS,NI];exact Ml (by simp)
theorem yQ (a:Array Jo) (i k:Nat):(a.extract i (i+k)).toList=(a.toList.drop i).take k:=by simp [NI]
abbrev kl {O:NX} (key:Jo->O.α):Jo->Jo->Prop:=fun x y=>O.kle (key x) (key y)
theorem cf {a:Array Jo} {i:Nat} (h:i < a.size):a.toList[i]?=some (at_ a i):=by rw [JI];exact ql h
theorem eK {a:Array Jo} {i:Nat} (h:i < a.size):at_ a i∈a.toList:=Jy (cf h)
theorem getD_at {a:Array Jo} {i:Nat} (h:i < a.size):a.toList.getD i (JR,JR)=at_ a i:=by rw [LR,cf h];rfl
theorem lN {a:Array Jo} {i k:Nat} {x:Jo} (h:x∈(a.toList.drop i).take k):∃j,j < k/\i+j < a.size/\x=at_ a (i+j):=by
 obtain ⟨j,hj,e⟩:=K5 h
 have hj':j < k/\j < a.size-i:=by simpa [Nat.lt_min] using hj
 refine ⟨j,hj'.1,by lia,?_⟩
 have e2:a.toList[i+j]?=some x:=by
  rw [<- e]
  simp only [P1,P3]
  exact IL _
 rw [cf (by lia)] at e2
 exact (Jx e2).symm
theorem m8 {a:Array Jo} {i:Nat} {x:Jo} (h:x∈a.toList.drop i):∃j,i+j < a.size/\x=at_ a (i+j):=by
 obtain ⟨j,_,h2,h3⟩:=lN (k:=(a.toList.drop i).length) (by rw [KQ];exact h)
 exact ⟨j,h2,h3⟩
section
variable {prog:Jp} {w:JQ} {A:JY} {E:IP->IM->Prop} {s:IM} {κ:MC} {O:NX} {key:Jo->O.α} {P:Jo->Prop}
theorem eM {a:Array Jo} (h:a.toList.Pairwise (kl key)) {i j:Nat} (hij:i<=j) (hj:j < a.size):kl key (at_ a i) (at_ a j):=by
 by_cases e:i=j
 ·subst e;exact Ln _
 ·have q:=List.pairwise_iff_getElem.mp h i j (by simp;lia) (by simpa using hj) (by lia)
  have e1:a.toList[i]'(by simp;lia)=at_ a i:=by have:=cf (a:=a) (i:=i) (by lia);rw [IL (by simp;lia)] at this;exact Jx this
  have e2:a.toList[j]'(by simpa using hj)=at_ a j:=by have:=cf (a:=a) (i:=j) hj;rw [IL (by simpa using hj)] at this;exact Jx this
  rw [e1,e2] at q
  exact q
theorem gC {a:Array Jo} (h:a.toList.Pairwise (kl key)) {i:Nat} {y:Jo} (hy:y∈a.toList.drop i):kl key (at_ a i) y:=by
 obtain ⟨j,hj,rfl⟩:=m8 hy
 exact eM h (by lia) hj
theorem m9 {x y:Jo} (h:bey key false x y=true):kl key y x:=by
 have:(!O.blt (key x) (key y))=true:=h
 show O.blt (key x) (key y)=false
 simpa using this
theorem uD {x y:Jo} (h:bey key false x y=false):O.klt (key x) (key y):=by
 have:(!O.blt (key x) (key y))=false:=h
 show O.blt (key x) (key y)=true
 simpa using this
theorem ng {x y:Jo} (h:bey key true x y=true):O.klt (key y) (key x):=h
theorem uE {x y:Jo} (h:bey key true x y=false):kl key x y:=h
theorem qm {a:Array Jo} (h:a.toList.Pairwise (kl key)) {x:Jo} {base n:Nat} (hz:base+n<=a.size):∀i j,i<=j->j < n->bey key false x (at_ a (base+j))=true->bey key false x (at_ a (base+i))=true:=fun i j hij hj q=>by
 have q:=m9 q
 have:kl key (at_ a (base+i)) x:=JK (eM h (by lia) (by lia)) q
 show (!O.blt (key x) (key (at_ a (base+i))))=true
 rw [show O.blt (key x) (key (at_ a (base+i)))=false from this];rfl
theorem qp {a:Array Jo} (h:a.toList.Pairwise (kl key)) {x:Jo} {base n:Nat} (hz:base+n<=a.size):∀i j,i<=j->j < n->bey key true x (at_ a (base+j))=true->bey key true x (at_ a (base+i))=true:=fun i j hij hj q=>
 NY (eM h (show base+i<=base+j by lia) (by lia)) (ng q)
theorem cw {U α:Type} {M:QB} {c:Prop} [Decidable c] {t e:StateT U Sem α} {Q:α->U->Prop} {st:U} (h1:c->wpS M A E s t Q st) (h2:¬c->wpS M A E s e Q st):wpS M A E s (if c then t else e) Q st:=by
 by_cases h:c
 ·rw [if_pos h];exact h1 h
 ·rw [if_neg h];exact h2 h
theorem A3 {U α:Type} {M:QB} {c:Nat->Prop} [∀m,Decidable (c m)] {T F:Nat->StateT U Sem α} {Q:α->U->Prop} {st:U} (h1:∀m,(∀m,wpS M A E s (F m) Q st)->wpS M A E s (T m) Q st) (key:∀m,wpS M A E s (F m) Q st):∀m,wpS M A E s (if c m then T m else F m) Q st:=fun m=>cw (fun _=>h1 m key) fun _=>key m
theorem A4 {U α:Type} {M:QB} {c:Prop} [Decidable c] {T:StateT U Sem α} {F:PUnit->Array Jo->Nat->StateT U Sem α} {o:Array Jo} {i:Nat} {Q:α->U->Prop} {st:U} (Cond:Array Jo->Nat->Prop) (h1:c->(∀o i,Cond o i->wpS M A E s (F ⟨⟩ o i) Q st)->wpS M A E s T Q st) (h2:¬c->Cond o i) (key:∀o i,Cond o i->wpS M A E s (F ⟨⟩ o i) Q st):wpS M A E s (if c then T else F ⟨⟩ o i) Q st:=cw (fun h=>h1 h key) fun h=>key _ _ (h2 h)
def X4 (P:Array Jo->Nat->Nat->Nat->Prop) (c:Option (Array Jo)×Array Jo×Nat×Nat×Nat):Prop:=∃o i j m,c=(none,o,i,j,m)/\P o i j m
def X5 (P:Array Jo->Nat->Nat->Prop) (c:Option (Array Jo)×Array Jo×Nat×Nat×Nat×Nat):Prop:=∃o i j m n,c=(none,o,i,j,m,n)/\P o i j
def X6 (P:Array Jo->Nat->Nat->Prop) (c:Option (Array Jo)×Array Jo×Nat×Nat×Nat×Nat×Nat):Prop:=∃o i j m n k,c=(none,o,i,j,m,n,k)/\P o i j
def Xr {τ:Type} (R:Array Jo->Prop) (c:Option (Array Jo)×τ):Prop:=∃r z,c=(some r,z)/\R r
@[elab_as_elim] theorem X4.el {P:Array Jo->Nat->Nat->Nat->Prop} {c:Option (Array Jo)×Array Jo×Nat×Nat×Nat} {C:Option (Array Jo)×Array Jo×Nat×Nat×Nat->Prop} (h:X4 P c) (f:∀o i j m,P o i j m->C (none,o,i,j,m)):C c:=by
 obtain ⟨o,i,j,m,rfl,p⟩:=h;exact f _ _ _ _ p
@[elab_as_elim] theorem X5.el {P:Array Jo->Nat->Nat->Prop} {c:Option (Array Jo)×Array Jo×Nat×Nat×Nat×Nat} {C:Option (Array Jo)×Array Jo×Nat×Nat×Nat×Nat->Prop} (h:X5 P c) (f:∀o i j m n,P o i j->C (none,o,i,j,m,n)):C c:=by
 obtain ⟨o,i,j,m,n,rfl,p⟩:=h;exact f _ _ _ _ _ p
@[elab_as_elim] theorem X6.el {P:Array Jo->Nat->Nat->Prop} {c:Option (Array Jo)×Array Jo×Nat×Nat×Nat×Nat×Nat} {C:Option (Array Jo)×Array Jo×Nat×Nat×Nat×Nat×Nat->Prop} (h:X6 P c) (f:∀o i j m n k,P o i j->C (none,o,i,j,m,n,k)):C c:=by
 obtain ⟨o,i,j,m,n,k,rfl,p⟩:=h;exact f _ _ _ _ _ _ p
@[elab_as_elim] theorem Xr.el {τ:Type} {R:Array Jo->Prop} {c:Option (Array Jo)×τ} {C:Option (Array Jo)×τ->Prop} {P:Prop} (h:Xr R c\/P) (f:∀r z,R r->C (some r,z)) (g:P->C c):C c:=by
 rcases h with ⟨r,z,rfl,p⟩ | p
 ·exact f _ _ p
 ·exact g p
theorem DH (C:hW prog w A s κ O key P) {a b:Array Jo} {st:KF} {Q:Array Jo->KF->Prop} (hk:kindOf st=κ) (ha:0 < a.size) (hb:0 < b.size) (Pa:∀x∈a.toList,P x) (Pb:∀x∈b.toList,P x)
  (sA:a.toList.Pairwise (kl key)) (sB:b.toList.Pairwise (kl key)) (h0:∀y∈a.toList,kl key (at_ b 0) y) (hl:∀x∈b.toList,kl key x (at_ a (a.size-1)))
  (h:∀r st',Same st st'->Res (kl key) a.toList b.toList r.toList->Q r st'):wpS (JD prog w) A E s (mlo a b) Q st:=by
 have pa:∀i,i < a.size->P (at_ a i):=fun i hi=>Pa _ (eK hi)
 have pb:∀i,i < b.size->P (at_ b i):=fun i hi=>Pb _ (eK hi)
 have M0:MI (kl key) a.toList b.toList (#[at_ b 0]:Array Jo).toList 0 1:=by
  refine ⟨?_,?_,?_,?_⟩
  ·have e:b.toList.take 1=[at_ b 0]:=by have:=du (l:=b.toList) (i:=0) (JR,JR) (by simpa using hb);rw [NJ,getD_at hb] at this;exact this
   rw [e];simp
  ·simp
  ·intro x hx y hy
   have:x=at_ b 0:=by simpa using hx
   subst this;exact h0 y (LV hy)
  ·intro x hx y hy
   have:x=at_ b 0:=by simpa using hx
   subst this
   obtain ⟨j,hj,rfl⟩:=m8 hy
   exact eM sB (by lia) hj
 have dn:∀{out:Array Jo} {ia ib:Nat},MI (kl key) a.toList b.toList out.toList ia ib->(a.size<=ia\/b.size<=ib)->Res (kl key) a.toList b.toList (out++a.extract ia a.size++b.extract ib b.size).toList:=fun M hh=>by
  rw [JT,JT,lM,lM]
  exact M.done sA sB (hh.imp (fun z=>KG (by simpa using z)) fun z=>KG (by simpa using z))
 have la:∀{out:Array Jo} {ia ib:Nat},MI (kl key) a.toList b.toList out.toList ia ib->ia+1=a.size->Res (kl key) a.toList b.toList (out++b.extract ib b.size++a.extract ia a.size).toList:=fun {out ia ib} M hh=>by
  rw [JT,JT,lM,lM]
  refine M.last sA sB fun x hx y hy=>?_
  obtain ⟨j,hj,rfl⟩:=m8 hy
  have:=hl x hx
  rwa [show a.size-1=ia+j by lia] at this
 have p1A:∀{out:Array Jo} {ia ib:Nat},MI (kl key) a.toList b.toList out.toList ia ib->ia < a.size->(∀y∈b.toList.drop ib,kl key (at_ a ia) y)->MI (kl key) a.toList b.toList (out.push (at_ a ia)).toList (ia+1) ib:=fun {out ia ib} M hi q=>by
  have e:=du (l:=a.toList) (i:=ia) (JR,JR) (by simpa using hi)
  rw [getD_at hi] at e
  have:=M.pushA (k:=1) sA (by rw [e];intro x hx y hy;rw [KP] at hx;subst hx;exact q y hy)
  rw [e] at this
  rw [Mw];exact this
 have p1B:∀{out:Array Jo} {ia ib:Nat},MI (kl key) a.toList b.toList out.toList ia ib->ib < b.size->(∀y∈a.toList.drop ia,kl key (at_ b ib) y)->MI (kl key) a.toList b.toList (out.push (at_ b ib)).toList ia (ib+1):=fun {out ia ib} M hi q=>by
  have e:=du (l:=b.toList) (i:=ib) (JR,JR) (by simpa using hi)
  rw [getD_at hi] at e
  have:=M.pushB (k:=1) sB (by rw [e];intro x hx y hy;rw [KP] at hx;subst hx;exact q y hy)
  rw [e] at this
  rw [Mw];exact this
 have pkA:∀{out:Array Jo} {ia ib k:Nat},MI (kl key) a.toList b.toList out.toList ia ib->(∀i,i < k->kl key (at_ a (ia+i)) (at_ b ib))->MI (kl key) a.toList b.toList (out++a.extract ia (ia+k)).toList (ia+k) ib:=fun {out ia ib k} M q=>by
  rw [JT,yQ]
  refine M.pushA sA fun x hx y hy=>?_
  obtain ⟨j,hj,_,rfl⟩:=lN hx
  exact JK (q j hj) (gC sB hy)
 have pkB:∀{out:Array Jo} {ia ib k:Nat},MI (kl key) a.toList b.toList out.toList ia ib->(∀i,i < k->O.klt (key (at_ b (ib+i))) (key (at_ a ia)))->MI (kl key) a.toList b.toList (out++b.extract ib (ib+k)).toList ia (ib+k):=fun {out ia ib k} M q=>by
  rw [JT,yQ]
  refine M.pushB sB fun x hx y hy=>?_
  obtain ⟨j,hj,_,rfl⟩:=lN hx
  exact JK (J4 (q j hj)) (gC sA hy)
 delta mlo
 refine IV (Ob (La ⟨rfl,?_⟩))
 refine IV (aX hb ?_)
 refine cw (fun e1=>Ja (h _ _ Same.rfl' (dn M0 (.inr (by have z:1=b.size:=(by simpa using e1);exact MJ z.symm))))) fun e1=>?_
 refine cw (fun e2=>Ja (h _ _ Same.rfl' (la M0 (by simpa using e2)))) fun e2=>?_
 have e1:¬(1=b.size):=by simpa using e1
 have e2:¬(0+1=a.size):=by simpa using e2
 refine IV (MP ?_)
 refine IV (KE (JV (I:=fun x c st'=>Same st st'/\X4 (fun out ia ib _=>MI (kl key) a.toList b.toList out.toList ia ib/\ia+1 < a.size/\ib < b.size/\x+1<=ia+ib) c)
  (Q:=fun c st'=>Same st st'/\Xr (fun r=>Res (kl key) a.toList b.toList r.toList) c) ?step ?fin ⟨Same.rfl',_,0,1,_,rfl,M0,by lia,by lia,by lia⟩) ?post)
 case post=>exact fun c st' q=>Xr.el (P:=False) (.inl q.2) (fun r z R=>Ja (h r st' q.1 R)) fun f=>f.elim
 case fin=>
  rintro c st' ⟨S,out,ia,ib,mg,rfl,M,h1,h2,h3⟩
  lia
 case step=>
  intro x c st' _ hx hI
  refine X4.el hI.2 fun out ia ib mg hM=>?_
  have S:=hI.1
  refine IV (KE (JV (I:=fun y c st''=>Same st st''/\X5 (fun out ia' ib'=>MI (kl key) a.toList b.toList out.toList ia' ib'/\ia'+1 < a.size/\ib' < b.size/\ia+ib+y<=ia'+ib') c)
   (Q:=fun c st''=>Same st st''/\(Xr (fun r=>Res (kl key) a.toList b.toList r.toList) c\/X5 (fun out ia' ib'=>MI (kl key) a.toList b.toList out.toList ia' ib'/\ia'+1 < a.size/\ib' < b.size/\ia+ib+1<=ia'+ib') c)) ?s1 ?f1 ⟨S,out,ia,ib,0,0,rfl,hM.1,hM.2.1,hM.2.2.1,by lia⟩) ?p1)
  case f1=>
   rintro c st2 ⟨S,out,ia',ib',ac,bc,rfl,M,h1,h2,h3⟩
   exact ⟨S,.inr ⟨out,ia',ib',ac,bc,rfl,M,h1,h2,by lia⟩⟩
  case s1=>
   intro y c st2 _ hy hJ
   refine X5.el hJ.2 fun out ia' ib' ac bc hM=>?_
   have S:=hJ.1
   have M:=hM.1
   have h1:=hM.2.1
   have h2:=hM.2.2.1
   have h3:=hM.2.2.2
   refine IV (aX h2 (IV (aX (show ia' < a.size by lia) (IV (m7 C (pb _ h2) (pa _ (by lia)) (S.1.trans hk) ?_)))))
   refine cw (c:=O.blt (key (at_ b ib')) (key (at_ a ia'))=true) (fun hc=>?_) fun hc=>?_
   ·refine IV (aX h2 ?_)
    have M1:=p1B M h2 fun y hy=>JK (J4 hc) (gC sA hy)
    refine cw (fun e=>Ja ⟨S,.inl ⟨_,_,rfl,dn M1 (.inr (by have z:ib'+1=b.size:=(by simpa using e);exact MJ z.symm))⟩⟩) fun e=>?_
    have e:¬(ib'+1=b.size):=by simpa using e
    exact cw (fun _=>Ja ⟨S,.inr ⟨_,_,_,_,_,rfl,M1,h1,by lia,by lia⟩⟩) fun _=>Ja ⟨S,_,_,_,_,_,rfl,M1,h1,by lia,by lia⟩
   ·have hc:O.blt (key (at_ b ib')) (key (at_ a ia'))=false:=by simpa using hc
    refine IV (aX (show ia' < a.size by lia) ?_)
    have M1:=p1A M (by lia) fun y hy=>JK (show kl key (at_ a ia') (at_ b ib') from hc) (gC sB hy)
    refine cw (fun e=>Ja ⟨S,.inl ⟨_,_,rfl,la M1 (by simpa using e)⟩⟩) fun e=>?_
    have e:¬(ia'+1+1=a.size):=by simpa using e
    exact cw (fun _=>Ja ⟨S,.inr ⟨_,_,_,_,_,rfl,M1,by lia,by lia,by lia⟩⟩) fun _=>Ja ⟨S,_,_,_,_,_,rfl,M1,by lia,by lia,by lia⟩
  case p1=>
   intro c st2 q
   refine Xr.el q.2 (fun r z R=>Ja ⟨q.1,_,_,rfl,R⟩) fun hX=>X5.el hX fun out ia' ib' ac bc hM=>?_
   have S:=q.1
   refine IV (Ob (La ⟨rfl,?_⟩))
   refine IV (KE (JV (I:=fun y c st''=>Same st st''/\X6 (fun out ia' ib'=>MI (kl key) a.toList b.toList out.toList ia' ib'/\ia'+1 < a.size/\ib' < b.size/\ia+ib+1<=ia'+ib') c)
    (Q:=fun c st''=>Same st st''/\(Xr (fun r=>Res (kl key) a.toList b.toList r.toList) c\/X6 (fun out ia' ib'=>MI (kl key) a.toList b.toList out.toList ia' ib'/\ia'+1 < a.size/\ib' < b.size/\ia+ib+1<=ia'+ib') c)) ?s2 ?f2 ⟨S,out,ia',ib',_,ac,bc,rfl,hM⟩) ?p2)
   case f2=>exact fun c st3 q=>⟨q.1,.inr q.2⟩
   case p2=>exact fun c st3 q=>Xr.el q.2 (fun r z R=>Ja ⟨q.1,_,_,rfl,R⟩) fun hX=>X6.el hX fun out ia' ib' mg ac bc hM=>IV (Ki (Ja ⟨q.1,_,_,_,_,rfl,hM.1,hM.2.1,hM.2.2.1,by have:=hM.2.2.2;lia⟩))
   case s2=>
    intro y c st3 _ hy hJ
    refine X6.el hJ.2 fun out ia' ib' mg ac bc hM=>?_
    have S:=hJ.1
    have M:=hM.1
    have h1:=hM.2.1
    have h2:=hM.2.2.1
    have h3:=hM.2.2.2
    revert mg
    refine A3 (c:=fun mg=>mg > 1) (fun mg next=>?_) fun mg'=>?_
    ·exact next _
    refine IV (Ki ?_)
    refine IV (aX h2 (IV (hZ C (S.1.trans hk) (show 0 < a.size-ia' by lia) (by lia) (fun i hi=>pa _ (by lia)) (pb _ h2) (qm sA (by lia)) fun k z1 z2 z3=>?_)))
    have gt:∀y∈a.toList.drop (ia'+k),kl key (at_ b ib') y:=fun y hy=>by
     obtain ⟨j,hj,rfl⟩:=m8 hy
     have:=uD (z3 (k+j) (by lia) (by lia))
     rw [<- Mg] at this
     exact J4 this
    dsimp -zeta only
    extract_lets +lift +onlyGivenNames u1 u2 jp u4 u5
    refine A4 (F:=jp) (c:=k > 0) (fun o i=>MI (kl key) a.toList b.toList o.toList i ib'/\i+1 < a.size/\ia'<=i/\∀y∈a.toList.drop i,kl key (at_ b ib') y) (fun hk0 next=>?_) (fun hk0=>⟨M,h1,IS _,by obtain rfl:k=0:=(by lia);exact gt⟩) fun out ia2 hC=>?_
    ·have M1:=pkA (k:=k) M fun i hi=>m9 (z2 i hi)
     refine cw (fun e=>Ja ⟨S,.inl ⟨_,_,rfl,la M1 (by simpa using e)⟩⟩) fun e=>?_
     refine cw (fun e'=>Ja ⟨S,.inl ⟨_,_,rfl,dn M1 (.inl (by have z:ia'+k=a.size:=(by simpa using e');exact MJ z.symm))⟩⟩) fun e'=>?_
     have e:¬(ia'+k+1=a.size):=by simpa using e
     have e':¬(ia'+k=a.size):=by simpa using e'
     exact next _ _ ⟨M1,by lia,by lia,gt⟩
    have i1:=hC.2.1
    have i2:=hC.2.2.1
    refine IV (aX h2 ?_)
    have M2:=p1B hC.1 h2 hC.2.2.2
    refine cw (fun e3=>Ja ⟨S,.inl ⟨_,_,rfl,dn M2 (.inr (by have z:ib'+1=b.size:=(by simpa using e3);exact MJ z.symm))⟩⟩) fun e3=>?_
    have e3:¬(ib'+1=b.size):=by simpa using e3
    refine IV (aX (show ia2 < a.size by lia) (IV (hZ C (S.1.trans hk) (show 0 < b.size-(ib'+1) by lia) (by lia) (fun i hi=>pb _ (by lia)) (pa _ (by lia)) (qp sB (by lia)) fun k2 y1 y2 y3=>?_)))
    have ge:∀y∈b.toList.drop (ib'+1+k2),kl key (at_ a ia2) y:=fun y hy=>by
     obtain ⟨j,hj,rfl⟩:=m8 hy
     have:=uE (y3 (k2+j) (by lia) (by lia))
     rw [<- Mg] at this
     exact this
    dsimp -zeta only
    extract_lets +lift +onlyGivenNames v1 jp2 v3 v4
    refine A4 (F:=jp2) (c:=k2 > 0) (fun o i=>MI (kl key) a.toList b.toList o.toList ia2 i/\i < b.size/\ib'+1<=i/\∀y∈b.toList.drop i,kl key (at_ a ia2) y) (fun hk2 next=>?_) (fun hk2=>⟨M2,by lia,IS _,by obtain rfl:k2=0:=(by lia);exact ge⟩) fun out ib2 hD=>?_
    ·have M3:=pkB (k:=k2) M2 fun i hi=>ng (y2 i hi)
     refine cw (fun e4=>Ja ⟨S,.inl ⟨_,_,rfl,dn M3 (.inr (by have z:ib'+1+k2=b.size:=(by simpa using e4);exact MJ z.symm))⟩⟩) fun e4=>?_
     have e4:¬(ib'+1+k2=b.size):=by simpa using e4
     exact next _ _ ⟨M3,by lia,by lia,ge⟩
    have j1:=hD.2.1
    have j2:=hD.2.2.1
    refine IV (aX (show ia2 < a.size by lia) ?_)
    have M4:=p1A hD.1 (by lia) hD.2.2.2
    refine cw (fun e5=>Ja ⟨S,.inl ⟨_,_,rfl,la M4 (by simpa using e5)⟩⟩) fun e5=>?_
    have e5:¬(ia2+1+1=a.size):=by simpa using e5
    exact cw (fun _=>Ja ⟨S,.inr ⟨_,_,_,_,_,_,rfl,M4,by lia,by lia,by lia⟩⟩) fun _=>Ja ⟨S,_,_,_,_,_,_,rfl,M4,by lia,by lia,by lia⟩
end
end Tim
end
section
namespace Tim
open PySem PyProof.Rows
def mhi:Array Jo->Array Jo->StateT KF Sem (Array Jo):=sortPriv% PySem.Builtin.mergeHi
theorem iP (a:Array Jo) (n:Nat):(a.extract 0 n).toList=a.toList.take n:=by
 have:=yQ a 0 n
 rw [L7,NJ] at this;exact this
theorem oJ (a:Array Jo) (i n:Nat) (h:i<=n):(a.extract i n).toList=(a.toList.take n).drop i:=by
 have:=yQ a i (n-i)
 rw [show i+(n-i)=n by lia] at this
 rw [this,List.drop_take]
theorem jz {a:Array Jo} {i n:Nat} {x:Jo} (h:x∈(a.toList.take n).drop i):∃j,i<=j/\j < n/\j < a.size/\x=at_ a j:=by
 rw [List.drop_take] at h
 obtain ⟨j,h1,h2,h3⟩:=lN h
 exact ⟨i+j,by lia,by lia,h2,h3⟩
theorem kI {a:Array Jo} {n:Nat} {x:Jo} (h:x∈a.toList.take n):∃j,j < n/\j < a.size/\x=at_ a j:=by
 obtain ⟨j,_,h2,h3,h4⟩:=jz (i:=0) (by rw [NJ];exact h)
 exact ⟨j,h2,h3,h4⟩
section
variable {prog:Jp} {w:JQ} {A:JY} {E:IP->IM->Prop} {s:IM} {κ:MC} {O:NX} {key:Jo->O.α} {P:Jo->Prop}
def Y4 (P:Nat->Nat->Array Jo->Nat->Prop) (c:Option (Array Jo)×Nat×Nat×Array Jo×Nat):Prop:=∃i j o m,c=(none,i,j,o,m)/\P i j o m
def Y5 (P:Nat->Nat->Array Jo->Prop) (c:Option (Array Jo)×Nat×Nat×Array Jo×Nat×Nat):Prop:=∃i j o m n,c=(none,i,j,o,m,n)/\P i j o
def Y6 (P:Nat->Nat->Array Jo->Prop) (c:Option (Array Jo)×Nat×Nat×Array Jo×Nat×Nat×Nat):Prop:=∃i j o m n k,c=(none,i,j,o,m,n,k)/\P i j o
@[elab_as_elim] theorem Y4.el {P:Nat->Nat->Array Jo->Nat->Prop} {c:Option (Array Jo)×Nat×Nat×Array Jo×Nat} {C:Option (Array Jo)×Nat×Nat×Array Jo×Nat->Prop} (h:Y4 P c) (f:∀i j o m,P i j o m->C (none,i,j,o,m)):C c:=by
 obtain ⟨o,i,j,m,rfl,p⟩:=h;exact f _ _ _ _ p
@[elab_as_elim] theorem Y5.el {P:Nat->Nat->Array Jo->Prop} {c:Option (Array Jo)×Nat×Nat×Array Jo×Nat×Nat} {C:Option (Array Jo)×Nat×Nat×Array Jo×Nat×Nat->Prop} (h:Y5 P c) (f:∀i j o m n,P i j o->C (none,i,j,o,m,n)):C c:=by
 obtain ⟨o,i,j,m,n,rfl,p⟩:=h;exact f _ _ _ _ _ p
@[elab_as_elim] theorem Y6.el {P:Nat->Nat->Array Jo->Prop} {c:Option (Array Jo)×Nat×Nat×Array Jo×Nat×Nat×Nat} {C:Option (Array Jo)×Nat×Nat×Array Jo×Nat×Nat×Nat->Prop} (h:Y6 P c) (f:∀i j o m n k,P i j o->C (none,i,j,o,m,n,k)):C c:=by
 obtain ⟨o,i,j,m,n,k,rfl,p⟩:=h;exact f _ _ _ _ _ _ p
theorem A5 {U α:Type} {M:QB} {c:Prop} [Decidable c] {T:StateT U Sem α} {F:PUnit->Nat->Array Jo->StateT U Sem α} {o:Array Jo} {i:Nat} {Q:α->U->Prop} {st:U} (Cond:Nat->Array Jo->Prop) (h1:c->(∀i o,Cond i o->wpS M A E s (F ⟨⟩ i o) Q st)->wpS M A E s T Q st) (h2:¬c->Cond i o) (key:∀i o,Cond i o->wpS M A E s (F ⟨⟩ i o) Q st):wpS M A E s (if c then T else F ⟨⟩ i o) Q st:=cw (fun h=>h1 h key) fun h=>key _ _ (h2 h)
theorem DI (C:hW prog w A s κ O key P) {a b:Array Jo} {st:KF} {Q:Array Jo->KF->Prop} (hk:kindOf st=κ) (ha:0 < a.size) (hb:0 < b.size) (Pa:∀x∈a.toList,P x) (Pb:∀x∈b.toList,P x)
  (sA:a.toList.Pairwise (kl key)) (sB:b.toList.Pairwise (kl key)) (h0:∀y∈a.toList,kl key (at_ b 0) y) (hl:∀x∈b.toList,kl key x (at_ a (a.size-1)))
  (h:∀r st',Same st st'->Res (kl key) a.toList b.toList r.toList->Q r st'):wpS (JD prog w) A E s (mhi a b) Q st:=by
 have pa:∀i,i < a.size->P (at_ a i):=fun i hi=>Pa _ (eK hi)
 have pb:∀i,i < b.size->P (at_ b i):=fun i hi=>Pb _ (eK hi)
 have M0:MH (kl key) a.toList b.toList (#[at_ a (a.size-1)]:Array Jo).reverse.toList (a.size-1) b.size:=by
  have eR:(#[at_ a (a.size-1)]:Array Jo).reverse.toList=[at_ a (a.size-1)]:=rfl
  rw [eR]
  refine ⟨?_,List.pairwise_singleton _ _,?_,?_⟩
  ·have e:=dw (l:=a.toList) (i:=a.size-1) (JR,JR) (by simp;lia)
   rw [getD_at (by lia),show a.size-1+1=a.size by lia,show a.toList.take a.size=a.toList from Ml (by simp)] at e
   rw [e,KG (by simp)]
   exact O4 _
  ·intro x hx y hy
   obtain ⟨j,h1,h2,rfl⟩:=kI hx
   rw [KP] at hy;subst hy
   exact eM sA (by lia) (by lia)
  ·intro x hx y hy
   rw [KP] at hy;subst hy
   exact hl x (LU hx)
 have dn:∀{out:Array Jo} {na nb:Nat},MH (kl key) a.toList b.toList out.reverse.toList na nb->(na=0\/nb=0)->Res (kl key) a.toList b.toList (a.extract 0 na++b.extract 0 nb++out.reverse).toList:=fun M hh=>by
  rw [JT,JT,iP,iP]
  exact M.done sA sB (hh.imp (fun z=>by rw [z];rfl) fun z=>by rw [z];rfl)
 have fi:∀{out:Array Jo} {na nb:Nat},MH (kl key) a.toList b.toList out.reverse.toList na nb->nb=1->Res (kl key) a.toList b.toList (b.extract 0 nb++a.extract 0 na++out.reverse).toList:=fun {out na nb} M hh=>by
  rw [JT,JT,iP,iP]
  refine M.first sA sB fun x hx y hy=>?_
  obtain ⟨j,h1,h2,rfl⟩:=kI hx
  rw [show j=0 by lia]
  exact h0 y hy
 have pkA:∀{out:Array Jo} {na nb k:Nat},MH (kl key) a.toList b.toList out.reverse.toList na nb->k<=na->(∀x∈b.toList.take nb,∀j,k<=j->j < na->kl key x (at_ a j))->MH (kl key) a.toList b.toList (out++(a.extract k na).reverse).reverse.toList k nb:=fun {out na nb k} M hi q=>by
  have e:(out++(a.extract k na).reverse).reverse.toList=(a.toList.take na).drop k++out.reverse.toList:=by
   rw [OT,OH,JT,oJ a k na hi]
  rw [e]
  refine M.pushA sA hi fun x hx y hy=>?_
  obtain ⟨j,h1,h2,_,rfl⟩:=jz hy
  exact q x hx j h1 h2
 have pkB:∀{out:Array Jo} {na nb k:Nat},MH (kl key) a.toList b.toList out.reverse.toList na nb->k<=nb->(∀x∈a.toList.take na,∀j,k<=j->j < nb->kl key x (at_ b j))->MH (kl key) a.toList b.toList (out++(b.extract k nb).reverse).reverse.toList na k:=fun {out na nb k} M hi q=>by
  have e:(out++(b.extract k nb).reverse).reverse.toList=(b.toList.take nb).drop k++out.reverse.toList:=by
   rw [OT,OH,JT,oJ b k nb hi]
  rw [e]
  refine M.pushB sB hi fun x hx y hy=>?_
  obtain ⟨j,h1,h2,_,rfl⟩:=jz hy
  exact q x hx j h1 h2
 have p1A:∀{out:Array Jo} {na nb:Nat},MH (kl key) a.toList b.toList out.reverse.toList na nb->0 < na->na<=a.size->(∀x∈b.toList.take nb,kl key x (at_ a (na-1)))->MH (kl key) a.toList b.toList (out.push (at_ a (na-1))).reverse.toList (na-1) nb:=fun {out na nb} M h1 h2 q=>by
  have e:(out.push (at_ a (na-1))).reverse.toList=(a.toList.take na).drop (na-1)++out.reverse.toList:=by
   have z:=dw (l:=a.toList) (i:=na-1) (JR,JR) (by simp;lia)
   rw [show na-1+1=na by lia,getD_at (by lia)] at z
   rw [z];simp
  rw [e]
  refine M.pushA sA (by lia) fun x hx y hy=>?_
  obtain ⟨j,g1,g2,_,rfl⟩:=jz hy
  rw [show j=na-1 by lia]
  exact q x hx
 have p1B:∀{out:Array Jo} {na nb:Nat},MH (kl key) a.toList b.toList out.reverse.toList na nb->0 < nb->nb<=b.size->(∀x∈a.toList.take na,kl key x (at_ b (nb-1)))->MH (kl key) a.toList b.toList (out.push (at_ b (nb-1))).reverse.toList na (nb-1):=fun {out na nb} M h1 h2 q=>by
  have e:(out.push (at_ b (nb-1))).reverse.toList=(b.toList.take nb).drop (nb-1)++out.reverse.toList:=by
   have z:=dw (l:=b.toList) (i:=nb-1) (JR,JR) (by simp;lia)
   rw [show nb-1+1=nb by lia,getD_at (by lia)] at z
   rw [z];simp
  rw [e]
  refine M.pushB sB (by lia) fun x hx y hy=>?_
  obtain ⟨j,g1,g2,_,rfl⟩:=jz hy
  rw [show j=nb-1 by lia]
  exact q x hx
 have tA:∀{n:Nat} {x:Jo},n<=a.size->x∈a.toList.take n->kl key x (at_ a (n-1)):=fun {n x} hn hx=>by
  obtain ⟨j,h1,h2,rfl⟩:=kI hx
  exact eM sA (by lia) (by lia)
 have tB:∀{n:Nat} {x:Jo},n<=b.size->x∈b.toList.take n->kl key x (at_ b (n-1)):=fun {n x} hn hx=>by
  obtain ⟨j,h1,h2,rfl⟩:=kI hx
  exact eM sB (by lia) (by lia)
 delta mhi
 refine IV (Ob (La ⟨rfl,?_⟩))
 refine IV (aX (show a.size-1 < a.size by lia) ?_)
 refine cw (fun e1=>Ja (h _ _ Same.rfl' (dn M0 (.inl (by simpa using e1))))) fun e1=>?_
 refine cw (fun e2=>Ja (h _ _ Same.rfl' (fi M0 (by simpa using e2)))) fun e2=>?_
 have e1:¬(a.size-1=0):=by simpa using e1
 have e2:¬(b.size=1):=by simpa using e2
 refine IV (MP ?_)
 refine IV (KE (JV (I:=fun x c st'=>Same st st'/\Y4 (fun na' nb' out _=>(MH (kl key) a.toList b.toList out.reverse.toList na' nb'/\0 < na'/\na'<=a.size/\1 < nb'/\nb'<=b.size)/\na'+nb'+x+1<=a.size+b.size) c)
  (Q:=fun c st'=>Same st st'/\Xr (fun r=>Res (kl key) a.toList b.toList r.toList) c) ?step ?fin ⟨Same.rfl',_,_,_,_,rfl,⟨M0,by lia,by lia,by lia,by lia⟩,by lia⟩) ?post)
 case post=>exact fun c st' q=>Xr.el (P:=False) (.inl q.2) (fun r z R=>Ja (h r st' q.1 R)) fun f=>f.elim
 case fin=>
  rintro c st' ⟨S,na,nb,out,mg,rfl,⟨M,h1,h2,h3,h4⟩,h5⟩
  lia
 case step=>
  intro x c st' _ hx hI
  refine Y4.el hI.2 fun na nb out mg hM=>?_
  have S:=hI.1
  refine IV (KE (JV (I:=fun y c st''=>Same st st''/\Y5 (fun na' nb' out=>(MH (kl key) a.toList b.toList out.reverse.toList na' nb'/\0 < na'/\na'<=a.size/\1 < nb'/\nb'<=b.size)/\na'+nb'+y<=na+nb) c)
   (Q:=fun c st''=>Same st st''/\(Xr (fun r=>Res (kl key) a.toList b.toList r.toList) c\/Y5 (fun na' nb' out=>(MH (kl key) a.toList b.toList out.reverse.toList na' nb'/\0 < na'/\na'<=a.size/\1 < nb'/\nb'<=b.size)/\na'+nb'+1<=na+nb) c)) ?s1 ?f1 ⟨S,na,nb,out,0,0,rfl,hM.1,by lia⟩) ?p1)
  case f1=>
   rintro c st2 ⟨S,na',nb',out,ac,bc,rfl,⟨M,h1,h1',h2,h2'⟩,h3⟩
   exact ⟨S,.inr ⟨na',nb',out,ac,bc,rfl,⟨M,h1,h1',h2,h2'⟩,by lia⟩⟩
  case s1=>
   intro y c st2 _ hy hJ
   refine Y5.el hJ.2 fun na' nb' out ac bc hM=>?_
   have S:=hJ.1
   have M:=hM.1.1
   have h1:=hM.1.2.1
   have h1':=hM.1.2.2.1
   have h2:=hM.1.2.2.2.1
   have h2':=hM.1.2.2.2.2
   have h3:=hM.2
   refine IV (aX (show nb'-1 < b.size by lia) (IV (aX (show na'-1 < a.size by lia) (IV (m7 C (pb _ (by lia)) (pa _ (by lia)) (S.1.trans hk) ?_)))))
   refine cw (c:=O.blt (key (at_ b (nb'-1))) (key (at_ a (na'-1)))=true) (fun hc=>?_) fun hc=>?_
   ·refine IV (aX (show na'-1 < a.size by lia) ?_)
    have M1:=p1A M h1 h1' fun x hx=>JK (tB h2' hx) (J4 hc)
    refine cw (fun e=>Ja ⟨S,.inl ⟨_,_,rfl,dn M1 (.inl (by simpa using e))⟩⟩) fun e=>?_
    have e:¬(na'-1=0):=by simpa using e
    exact cw (fun _=>Ja ⟨S,.inr ⟨_,_,_,_,_,rfl,⟨M1,by lia,by lia,by lia,by lia⟩,by lia⟩⟩) fun _=>Ja ⟨S,_,_,_,_,_,rfl,⟨M1,by lia,by lia,by lia,by lia⟩,by lia⟩
   ·have hc:O.blt (key (at_ b (nb'-1))) (key (at_ a (na'-1)))=false:=by simpa using hc
    refine IV (aX (show nb'-1 < b.size by lia) ?_)
    have M1:=p1B M (by lia) h2' fun x hx=>JK (tA h1' hx) (show kl key (at_ a (na'-1)) (at_ b (nb'-1)) from hc)
    refine cw (fun e=>Ja ⟨S,.inl ⟨_,_,rfl,fi M1 (by simpa using e)⟩⟩) fun e=>?_
    have e:¬(nb'-1=1):=by simpa using e
    exact cw (fun _=>Ja ⟨S,.inr ⟨_,_,_,_,_,rfl,⟨M1,by lia,by lia,by lia,by lia⟩,by lia⟩⟩) fun _=>Ja ⟨S,_,_,_,_,_,rfl,⟨M1,by lia,by lia,by lia,by lia⟩,by lia⟩
  case p1=>
   intro c st2 q
   refine Xr.el q.2 (fun r z R=>Ja ⟨q.1,_,_,rfl,R⟩) fun hX=>Y5.el hX fun na' nb' out ac bc hM=>?_
   have S:=q.1
   refine IV (Ob (La ⟨rfl,?_⟩))
   refine IV (KE (JV (I:=fun y c st''=>Same st st''/\Y6 (fun na' nb' out=>(MH (kl key) a.toList b.toList out.reverse.toList na' nb'/\0 < na'/\na'<=a.size/\1 < nb'/\nb'<=b.size)/\na'+nb'+1<=na+nb) c)
    (Q:=fun c st''=>Same st st''/\(Xr (fun r=>Res (kl key) a.toList b.toList r.toList) c\/Y6 (fun na' nb' out=>(MH (kl key) a.toList b.toList out.reverse.toList na' nb'/\0 < na'/\na'<=a.size/\1 < nb'/\nb'<=b.size)/\na'+nb'+1<=na+nb) c)) ?s2 ?f2 ⟨S,na',nb',out,_,ac,bc,rfl,hM⟩) ?p2)
   case f2=>exact fun c st3 q=>⟨q.1,.inr q.2⟩
   case p2=>exact fun c st3 q=>Xr.el q.2 (fun r z R=>Ja ⟨q.1,_,_,rfl,R⟩) fun hX=>Y6.el hX fun na' nb' out mg ac bc hM=>IV (Ki (Ja ⟨q.1,_,_,_,_,rfl,hM.1,by have:=hM.2;lia⟩))
   case s2=>
    intro y c st3 _ hy hJ
    refine Y6.el hJ.2 fun na' nb' out mg ac bc hM=>?_
    have S:=hJ.1
    have M:=hM.1.1
    have h1:=hM.1.2.1
    have h1':=hM.1.2.2.1
    have h2:=hM.1.2.2.2.1
    have h2':=hM.1.2.2.2.2
    have h3:=hM.2
    revert mg
    refine A3 (c:=fun mg=>mg > 1) (fun mg next=>?_) fun mg'=>?_
    ·exact next _
    refine IV (Ki ?_)
    refine IV (aX (show nb'-1 < b.size by lia) (IV (hZ C (S.1.trans hk) (show na'-1 < na' by lia) (by lia) (fun i hi=>pa _ (by lia)) (pb _ (by lia)) (qm sA (by lia)) fun k z1 z2 z3=>?_)))
    simp only [L7] at z2 z3
    dsimp -zeta only
    extract_lets +lift +onlyGivenNames u1 u2 u3 w1 w2 jp
    have le1:∀x∈a.toList.take k,kl key x (at_ b (nb'-1)):=fun x hx=>by
     obtain ⟨j,g1,g2,rfl⟩:=kI hx
     exact m9 (z2 j g1)
    have z1:k<=na':=z1
    have M1:=pkA (k:=k) M z1 fun x hx j g1 g2=>JK (tB h2' hx) (J4 (uD (z3 j g1 g2)))
    refine A5 (F:=jp) (c:=u1 > 0) (fun i o=>MH (kl key) a.toList b.toList o.reverse.toList i nb'/\0 < i/\i<=na'/\∀x∈a.toList.take i,kl key x (at_ b (nb'-1))) (fun hk0 next=>?_) (fun hk0=>?_) fun na2 out2 hC=>?_
    ·refine cw (fun e=>Ja ⟨S,.inl ⟨_,_,rfl,dn M1 (.inl (beq_iff_eq.mp e))⟩⟩) fun e=>?_
     have e:¬(k=0):=fun z=>e (beq_iff_eq.mpr z)
     exact next _ _ ⟨M1,by lia,z1,le1⟩
    ·have hk0:¬(na'-k > 0):=hk0
     obtain rfl:k=na':=by lia
     exact ⟨M,h1,IS _,le1⟩
    have i1:=hC.2.1
    have i2:=hC.2.2.1
    refine IV (aX (show nb'-1 < b.size by lia) ?_)
    have M2:=p1B hC.1 (by lia) h2' hC.2.2.2
    refine cw (fun e3=>Ja ⟨S,.inl ⟨_,_,rfl,fi M2 (beq_iff_eq.mp e3)⟩⟩) fun e3=>?_
    have e3:¬(nb'-1=1):=fun z=>e3 (beq_iff_eq.mpr z)
    refine IV (aX (show na2-1 < a.size by lia) (IV (hZ C (S.1.trans hk) (show nb'-1-1 < nb'-1 by lia) (by lia) (fun i hi=>pb _ (by lia)) (pa _ (by lia)) (qp sB (by lia)) fun k2 y1 y2 y3=>?_)))
    simp only [L7] at y2 y3
    have lt2:∀x∈b.toList.take k2,kl key x (at_ a (na2-1)):=fun x hx=>by
     obtain ⟨j,g1,g2,rfl⟩:=kI hx
     exact J4 (ng (y2 j g1))
    have y1:k2<=nb'-1:=y1
    have M3:=pkB (k:=k2) M2 y1 fun x hx j g1 g2=>JK (tA (by lia) hx) (uE (y3 j g1 g2))
    dsimp -zeta only
    extract_lets +lift +onlyGivenNames v1 v2 jp2
    refine A5 (F:=jp2) (c:=v1 > 0) (fun i o=>MH (kl key) a.toList b.toList o.reverse.toList na2 i/\1 < i/\i<=nb'-1/\∀x∈b.toList.take i,kl key x (at_ a (na2-1))) (fun hk0 next=>?_) (fun hk0=>?_) fun nb2 out3 hD=>?_
    ·refine cw (fun e=>Ja ⟨S,.inl ⟨_,_,rfl,fi M3 (beq_iff_eq.mp e)⟩⟩) fun e=>?_
     refine cw (fun e'=>Ja ⟨S,.inl ⟨_,_,rfl,dn M3 (.inr (beq_iff_eq.mp e'))⟩⟩) fun e'=>?_
     have e:¬(k2=1):=fun z=>e (beq_iff_eq.mpr z)
     have e':¬(k2=0):=fun z=>e' (beq_iff_eq.mpr z)
     exact next _ _ ⟨M3,by lia,y1,lt2⟩
    ·have hk0:¬(nb'-1-k2 > 0):=hk0
     have hz:k2=nb'-1:=by lia
     rw [hz] at lt2
     exact ⟨M2,by lia,IS _,lt2⟩
    have j1:=hD.2.1
    have j2:=hD.2.2.1
    refine IV (aX (show na2-1 < a.size by lia) ?_)
    have M4:=p1A hD.1 i1 (by lia) hD.2.2.2
    refine cw (fun e5=>Ja ⟨S,.inl ⟨_,_,rfl,dn M4 (.inl (beq_iff_eq.mp e5))⟩⟩) fun e5=>?_
    have e5:¬(na2-1=0):=fun z=>e5 (beq_iff_eq.mpr z)
    exact cw (fun _=>Ja ⟨S,.inr ⟨_,_,_,_,_,_,rfl,⟨M4,by lia,by lia,by lia,by lia⟩,by lia⟩⟩) fun _=>Ja ⟨S,_,_,_,_,_,_,rfl,⟨M4,by lia,by lia,by lia,by lia⟩,by lia⟩
end
end Tim
end
section
namespace Tim
open PySem PyProof.Rows
section
variable {prog:Jp} {w:JQ} {A:JY} {E:IP->IM->Prop} {s:IM} {κ:MC} {O:NX} {key:Jo->O.α} {P:Jo->Prop}
def Sg {O:NX} (key:Jo->O.α) (a:Array Jo) (lo hi:Nat):Prop:=∀i j,lo<=i->i<=j->j < hi->kl key (at_ a i) (at_ a j)
def Fl {O:NX} (key:Jo->O.α) (a:Array Jo) (lo hi:Nat):Prop:=∀i j,lo<=i->i<=j->j < hi->kl key (at_ a j) (at_ a i)
structure Mv (lo:Nat) (st st':KF):Prop where
 kind:kindOf st'=kindOf st
 pend:Jv st'=Jv st
 fail:LC st'=LC st
 perm:(IY st').Perm (IY st)
 pre:∀i,i < lo->(IY st')[i]?=(IY st)[i]?
theorem Mv.rfl' {lo:Nat} {st:KF}:Mv lo st st:=⟨rfl,rfl,rfl,Nh _,fun _ _=>rfl⟩
theorem Mv.size {lo:Nat} {st st':KF} (h:Mv lo st st'):(IY st').size=(IY st).size:=h.perm.size_eq
theorem Mv.all {lo:Nat} {st st':KF} (h:Mv lo st st') (hP:∀x∈(IY st).toList,P x):∀x∈(IY st').toList,P x:=fun x hx=>hP x ((Array.perm_iff_toList_perm.mp h.perm).mem_iff.mp hx)
theorem bS {xs:Array Jo} {i j:Nat} (hj:j<=xs.size) (k:Nat):at_ (Ly xs i j ((j-i) / 2)) k=if i<=k/\k < j then at_ xs (i+j-1-k) else at_ xs k:=by
 have z:=Pd (i:=i) hj k
 by_cases c:i<=k/\k < j
 ·rw [if_pos c] at z ⊢;exact bh z
 ·rw [if_neg c] at z ⊢;exact bh z
theorem cV {xs:Array Jo} {i j:Nat} (hj:j<=xs.size) (he:∀k,i<=k->k < j->key (at_ xs k)=key (at_ xs (j-1))) (k:Nat):key (at_ (Ly xs i j ((j-i) / 2)) k)=key (at_ xs k):=by
 rw [bS hj]
 split
 ·rename_i c;rw [he _ (by lia) (by lia),he k c.1 c.2]
 ·rfl
theorem Mv.rev {lo:Nat} {st st':KF} (h:Mv lo st st') {i j:Nat} (hi:lo<=i) (hj:j<=(IY st').size):Mv lo st (Nw st' (Ly (IY st') i j ((j-i) / 2))):=
 ⟨h.kind,h.pend,h.fail,(mirror_perm _ _ _ _).trans h.perm,fun k hk=>by
  rw [<- h.pre k hk]
  show (Ly (IY st') i j ((j-i) / 2))[k]?=_
  rw [Pd hj,if_neg (by lia)]⟩
theorem cy (C:hW prog w A s κ O key P) {st:KF} {i j:Nat} {Q:Option Bool->KF->Prop} (hk:kindOf st=κ) (hP:∀x∈(IY st).toList,P x) (hi:i < (IY st).size) (hj:j < (IY st).size)
  (h:Q (some (O.blt (key (at_ (IY st) i)) (key (at_ (IY st) j)))) st):wpS (JD prog w) A E s (ltAt' i j) Q st:=by
 rw [ltAt'_eq]
 refine IV (MP (IV (aX hi (IV (aX hj (m7 C (hP _ (eK hi)) (hP _ (eK hj)) hk h))))))
theorem Sg.one {a:Array Jo} {lo:Nat}:Sg key a lo (lo+1):=fun i j h1 h2 h3=>by
 rw [show i=j by lia];exact Ln _
theorem Sg.more {a:Array Jo} {lo n:Nat} (h:Sg key a lo (lo+n)) (h1:1<=n) (q:kl key (at_ a (lo+n-1)) (at_ a (lo+n))):Sg key a lo (lo+(n+1)):=fun i j z1 z2 z3=>by
 by_cases hj:j=lo+n
 ·subst hj
  by_cases hi:i=lo+n
  ·subst hi;exact Ln _
  ·exact JK (h i (lo+n-1) z1 (by lia) (by lia)) q
 ·exact h i j z1 z2 (by lia)
theorem Fl.more {a:Array Jo} {lo n:Nat} (h:Fl key a lo (lo+n)) (h1:1<=n) (q:kl key (at_ a (lo+n)) (at_ a (lo+n-1))):Fl key a lo (lo+(n+1)):=fun i j z1 z2 z3=>by
 by_cases hj:j=lo+n
 ·subst hj
  by_cases hi:i=lo+n
  ·subst hi;exact Ln _
  ·exact JK q (h i (lo+n-1) z1 (by lia) (by lia))
 ·exact h i j z1 z2 (by lia)
theorem Fl.congr {a b:Array Jo} {lo hi:Nat} (h:Fl key a lo hi) (e:∀k,key (at_ b k)=key (at_ a k)):Fl key b lo hi:=fun i j z1 z2 z3=>by
 show O.kle _ _
 rw [e,e];exact h i j z1 z2 z3
theorem DJ (C:hW prog w A s κ O key P) {st:KF} {lo nrem:Nat} {Q:Option Nat->KF->Prop} (hk:kindOf st=κ) (hP:∀x∈(IY st).toList,P x) (hz:lo+nrem<=(IY st).size) (h1:1<=nrem)
  (h:∀n st',Mv lo st st'->1<=n->n<=nrem->Sg key (IY st') lo (lo+n)->Q (some n) st'):wpS (JD prog w) A E s (countRun' lo nrem) Q st:=by
 rw [countRun'_eq]
 refine IV (KE (JV (I:=fun k c st'=>st'=st/\c=(none,k)/\k<=nrem/\1<=k/\Sg key (IY st) lo (lo+k))
  (Q:=fun c st'=>st'=st/\∃n,c=(none,n)/\1<=n/\n<=nrem/\Sg key (IY st) lo (lo+n)/\(n < nrem->O.klt (key (at_ (IY st) (lo+n))) (key (at_ (IY st) (lo+n-1))))) ?step ?fin ⟨rfl,rfl,h1,by lia,Sg.one⟩) ?post)
 case fin=>
  rintro c st' ⟨rfl,rfl,a1,a2,a3⟩
  exact ⟨rfl,_,rfl,by lia,by lia,a3,fun z=>by lia⟩
 case step=>
  rintro k c st' _ hkn ⟨rfl,rfl,a1,a2,a3⟩
  dsimp only
  refine IV (cy C hk hP (by lia) (by lia) ?_)
  dsimp only
  cases hc:O.blt (key (at_ (IY st') (lo+k))) (key (at_ (IY st') (lo+k-1))) with
  | true=>rw [if_pos rfl];exact Ja ⟨rfl,k,rfl,a2,a1,a3,fun _=>hc⟩
  | false=>rw [if_neg (by simp)];exact Ja ⟨rfl,rfl,by lia,by lia,a3.more a2 hc⟩
 case post=>
  rintro c st' ⟨rfl,n,rfl,n1,n2,n3,n4⟩
  dsimp only
  by_cases e:n=nrem
  ·rw [if_pos (by simpa using e)]
   exact Ja (h n st' Mv.rfl' n1 n2 n3)
  rw [if_neg (by simpa using e)]
  have n4:=n4 (by lia)
  by_cases hn:n > 1
  ·rw [if_pos hn]
   refine IV (cy C hk hP (by lia) (by lia) ?_)
   dsimp only
   cases hc:O.blt (key (at_ (IY st') lo)) (key (at_ (IY st') (lo+n-1))) with
   | true=>rw [if_pos rfl];exact Ja (h n st' Mv.rfl' n1 n2 n3)
   | false=>
    rw [if_neg (by simp),KD]
    have eq:∀k,lo<=k->k < lo+n->key (at_ (IY st') k)=key (at_ (IY st') (lo+n-1)):=fun k k1 k2=>
     KeyOrd.kle_antisymm (n3 k (lo+n-1) k1 (by lia) (by lia)) (JK hc (n3 lo k (by lia) k1 (by lia)))
    have ek:=cV (key:=key) (xs:=IY st') (i:=lo) (j:=lo+n) (by lia) eq
    refine IV (Ki ?_)
    have M1:=(Mv.rfl' (lo:=lo) (st:=st')).rev (i:=lo) (j:=lo+n) (IS _) (by lia)
    have F1:Fl key (IY (Nw st' (Ly (IY st') lo (lo+n) ((lo+n-lo) / 2)))) lo (lo+(n+1)):=by
     refine Fl.congr (a:=IY st') (Fl.more (fun i j z1 z2 z3=>?_) n1 (J4 n4)) ek
     show O.kle _ _
     rw [eq i z1 (by lia),eq j (by lia) z3];exact Ln _
    generalize Nw st' (Ly (IY st') lo (lo+n) ((lo+n-lo) / 2))=st1 at M1 F1 ⊢
    refine IV (Ob (La ⟨rfl,?_⟩))
    refine IV (KE (JV (I:=fun k c st2=>Mv lo st' st2/\∃q,c=(none,k,q)/\k<=nrem/\q+1<=k/\Fl key (IY st2) lo (lo+k)/\(∀i,lo+k-(q+1)<=i->i < lo+k->key (at_ (IY st2) i)=key (at_ (IY st2) (lo+k-1))))
     (Q:=fun c st2=>Mv lo st' st2/\∃k q,c=(none,k,q)/\k<=nrem/\q+1<=k/\Fl key (IY st2) lo (lo+k)/\(∀i,lo+k-(q+1)<=i->i < lo+k->key (at_ (IY st2) i)=key (at_ (IY st2) (lo+k-1)))) ?dstep ?dfin ⟨M1,0,rfl,by lia,by lia,F1,fun i g1 g2=>by rw [show i=lo+(n+1)-1 by lia]⟩) ?dpost)
    case dfin=>
     rintro c st2 ⟨M2,q,rfl,a1,a2,a3,a4⟩
     exact ⟨M2,_,q,rfl,a1,a2,a3,a4⟩
    case dstep=>
     rintro k c st2 hk1 hkn ⟨M2,q,rfl,a1,a2,a3,a4⟩
     have hz2:lo+nrem<=(IY st2).size:=by rw [M2.size];exact hz
     have hk2:kindOf st2=κ:=M2.kind.trans hk
     have hP2:=M2.all hP
     dsimp only
     refine IV (cy C hk2 hP2 (by lia) (by lia) ?_)
     dsimp only
     cases hc:O.blt (key (at_ (IY st2) (lo+k))) (key (at_ (IY st2) (lo+k-1))) with
     | true=>
      rw [if_pos rfl]
      have F2:=a3.more (by lia) (J4 hc)
      by_cases hq:q > 0
      ·rw [if_pos hq,KD]
       have ek:=cV (key:=key) (xs:=IY st2) (i:=lo+k-(q+1)) (j:=lo+k) (by lia) a4
       refine IV (Ki (Ja ⟨M2.rev (by lia) (by lia),0,rfl,by lia,by lia,F2.congr ek,fun i g1 g2=>?_⟩))
       rw [show i=lo+(k+1)-1 by lia]
      ·rw [if_neg hq]
       exact Ja ⟨M2,0,rfl,by lia,by lia,F2,fun i g1 g2=>by rw [show i=lo+(k+1)-1 by lia]⟩
     | false=>
      rw [if_neg (by simp)]
      refine IV (cy C hk2 hP2 (by lia) (by lia) ?_)
      dsimp only
      cases hd:O.blt (key (at_ (IY st2) (lo+k-1))) (key (at_ (IY st2) (lo+k))) with
      | true=>rw [if_pos rfl];exact Ja ⟨M2,k,q,rfl,a1,a2,a3,a4⟩
      | false=>
       rw [if_neg (by simp)]
       have eq1:key (at_ (IY st2) (lo+k))=key (at_ (IY st2) (lo+k-1)):=O.total _ _ hc hd
       refine Ja ⟨M2,q+1,rfl,by lia,by lia,a3.more (by lia) hd,fun i g1 g2=>?_⟩
       rw [show lo+(k+1)-1=lo+k by lia]
       by_cases hi:i=lo+k
       ·rw [hi]
       ·rw [eq1];exact a4 i (by lia) (by lia)
    case dpost=>
     rintro c st2 ⟨M2,k,q,rfl,a1,a2,a3,a4⟩
     have hz2:lo+nrem<=(IY st2).size:=by rw [M2.size];exact hz
     dsimp only
     by_cases hq:q > 0
     ·rw [if_pos hq,KD]
      have ek:=cV (key:=key) (xs:=IY st2) (i:=lo+k-(q+1)) (j:=lo+k) (by lia) a4
      refine IV (Ki ?_)
      have M3:=M2.rev (i:=lo+k-(q+1)) (j:=lo+k) (by lia) (by lia)
      have F3:Fl key (IY (Nw st2 (Ly (IY st2) (lo+k-(q+1)) (lo+k) ((lo+k-(lo+k-(q+1))) / 2)))) lo (lo+k):=a3.congr ek
      generalize Nw st2 (Ly (IY st2) (lo+k-(q+1)) (lo+k) ((lo+k-(lo+k-(q+1))) / 2))=st3 at M3 F3 ⊢
      have hz3:lo+nrem<=(IY st3).size:=by rw [M3.size];exact hz
      rw [KD]
      refine IV (Ki ?_)
      have M4:=M3.rev (i:=lo) (j:=lo+k) (IS _) (by lia)
      have S4:Sg key (IY (Nw st3 (Ly (IY st3) lo (lo+k) ((lo+k-lo) / 2)))) lo (lo+k):=fun i j g1 g2 g3=>by
       show kl key (at_ (Ly (IY st3) lo (lo+k) ((lo+k-lo) / 2)) i) (at_ (Ly (IY st3) lo (lo+k) ((lo+k-lo) / 2)) j)
       rw [bS (by lia),bS (by lia),if_pos ⟨g1,by lia⟩,if_pos ⟨by lia,g3⟩]
       exact F3 _ _ (by lia) (by lia) (by lia)
      generalize Nw st3 (Ly (IY st3) lo (lo+k) ((lo+k-lo) / 2))=st4 at M4 S4 ⊢
      have hz4:lo+nrem<=(IY st4).size:=by rw [M4.size];exact hz
      have hk4:kindOf st4=κ:=M4.kind.trans hk
      have hP4:=M4.all hP
      refine IV (KE (JV (I:=fun i c st5=>st5=st4/\c=(none,i)/\i<=nrem/\1<=i/\Sg key (IY st4) lo (lo+i)) (Q:=fun c st5=>st5=st4/\∃i,c=(none,i)/\i<=nrem/\1<=i/\Sg key (IY st4) lo (lo+i)) ?tstep ?tfin ⟨rfl,rfl,a1,by lia,S4⟩) ?tpost)
      case tfin=>
       rintro c st5 ⟨rfl,rfl,b1,b2,b3⟩
       exact ⟨rfl,_,rfl,b1,b2,b3⟩
      case tstep=>
       rintro i c st5 _ hi ⟨rfl,rfl,b1,b2,b3⟩
       dsimp only
       refine IV (cy C hk4 hP4 (by lia) (by lia) ?_)
       dsimp only
       cases hc:O.blt (key (at_ (IY st5) (lo+i))) (key (at_ (IY st5) (lo+i-1))) with
       | true=>rw [if_pos rfl];exact Ja ⟨rfl,i,rfl,b1,b2,b3⟩
       | false=>rw [if_neg (by simp)];exact Ja ⟨rfl,rfl,by lia,by lia,b3.more b2 hc⟩
      case tpost=>
       rintro c st5 ⟨rfl,i,rfl,b1,b2,b3⟩
       exact Ja (h i st5 M4 b2 b1 b3)
     ·rw [if_neg hq]
      have M3:=M2
      have F3:=a3
      have hz3:lo+nrem<=(IY st2).size:=by rw [M3.size];exact hz
      rw [KD]
      refine IV (Ki ?_)
      have M4:=M3.rev (i:=lo) (j:=lo+k) (IS _) (by lia)
      have S4:Sg key (IY (Nw st2 (Ly (IY st2) lo (lo+k) ((lo+k-lo) / 2)))) lo (lo+k):=fun i j g1 g2 g3=>by
       show kl key (at_ (Ly (IY st2) lo (lo+k) ((lo+k-lo) / 2)) i) (at_ (Ly (IY st2) lo (lo+k) ((lo+k-lo) / 2)) j)
       rw [bS (by lia),bS (by lia),if_pos ⟨g1,by lia⟩,if_pos ⟨by lia,g3⟩]
       exact F3 _ _ (by lia) (by lia) (by lia)
      generalize Nw st2 (Ly (IY st2) lo (lo+k) ((lo+k-lo) / 2))=st4 at M4 S4 ⊢
      have hz4:lo+nrem<=(IY st4).size:=by rw [M4.size];exact hz
      have hk4:kindOf st4=κ:=M4.kind.trans hk
      have hP4:=M4.all hP
      refine IV (KE (JV (I:=fun i c st5=>st5=st4/\c=(none,i)/\i<=nrem/\1<=i/\Sg key (IY st4) lo (lo+i)) (Q:=fun c st5=>st5=st4/\∃i,c=(none,i)/\i<=nrem/\1<=i/\Sg key (IY st4) lo (lo+i)) ?tstep ?tfin ⟨rfl,rfl,a1,by lia,S4⟩) ?tpost)
      case tfin=>
       rintro c st5 ⟨rfl,rfl,b1,b2,b3⟩
       exact ⟨rfl,_,rfl,b1,b2,b3⟩
      case tstep=>
       rintro i c st5 _ hi ⟨rfl,rfl,b1,b2,b3⟩
       dsimp only
       refine IV (cy C hk4 hP4 (by lia) (by lia) ?_)
       dsimp only
       cases hc:O.blt (key (at_ (IY st5) (lo+i))) (key (at_ (IY st5) (lo+i-1))) with
       | true=>rw [if_pos rfl];exact Ja ⟨rfl,i,rfl,b1,b2,b3⟩
       | false=>rw [if_neg (by simp)];exact Ja ⟨rfl,rfl,by lia,by lia,b3.more b2 hc⟩
      case tpost=>
       rintro c st5 ⟨rfl,i,rfl,b1,b2,b3⟩
       exact Ja (h i st5 M4 b2 b1 b3)
  ·rw [if_neg hn]
   have hn1:n=1:=by lia
   subst hn1
   have M1:Mv lo st' st':=Mv.rfl'
   have F1:Fl key (IY st') lo (lo+(1+1)):=Fl.more (fun i j z1 z2 z3=>by rw [show i=j by lia];exact Ln _) (IS _) (J4 n4)
   refine IV (Ob (La ⟨rfl,?_⟩))
   refine IV (KE (JV (I:=fun k c st2=>Mv lo st' st2/\∃q,c=(none,k,q)/\k<=nrem/\q+1<=k/\Fl key (IY st2) lo (lo+k)/\(∀i,lo+k-(q+1)<=i->i < lo+k->key (at_ (IY st2) i)=key (at_ (IY st2) (lo+k-1))))
    (Q:=fun c st2=>Mv lo st' st2/\∃k q,c=(none,k,q)/\k<=nrem/\q+1<=k/\Fl key (IY st2) lo (lo+k)/\(∀i,lo+k-(q+1)<=i->i < lo+k->key (at_ (IY st2) i)=key (at_ (IY st2) (lo+k-1)))) ?dstep ?dfin ⟨M1,0,rfl,by lia,by lia,F1,fun i g1 g2=>by rw [show i=lo+(1+1)-1 by lia]⟩) ?dpost)
   case dfin=>
    rintro c st2 ⟨M2,q,rfl,a1,a2,a3,a4⟩
    exact ⟨M2,_,q,rfl,a1,a2,a3,a4⟩
   case dstep=>
    rintro k c st2 hk1 hkn ⟨M2,q,rfl,a1,a2,a3,a4⟩
    have hz2:lo+nrem<=(IY st2).size:=by rw [M2.size];exact hz
    have hk2:kindOf st2=κ:=M2.kind.trans hk
    have hP2:=M2.all hP
    dsimp only
    refine IV (cy C hk2 hP2 (by lia) (by lia) ?_)
    dsimp only
    cases hc:O.blt (key (at_ (IY st2) (lo+k))) (key (at_ (IY st2) (lo+k-1))) with
    | true=>
     rw [if_pos rfl]
     have F2:=a3.more (by lia) (J4 hc)
     by_cases hq:q > 0
     ·rw [if_pos hq,KD]
      have ek:=cV (key:=key) (xs:=IY st2) (i:=lo+k-(q+1)) (j:=lo+k) (by lia) a4
      refine IV (Ki (Ja ⟨M2.rev (by lia) (by lia),0,rfl,by lia,by lia,F2.congr ek,fun i g1 g2=>?_⟩))
      rw [show i=lo+(k+1)-1 by lia]
     ·rw [if_neg hq]
      exact Ja ⟨M2,0,rfl,by lia,by lia,F2,fun i g1 g2=>by rw [show i=lo+(k+1)-1 by lia]⟩
    | false=>
     rw [if_neg (by simp)]
     refine IV (cy C hk2 hP2 (by lia) (by lia) ?_)
     dsimp only
     cases hd:O.blt (key (at_ (IY st2) (lo+k-1))) (key (at_ (IY st2) (lo+k))) with
     | true=>rw [if_pos rfl];exact Ja ⟨M2,k,q,rfl,a1,a2,a3,a4⟩
     | false=>
      rw [if_neg (by simp)]
      have eq1:key (at_ (IY st2) (lo+k))=key (at_ (IY st2) (lo+k-1)):=O.total _ _ hc hd
      refine Ja ⟨M2,q+1,rfl,by lia,by lia,a3.more (by lia) hd,fun i g1 g2=>?_⟩
      rw [show lo+(k+1)-1=lo+k by lia]
      by_cases hi:i=lo+k
      ·rw [hi]
      ·rw [eq1];exact a4 i (by lia) (by lia)
   case dpost=>
    rintro c st2 ⟨M2,k,q,rfl,a1,a2,a3,a4⟩
    have hz2:lo+nrem<=(IY st2).size:=by rw [M2.size];exact hz
    dsimp only
    by_cases hq:q > 0
    ·rw [if_pos hq,KD]
     have ek:=cV (key:=key) (xs:=IY st2) (i:=lo+k-(q+1)) (j:=lo+k) (by lia) a4
     refine IV (Ki ?_)
     have M3:=M2.rev (i:=lo+k-(q+1)) (j:=lo+k) (by lia) (by lia)
     have F3:Fl key (IY (Nw st2 (Ly (IY st2) (lo+k-(q+1)) (lo+k) ((lo+k-(lo+k-(q+1))) / 2)))) lo (lo+k):=a3.congr ek
     generalize Nw st2 (Ly (IY st2) (lo+k-(q+1)) (lo+k) ((lo+k-(lo+k-(q+1))) / 2))=st3 at M3 F3 ⊢
     have hz3:lo+nrem<=(IY st3).size:=by rw [M3.size];exact hz
     rw [KD]
     refine IV (Ki ?_)
     have M4:=M3.rev (i:=lo) (j:=lo+k) (IS _) (by lia)
     have S4:Sg key (IY (Nw st3 (Ly (IY st3) lo (lo+k) ((lo+k-lo) / 2)))) lo (lo+k):=fun i j g1 g2 g3=>by
      show kl key (at_ (Ly (IY st3) lo (lo+k) ((lo+k-lo) / 2)) i) (at_ (Ly (IY st3) lo (lo+k) ((lo+k-lo) / 2)) j)
      rw [bS (by lia),bS (by lia),if_pos ⟨g1,by lia⟩,if_pos ⟨by lia,g3⟩]
      exact F3 _ _ (by lia) (by lia) (by lia)
     generalize Nw st3 (Ly (IY st3) lo (lo+k) ((lo+k-lo) / 2))=st4 at M4 S4 ⊢
     have hz4:lo+nrem<=(IY st4).size:=by rw [M4.size];exact hz
     have hk4:kindOf st4=κ:=M4.kind.trans hk
     have hP4:=M4.all hP
     refine IV (KE (JV (I:=fun i c st5=>st5=st4/\c=(none,i)/\i<=nrem/\1<=i/\Sg key (IY st4) lo (lo+i)) (Q:=fun c st5=>st5=st4/\∃i,c=(none,i)/\i<=nrem/\1<=i/\Sg key (IY st4) lo (lo+i)) ?tstep ?tfin ⟨rfl,rfl,a1,by lia,S4⟩) ?tpost)
     case tfin=>
      rintro c st5 ⟨rfl,rfl,b1,b2,b3⟩
      exact ⟨rfl,_,rfl,b1,b2,b3⟩
     case tstep=>
      rintro i c st5 _ hi ⟨rfl,rfl,b1,b2,b3⟩
      dsimp only
      refine IV (cy C hk4 hP4 (by lia) (by lia) ?_)
      dsimp only
      cases hc:O.blt (key (at_ (IY st5) (lo+i))) (key (at_ (IY st5) (lo+i-1))) with
      | true=>rw [if_pos rfl];exact Ja ⟨rfl,i,rfl,b1,b2,b3⟩
      | false=>rw [if_neg (by simp)];exact Ja ⟨rfl,rfl,by lia,by lia,b3.more b2 hc⟩
     case tpost=>
      rintro c st5 ⟨rfl,i,rfl,b1,b2,b3⟩
      exact Ja (h i st5 M4 b2 b1 b3)
    ·rw [if_neg hq]
     have M3:=M2
     have F3:=a3
     have hz3:lo+nrem<=(IY st2).size:=by rw [M3.size];exact hz
     rw [KD]
     refine IV (Ki ?_)
     have M4:=M3.rev (i:=lo) (j:=lo+k) (IS _) (by lia)
     have S4:Sg key (IY (Nw st2 (Ly (IY st2) lo (lo+k) ((lo+k-lo) / 2)))) lo (lo+k):=fun i j g1 g2 g3=>by
      show kl key (at_ (Ly (IY st2) lo (lo+k) ((lo+k-lo) / 2)) i) (at_ (Ly (IY st2) lo (lo+k) ((lo+k-lo) / 2)) j)
      rw [bS (by lia),bS (by lia),if_pos ⟨g1,by lia⟩,if_pos ⟨by lia,g3⟩]
      exact F3 _ _ (by lia) (by lia) (by lia)
     generalize Nw st2 (Ly (IY st2) lo (lo+k) ((lo+k-lo) / 2))=st4 at M4 S4 ⊢
     have hz4:lo+nrem<=(IY st4).size:=by rw [M4.size];exact hz
     have hk4:kindOf st4=κ:=M4.kind.trans hk
     have hP4:=M4.all hP
     refine IV (KE (JV (I:=fun i c st5=>st5=st4/\c=(none,i)/\i<=nrem/\1<=i/\Sg key (IY st4) lo (lo+i)) (Q:=fun c st5=>st5=st4/\∃i,c=(none,i)/\i<=nrem/\1<=i/\Sg key (IY st4) lo (lo+i)) ?tstep ?tfin ⟨rfl,rfl,a1,by lia,S4⟩) ?tpost)
     case tfin=>
      rintro c st5 ⟨rfl,rfl,b1,b2,b3⟩
      exact ⟨rfl,_,rfl,b1,b2,b3⟩
     case tstep=>
      rintro i c st5 _ hi ⟨rfl,rfl,b1,b2,b3⟩
      dsimp only
      refine IV (cy C hk4 hP4 (by lia) (by lia) ?_)
      dsimp only
      cases hc:O.blt (key (at_ (IY st5) (lo+i))) (key (at_ (IY st5) (lo+i-1))) with
      | true=>rw [if_pos rfl];exact Ja ⟨rfl,i,rfl,b1,b2,b3⟩
      | false=>rw [if_neg (by simp)];exact Ja ⟨rfl,rfl,by lia,by lia,b3.more b2 hc⟩
     case tpost=>
      rintro c st5 ⟨rfl,i,rfl,b1,b2,b3⟩
      exact Ja (h i st5 M4 b2 b1 b3)
theorem DK (C:hW prog w A s κ O key P) {st:KF} {lo n ok:Nat} {Q:Bool->KF->Prop} (hk:kindOf st=κ) (hP:∀x∈(IY st).toList,P x) (hz:lo+n<=(IY st).size) (ho:1<=ok) (hn:ok<=n) (hs:Sg key (IY st) lo (lo+ok))
  (h:∀st',Mv lo st st'->Sg key (IY st') lo (lo+n)->Q true st'):wpS (JD prog w) A E s (binarySort' lo n ok) Q st:=by
 rw [binarySort'_eq]
 refine IV (KE (JV (I:=fun k c st'=>c=(none,())/\Mv lo st st'/\k<=n/\Sg key (IY st') lo (lo+k)) (Q:=fun c st'=>c=(none,())/\Mv lo st st'/\Sg key (IY st') lo (lo+n)) ?step ?fin ⟨rfl,Mv.rfl',by lia,by rw [show max ok 1=ok by lia];exact hs⟩) ?post)
 case post=>
  rintro c st' ⟨rfl,M,S⟩
  exact Ja (h st' M S)
 case fin=>
  rintro c st' ⟨hc,M,hkn,S⟩
  rw [show max (max ok 1) n=n by lia] at S
  exact ⟨hc,M,S⟩
 case step=>
  rintro k c st' hak hkn ⟨rfl,M,_,S⟩
  have hz':lo+n<=(IY st').size:=by rw [M.size];exact hz
  have hk':kindOf st'=κ:=M.kind.trans hk
  have hP':=M.all hP
  dsimp only
  refine IV (KE (JV (I:=fun x c st''=>st''=st'/\∃l r,c=(none,l,r)/\l<=r/\r<=k/\r-l<=k-x/\(∀i,i < l->kl key (at_ (IY st') (lo+i)) (at_ (IY st') (lo+k)))/\(∀i,r<=i->i < k->O.klt (key (at_ (IY st') (lo+k))) (key (at_ (IY st') (lo+i)))))
   (Q:=fun c st''=>st''=st'/\∃l r,c=(none,l,r)/\l<=k/\(∀i,i < l->kl key (at_ (IY st') (lo+i)) (at_ (IY st') (lo+k)))/\(∀i,l<=i->i < k->O.klt (key (at_ (IY st') (lo+k))) (key (at_ (IY st') (lo+i))))) ?s1 ?f1 ⟨rfl,0,k,rfl,by lia,by lia,by lia,fun i hi=>by lia,fun i h1 h2=>by lia⟩) ?p1)
  case f1=>
   rintro c st'' ⟨rfl,l,r,rfl,z1,z2,z3,z4,z5⟩
   have:l=r:=by lia
   subst this
   exact ⟨rfl,l,l,rfl,z2,z4,z5⟩
  case s1=>
   rintro x c st'' _ hx ⟨rfl,l,r,rfl,z1,z2,z3,z4,z5⟩
   dsimp only
   by_cases hge:l >= r
   ·rw [if_pos hge]
    have:l=r:=by lia
    subst this
    exact Ja ⟨rfl,l,l,rfl,z2,z4,z5⟩
   rw [if_neg hge]
   refine IV (cy C hk' hP' (by lia) (by lia) ?_)
   dsimp only
   cases hc:O.blt (key (at_ (IY st'') (lo+k))) (key (at_ (IY st'') (lo+(l+r) / 2))) with
   | true=>
    rw [if_pos rfl]
    exact Ja ⟨rfl,l,(l+r) / 2,rfl,by lia,by lia,by lia,z4,fun i g1 g2=>KeyOrd.klt_of_klt_of_kle hc (S (lo+(l+r) / 2) (lo+i) (by lia) (by lia) (by lia))⟩
   | false=>
    rw [if_neg (by simp)]
    exact Ja ⟨rfl,(l+r) / 2+1,r,rfl,by lia,by lia,by lia,fun i g1=>JK (S (lo+i) (lo+(l+r) / 2) (by lia) (by lia) (by lia)) hc,z5⟩
  case p1=>
   rintro c st'' ⟨rfl,l,r,rfl,z1,z2,z3⟩
   dsimp only
   rw [moveDown'_eq]
   have eb:∀i,at_ (bubble (IY st'') (lo+k) (lo+k-(lo+l))) i=if i=lo+l then at_ (IY st'') (lo+k) else if lo+l < i/\i<=lo+k then at_ (IY st'') (i-1) else at_ (IY st'') i:=fun i=>by
    have z:=getElem?_bubble (xs:=IY st'') (src:=lo+k) (by lia) (lo+k-(lo+l)) (by lia) i
    rw [show lo+k-(lo+k-(lo+l))=lo+l by lia] at z
    by_cases c1:i=lo+l
    ·rw [if_pos c1] at z ⊢;exact bh z
    ·rw [if_neg c1] at z ⊢
     by_cases c2:lo+l < i/\i<=lo+k
     ·rw [if_pos c2] at z ⊢;exact bh z
     ·rw [if_neg c2] at z ⊢;exact bh z
   refine IV (Ki (Ja ⟨rfl,⟨M.kind,M.pend,M.fail,(bubble_perm _ _ _).trans M.perm,fun i hi=>?_⟩,by lia,fun i j g1 g2 g3=>?_⟩))
   ·rw [<- M.pre i hi]
    show (bubble (IY st'') (lo+k) (lo+k-(lo+l)))[i]?=_
    rw [getElem?_bubble (by lia) _ (by lia),if_neg (by lia),if_neg (by lia)]
   ·show kl key (at_ (bubble (IY st'') (lo+k) (lo+k-(lo+l))) i) (at_ (bubble (IY st'') (lo+k) (lo+k-(lo+l))) j)
    rw [eb,eb]
    by_cases c1:i=lo+l
    ·rw [if_pos c1]
     by_cases c2:j=lo+l
     ·rw [if_pos c2];exact Ln _
     ·rw [if_neg c2,if_pos ⟨by lia,by lia⟩]
      have:=z3 (j-1-lo) (by lia) (by lia)
      rw [show lo+(j-1-lo)=j-1 by lia] at this
      exact J4 this
    ·rw [if_neg c1]
     by_cases c3:lo+l < i
     ·rw [if_pos ⟨c3,by lia⟩,if_neg (by lia),if_pos ⟨by lia,by lia⟩]
      exact S _ _ (by lia) (by lia) (by lia)
     ·rw [if_neg (by lia)]
      by_cases c2:j=lo+l
      ·rw [if_pos c2]
       have:=z2 (i-lo) (by lia)
       rwa [show lo+(i-lo)=i by lia] at this
      ·rw [if_neg c2]
       by_cases c4:lo+l < j
       ·rw [if_pos ⟨c4,by lia⟩];exact S _ _ g1 (by lia) (by lia)
       ·rw [if_neg (by lia)];exact S _ _ g1 g2 (by lia)
end
end Tim
end
section
namespace Tim
open PySem PyProof.Rows
theorem nh:∀(l:List Jo) (a:Array Jo) (b j0:Nat),((l.zipIdx j0).foldl (fun a x=>a.setIfInBounds (b+x.2) x.1) a).size=a.size
 | [],_,_,_=>rfl
 | x::l,a,b,j0=>by
  rw [List.zipIdx_cons,Nf,nh l]
  simp
theorem uF:∀(l:List Jo) (a:Array Jo) (b j0:Nat) (i:Nat),b+j0+l.length<=a.size->((l.zipIdx j0).foldl (fun a x=>a.setIfInBounds (b+x.2) x.1) a)[i]?=if b+j0<=i/\i < b+j0+l.length then l[i-(b+j0)]? else a[i]?
 | [],a,b,j0,i,_=>by
  rw [if_neg (by simp only [Mh];lia)];rfl
 | x::l,a,b,j0,i,h=>by
  have hl:(x::l).length=l.length+1:=rfl
  rw [hl] at h ⊢
  rw [List.zipIdx_cons,Nf,uF l _ b (j0+1) i (by simp;lia)]
  by_cases c:b+(j0+1)<=i/\i < b+(j0+1)+l.length
  ·rw [if_pos c,if_pos (by lia),show i-(b+j0)=(i-(b+(j0+1)))+1 by lia,Kq]
  ·rw [if_neg c]
   by_cases e:i=b+j0
   ·subst e
    rw [if_pos (by lia),Nat.sub_self,Oc]
    simp [Ku];lia
   ·rw [if_neg (by lia)]
    simp [Ku];lia
def Cov:List (Nat×Nat×Nat)->Nat->Nat->Prop
 | [],f,t=>f=t
 | x::r,f,t=>x.1=f/\1<=x.2.1/\Cov r (f+x.2.1) t
theorem Cov.le:∀{l:List (Nat×Nat×Nat)} {f t:Nat},Cov l f t->f+l.length<=t
 | [],_,_,h=>by cases h;exact IS _
 | x::r,f,t,⟨h1,h2,h3⟩=>by have:=Cov.le h3;simp only [JZ];lia
theorem Cov.app:∀{l m:List (Nat×Nat×Nat)} {f t:Nat},Cov (l++m) f t↔∃k,Cov l f k/\Cov m k t
 | [],m,f,t=>⟨fun h=>⟨f,rfl,h⟩,fun zq1=>by obtain ⟨k,h1,h2⟩:=zq1;cases h1;exact h2⟩
 | x::r,m,f,t=>⟨fun ⟨h1,h2,h3⟩=>let ⟨k,k1,k2⟩:=Cov.app.mp h3;⟨k,⟨h1,h2,k1⟩,k2⟩,fun zt1=>by obtain ⟨k,⟨h1,h2,k1⟩,k2⟩:=zt1;exact ⟨h1,h2,Cov.app.mpr ⟨k,k1,k2⟩⟩⟩
theorem Cov.mem:∀{l:List (Nat×Nat×Nat)} {f t:Nat},Cov l f t->∀x∈l,f<=x.1/\x.1+x.2.1<=t
 | x::r,f,t,⟨h1,h2,h3⟩,y,hy=>by
  have:=Cov.le h3
  rcases List.mem_cons.mp hy with rfl | hy
  ·lia
  ·have:=Cov.mem h3 y hy;lia
section
variable {prog:Jp} {w:JQ} {A:JY} {E:IP->IM->Prop} {s:IM} {κ:MC} {O:NX} {key:Jo->O.α} {P:Jo->Prop}
theorem yR {U:Type} {M:QB} {x:U} {Q:PUnit->U->Prop} {st:U} (h:Q ⟨⟩ x):wpS M A E s (set x:StateT U Sem PUnit) Q st:=by
 unfold wpS;rw [StateT.run_set];exact IK ⟨rfl,h⟩
structure G {O:NX} (κ:MC) (key:Jo->O.α) (a0:Array Jo) (st:KF) (lo:Nat):Prop where
 kind:kindOf st=κ
 fail:LC st=none
 perm:(IY st).Perm a0
 cov:Cov (Jv st).toList 0 lo
 srt:∀x∈(Jv st).toList,Sg key (IY st) x.1 (x.1+x.2.1)
 le:lo<=a0.size
theorem uG {a:Array Jo} {x:Jo} {base n:Nat} (h:Sg key a base (base+n)):∀i j,i<=j->j < n->bey key false x (at_ a (base+j))=true->bey key false x (at_ a (base+i))=true:=fun i j hij hj q=>by
 have:kl key (at_ a (base+i)) x:=JK (h _ _ (by lia) (by lia) (by lia)) (m9 q)
 show (!O.blt (key x) (key (at_ a (base+i))))=true
 rw [show O.blt (key x) (key (at_ a (base+i)))=false from this];rfl
theorem uH {a:Array Jo} {x:Jo} {base n:Nat} (h:Sg key a base (base+n)):∀i j,i<=j->j < n->bey key true x (at_ a (base+j))=true->bey key true x (at_ a (base+i))=true:=fun i j hij hj q=>
 NY (h (base+i) (base+j) (by lia) (by lia) (by lia)) (ng q)
theorem ni {a:Array Jo} {i n j:Nat} (h:n<=a.size) (hj:i+j < n):at_ (a.extract i n) j=at_ a (i+j):=by
 refine bh ?_
 rw [Array.getElem?_extract]
 rw [if_pos (by lia)]
theorem nq {a:Array Jo} {i n:Nat} (h:n<=a.size):(a.extract i n).size=n-i:=by
 rw [Array.size_extract];lia
theorem uI {a:Array Jo} {i n:Nat} (h:n<=a.size) (q:Sg key a i n):(a.extract i n).toList.Pairwise (kl key):=by
 rw [Lh]
 intro x y hx hy hxy
 have hz:=nq (a:=a) (i:=i) h
 have hx':x < (a.extract i n).size:=by rw [<- Jl];exact hx
 have hy':y < (a.extract i n).size:=by rw [<- Jl];exact hy
 have g:∀z (hz:z < (a.extract i n).toList.length),(a.extract i n).toList[z]=at_ (a.extract i n) z:=fun z hz'=>by
  have e1:=cf (a:=a.extract i n) (i:=z) (by rw [<- Jl];exact hz')
  rw [IL hz'] at e1
  exact Jx e1
 rw [g x hx,g y hy,ni h (by lia),ni h (by lia)]
 exact q _ _ (by lia) (by lia) (by lia)
theorem jA {a:Array Jo} {i n:Nat} (h:n<=a.size) {x:Jo} (hx:x∈(a.extract i n).toList):∃j,i<=j/\j < n/\x=at_ a j:=by
 obtain ⟨j,hj,e⟩:=K5 hx
 have hj':j < (a.extract i n).size:=by rw [<- Jl];exact hj
 have hz:=nq (a:=a) (i:=i) h
 have e1:=cf (a:=a.extract i n) (i:=j) hj'
 rw [IL hj,e] at e1
 refine ⟨i+j,by lia,by lia,?_⟩
 rw [Jx e1,ni h (by lia)]
theorem kJ {a:Array Jo} (hP:∀x∈a.toList,P x) {i:Nat} (h:i < a.size):P (at_ a i):=hP _ (eK h)
theorem yS {a m:Array Jo} {lo hi:Nat} (h:hi<=a.size) (hl:lo<=hi) (hm:m.toList.Perm (a.extract lo hi).toList) :
  let a':=(m.toList.zipIdx).foldl (fun a x=>a.setIfInBounds (lo+x.2) x.1) a
  a'.Perm a/\(∀i,(lo<=i/\i < hi->a'[i]?=m[i-lo]?)/\(¬ (lo<=i/\i < hi)->a'[i]?=a[i]?)):=by
 intro a'
 have hlen:m.toList.length=hi-lo:=by rw [hm.length_eq];simp;lia
 have g:∀i,a'[i]?=if lo+0<=i/\i < lo+0+m.toList.length then m.toList[i-(lo+0)]? else a[i]?:=fun i=>uF m.toList a lo 0 i (by lia)
 rw [Ny,hlen,show lo+(hi-lo)=hi by lia] at g
 have hz:a'.size=a.size:=nh _ _ _ _
 refine ⟨?_,fun i=>⟨fun c=>by rw [g,if_pos c,JI],fun c=>by rw [g,if_neg c]⟩⟩
 have e:a'.toList=a.toList.take lo++(m.toList++a.toList.drop hi):=by
  apply Lo
  intro i
  rw [JI,g,OU,OU]
  have hlt:(a.toList.take lo).length=lo:=by simp;lia
  rw [hlt,hlen]
  by_cases c1:i < lo
  ·rw [if_neg (by lia),if_pos c1,List.getElem?_take,if_pos c1,JI]
  ·rw [if_neg c1]
   by_cases c2:i < hi
   ·rw [if_pos ⟨by lia,c2⟩,if_pos (by lia)]
   ·rw [if_neg (by lia),if_neg (by lia),List.getElem?_drop,JI]
    congr 1;lia
 have e2:a.toList=a.toList.take lo++((a.extract lo hi).toList++a.toList.drop hi):=by
  rw [oJ a lo hi hl]
  conv=>lhs;rw [<- Ju hi a.toList,<- Ju lo (a.toList.take hi)]
  rw [List.take_take,OG hl,Jm]
 rw [Array.perm_iff_toList_perm,e]
 conv=>rhs;rw [e2]
 exact KM _ (hm.append_right _)
theorem oK (C:hW prog w A s κ O key P) {a0:Array Jo} {st:KF} {lo i:Nat} {Q:Bool->KF->Prop} (hP:∀x∈a0.toList,P x) (g:G κ key a0 st lo) (hi:i+1 < (Jv st).size)
  (h:∀st',G κ key a0 st' lo->(∀j,lo<=j->(IY st')[j]?=(IY st)[j]?)->(Jv st').size+1=(Jv st).size->Q true st'):wpS (JD prog w) A E s (mergeAt' i) Q st:=by
 obtain ⟨sa,na,pw,eA⟩:∃sa na pw,(Jv st)[i]?=some (sa,na,pw):=⟨_,_,_,getElem?_pos _ i (by lia)⟩
 obtain ⟨sb,nb,pw2,eB⟩:∃sb nb pw2,(Jv st)[i+1]?=some (sb,nb,pw2):=⟨_,_,_,getElem?_pos _ (i+1) hi⟩
 have eL:(Jv st).toList=(Jv st).toList.take i++(sa,na,pw)::(sb,nb,pw2)::(Jv st).toList.drop (i+2):=by
  conv=>lhs;rw [<- Ju i (Jv st).toList]
  congr 1
  rw [<- JI] at eA eB
  obtain ⟨l1,q1⟩:=List.getElem?_eq_some_iff.mp eA
  obtain ⟨l2,q2⟩:=List.getElem?_eq_some_iff.mp eB
  rw [KI l1,q1,KI l2,q2]
 have hcov:=g.cov
 rw [eL] at hcov
 obtain ⟨k0,c1,c2,c3,c4,c5,c6⟩:=Cov.app.mp hcov
 dsimp only at c2 c3 c4 c5 c6
 subst c2
 have hpost:=Cov.le c6
 have hsz:(IY st).size=a0.size:=g.perm.size_eq
 have hle:=g.le
 have hPs:∀x∈(IY st).toList,P x:=fun x hx=>hP x ((Array.perm_iff_toList_perm.mp g.perm).mem_iff.mp hx)
 have sgA:Sg key (IY st) sa (sa+na):=g.srt (sa,na,pw) (by rw [eL];simp)
 have sgB:Sg key (IY st) (sa+na) (sa+na+nb):=by have:=g.srt (sb,nb,pw2) (by rw [eL];simp);dsimp only at this;rwa [c4] at this
 -- the pending runs afterwards
 have pn:(((Jv st).setIfInBounds i (sa,na+nb,pw)).eraseIdxIfInBounds (i+1)).toList=(Jv st).toList.take i++(sa,na+nb,pw)::(Jv st).toList.drop (i+2):=by
  rw [Array.eraseIdxIfInBounds,dif_pos (by simp;lia),Array.toList_eraseIdx,Array.toList_setIfInBounds]
  conv=>lhs;rw [eL]
  have hl:((Jv st).toList.take i).length=i:=by simp;lia
  rw [List.set_append_right _ _ (by lia),hl,Nat.sub_self,JM,List.eraseIdx_append_of_length_le (by lia),hl,Nat.add_sub_cancel_left,List.eraseIdx_cons_succ,List.eraseIdx_cons_zero]
 have hps:(((Jv st).setIfInBounds i (sa,na+nb,pw)).eraseIdxIfInBounds (i+1)).size+1=(Jv st).size:=by
  rw [<- Jl,pn];simp;lia
 -- what is wanted of a state with these runs
 have fin:∀st',kindOf st'=κ->LC st'=none->Jv st'=(((Jv st).setIfInBounds i (sa,na+nb,pw)).eraseIdxIfInBounds (i+1))->(IY st').Perm (IY st)->(∀j,¬ (sa<=j/\j < sa+na+nb)->(IY st')[j]?=(IY st)[j]?) ->
   Sg key (IY st') sa (sa+na+nb)->Q true st':=fun st' k1 k2 k3 k4 k5 k6=>by
  refine h st' ⟨k1,k2,k4.trans g.perm,?_,?_,hle⟩ (fun j hj=>k5 j (by lia)) (by rw [k3];exact hps)
  ·rw [k3,pn]
   refine Cov.app.mpr ⟨sa,c1,rfl,by show 1<=na+nb;lia,?_⟩
   show Cov _ (sa+(na+nb)) lo
   rw [<- Mg];exact c6
  ·intro x hx
   rw [k3,pn] at hx
   rcases List.mem_append.mp hx with hx | hx
   ·have q:=g.srt x (by rw [eL];exact J3 _ hx)
    have r:=Cov.mem c1 x hx
    intro i' j' z1 z2 z3
    show O.kle _ _
    rw [bh (k5 i' (by lia)),bh (k5 j' (by lia))]
    exact q i' j' z1 z2 z3
   ·rcases List.mem_cons.mp hx with rfl | hx
    ·show Sg key (IY st') sa (sa+(na+nb))
     rw [<- Mg];exact k6
    ·have q:=g.srt x (by rw [eL];exact IU _ (IZ _ (IZ _ hx)))
     have r:=Cov.mem c6 x hx
     intro i' j' z1 z2 z3
     show O.kle _ _
     rw [bh (k5 i' (by lia)),bh (k5 j' (by lia))]
     exact q i' j' z1 z2 z3
 subst c4
 delta mergeAt'
 refine IV (MP ?_)
 rw [eA,eB]
 dsimp only
 refine IV (yR ?_)
 refine IV (aX (show sa+na < (IY st).size by lia) (IV (hZ C g.kind (show 0 < na by lia) (show sa+na<=(IY st).size by lia) (fun j hj=>kJ hPs (by lia)) (kJ hPs (by lia)) (uG sgA) fun k z1 z2 z3=>?_)))
 dsimp only
 have low:∀j,sa<=j->j < sa+k->kl key (at_ (IY st) j) (at_ (IY st) (sa+na)):=fun j j1 j2=>by
  have:=m9 (z2 (j-sa) (by lia));rwa [show sa+(j-sa)=j by lia] at this
 have high:∀j,sa+k<=j->j < sa+na->O.klt (key (at_ (IY st) (sa+na))) (key (at_ (IY st) j)):=fun j j1 j2=>by
  have:=uD (z3 (j-sa) (by lia) (by lia));rwa [show sa+(j-sa)=j by lia] at this
 by_cases e1:na-k=0
 ·rw [if_pos (by simpa using e1)]
  refine Ja (fin _ g.kind g.fail rfl (Nh _) (fun _ _=>rfl) fun i' j' y1 y2 y3=>?_)
  show kl key (at_ (IY st) i') (at_ (IY st) j')
  by_cases d1:j' < sa+na
  ·exact sgA i' j' y1 y2 d1
  ·by_cases d2:i' < sa+na
   ·exact JK (low i' y1 (by lia)) (sgB _ j' (IS _) (by lia) y3)
   ·exact sgB i' j' (by lia) y2 y3
 rw [if_neg (by simpa using e1)]
 have hlast:sa+k+(na-k)-1=sa+na-1:=by lia
 rw [hlast]
 refine IV (aX (show sa+na-1 < (IY st).size by lia) (IV (hZ C g.kind (show nb-1 < nb by lia) (show sa+na+nb<=(IY st).size by lia) (fun j hj=>kJ hPs (by lia)) (kJ hPs (by lia)) (uH sgB) fun m y1 y2 y3=>?_)))
 dsimp only
 have lowB:∀j,sa+na<=j->j < sa+na+m->O.klt (key (at_ (IY st) j)) (key (at_ (IY st) (sa+na-1))):=fun j j1 j2=>by
  have:=ng (y2 (j-(sa+na)) (by lia));rwa [show sa+na+(j-(sa+na))=j by lia] at this
 have highB:∀j,sa+na+m<=j->j < sa+na+nb->kl key (at_ (IY st) (sa+na-1)) (at_ (IY st) j):=fun j j1 j2=>by
  have:=uE (y3 (j-(sa+na)) (by lia) (by lia));rwa [show sa+na+(j-(sa+na))=j by lia] at this
 by_cases e2:m=0
 ·rw [if_pos (by simpa using e2)]
  refine Ja (fin _ g.kind g.fail rfl (Nh _) (fun _ _=>rfl) fun i' j' x1 x2 x3=>?_)
  show kl key (at_ (IY st) i') (at_ (IY st) j')
  by_cases d1:j' < sa+na
  ·exact sgA i' j' x1 x2 d1
  ·by_cases d2:i' < sa+na
   ·exact JK (sgA i' (sa+na-1) x1 (by lia) (by lia)) (highB j' (by lia) x3)
   ·exact sgB i' j' (by lia) x2 x3
 rw [if_neg (by simpa using e2)]
 have hx1:sa+na<=(IY st).size:=by lia
 have hx2:sa+na+m<=(IY st).size:=by lia
 have sx:=nq (a:=IY st) (i:=sa+k) hx1
 have sy:=nq (a:=IY st) (i:=sa+na) hx2
 have srX:=uI (key:=key) (i:=sa+k) hx1 (fun i' j' a1 a2 a3=>sgA i' j' (by lia) a2 a3)
 have srY:=uI (key:=key) (i:=sa+na) hx2 (fun i' j' a1 a2 a3=>sgB i' j' a1 a2 (by lia))
 have PX:∀x∈((IY st).extract (sa+k) (sa+na)).toList,P x:=fun x hx=>by obtain ⟨j,j1,j2,rfl⟩:=jA hx1 hx;exact kJ hPs (by lia)
 have PY:∀x∈((IY st).extract (sa+na) (sa+na+m)).toList,P x:=fun x hx=>by obtain ⟨j,j1,j2,rfl⟩:=jA hx2 hx;exact kJ hPs (by lia)
 have H0:∀y∈((IY st).extract (sa+k) (sa+na)).toList,kl key (at_ ((IY st).extract (sa+na) (sa+na+m)) 0) y:=fun y hy=>by
  obtain ⟨j,j1,j2,rfl⟩:=jA hx1 hy
  rw [ni hx2 (by lia),Ny]
  exact J4 (high j j1 j2)
 have HL:∀x∈((IY st).extract (sa+na) (sa+na+m)).toList,kl key x (at_ ((IY st).extract (sa+k) (sa+na)) (((IY st).extract (sa+k) (sa+na)).size-1)):=fun x hx=>by
  obtain ⟨j,j1,j2,rfl⟩:=jA hx2 hx
  rw [sx,ni hx1 (by lia),show sa+k+(sa+na-(sa+k)-1)=sa+na-1 by lia]
  exact J4 (lowB j j1 j2)
 have eXY:((IY st).extract (sa+k) (sa+na+m)).toList=((IY st).extract (sa+k) (sa+na)).toList++((IY st).extract (sa+na) (sa+na+m)).toList:=by
  rw [<- JT,Array.extract_append_extract]
  congr 2 <;> lia
 -- the end,by either way
 have done:∀(r:Array Jo) (st1:KF),kindOf st1=κ->LC st1=none->Jv st1=(((Jv st).setIfInBounds i (sa,na+nb,pw)).eraseIdxIfInBounds (i+1))->IY st1=IY st ->
   Res (kl key) ((IY st).extract (sa+k) (sa+na)).toList ((IY st).extract (sa+na) (sa+na+m)).toList r.toList ->
   Q true (PR (kindOf st1) ((r.toList.zipIdx).foldl (fun a x=>a.setIfInBounds (sa+k+x.2) x.1) (IY st1)) (Jv st1) (gallopOf st1) (LC st1)):=fun r st1 k1 k2 k3 k4 R=>by
  rw [k4]
  obtain ⟨R1,R2⟩:=R
  rw [<- eXY] at R1
  obtain ⟨b1,b2⟩:=yS (a:=IY st) (m:=r) (lo:=sa+k) (hi:=sa+na+m) hx2 (by lia) R1
  generalize (r.toList.zipIdx).foldl (fun a x=>a.setIfInBounds (sa+k+x.2) x.1) (IY st)=a' at b1 b2 ⊢
  have hrl:r.size=sa+na+m-(sa+k):=by have:=R1.length_eq;rw [Jl,Jl,nq hx2] at this;exact this
  have mid:∀j,sa+k<=j->j < sa+na+m->at_ a' j=at_ r (j-(sa+k)):=fun j j1 j2=>bh ((b2 j).1 ⟨j1,j2⟩)
  have out:∀j,¬ (sa+k<=j/\j < sa+na+m)->at_ a' j=at_ (IY st) j:=fun j hj=>bh ((b2 j).2 hj)
  have midv:∀j,sa+k<=j->j < sa+na+m->∃t,sa+k<=t/\t < sa+na+m/\at_ a' j=at_ (IY st) t:=fun j j1 j2=>by
   have hm:at_ r (j-(sa+k))∈r.toList:=eK (by lia)
   obtain ⟨t,t1,t2,t3⟩:=jA hx2 (R1.mem_iff.mp hm)
   exact ⟨t,t1,t2,by rw [mid j j1 j2,t3]⟩
  refine fin _ k1 k2 k3 b1 (fun j hj=>(b2 j).2 (by lia)) fun i' j' x1 x2 x3=>?_
  show kl key (at_ a' i') (at_ a' j')
  by_cases d1:i' < sa+k
  ·rw [out i' (by lia)]
   by_cases d2:j' < sa+k
   ·rw [out j' (by lia)];exact sgA i' j' x1 x2 (by lia)
   ·by_cases d3:j' < sa+na+m
    ·obtain ⟨t,t1,t2,t3⟩:=midv j' (by lia) d3
     rw [t3]
     by_cases d4:t < sa+na
     ·exact sgA i' t x1 (by lia) d4
     ·exact JK (low i' x1 d1) (sgB _ t (IS _) (by lia) (by lia))
    ·rw [out j' (by lia)]
     exact JK (low i' x1 d1) (sgB _ j' (IS _) (by lia) x3)
  ·by_cases d2:i' < sa+na+m
   ·by_cases d3:j' < sa+na+m
    ·rw [mid i' (by lia) d2,mid j' (by lia) d3]
     exact eM R2 (by lia) (by lia)
    ·obtain ⟨t,t1,t2,t3⟩:=midv i' (by lia) d2
     rw [t3,out j' (by lia)]
     by_cases d4:t < sa+na
     ·exact JK (sgA t (sa+na-1) (by lia) (by lia) (by lia)) (highB j' (by lia) x3)
     ·exact sgB t j' (by lia) (by lia) x3
   ·rw [out i' (by lia),out j' (by lia)]
    exact sgB i' j' (by lia) x2 x3
 by_cases hcase:na-k<=m
 ·rw [if_pos hcase]
  refine IV (DH C g.kind (show 0 < ((IY st).extract (sa+k) (sa+na)).size by rw [sx];lia) (show 0 < ((IY st).extract (sa+na) (sa+na+m)).size by rw [sy];lia) PX PY srX srY H0 HL fun r st1 S R=>?_)
  refine IV (Ki (IV (MP ?_)))
  have hf:LC st1=none:=S.2.2.2.trans g.fail
  show wpS _ _ _ _ (pure (LC st1).isNone) _ _
  rw [hf]
  exact Ja (done r st1 (S.1.trans g.kind) hf S.2.2.1 S.2.1 R)
 ·rw [if_neg hcase]
  refine IV (DI C g.kind (show 0 < ((IY st).extract (sa+k) (sa+na)).size by rw [sx];lia) (show 0 < ((IY st).extract (sa+na) (sa+na+m)).size by rw [sy];lia) PX PY srX srY H0 HL fun r st1 S R=>?_)
  refine IV (Ki (IV (MP ?_)))
  have hf:LC st1=none:=S.2.2.2.trans g.fail
  show wpS _ _ _ _ (pure (LC st1).isNone) _ _
  rw [hf]
  exact Ja (done r st1 (S.1.trans g.kind) hf S.2.2.1 S.2.1 R)
end
end Tim
end
section
namespace Tim
open PySem PyProof.Rows
def bare (x:Nat×Nat×Nat):Nat×Nat:=(x.1,x.2.1)
theorem Cov.bare:∀{l m:List (Nat×Nat×Nat)} {f t:Nat},l.map bare=m.map bare->Cov l f t->Cov m f t
 | [],[],_,_,_,h=>h
 | [],_::_,_,_,e,_=>by cases e
 | _::_,[],_,_,e,_=>by cases e
 | x::l,y::m,f,t,e,⟨h1,h2,h3⟩=>by
  have e':=MY e
  have e1:x.1=y.1:=(Pe e'.1).1
  have e2:x.2.1=y.2.1:=(Pe e'.1).2
  exact ⟨e1▸h1,e2▸h2,e2▸Cov.bare e'.2 h3⟩
theorem uJ (l:List (Nat×Nat×Nat)) (i pw:Nat):(l.modify i fun x=>(x.1,x.2.1,pw)).map bare=l.map bare:=by
 apply Lo
 intro j
 rw [Jh,Jh,List.getElem?_modify]
 cases l[j]? with
 | none=>rfl
 | some x=>by_cases h:i=j <;> simp [h,bare]
section
variable {prog:Jp} {w:JQ} {A:JY} {E:IP->IM->Prop} {s:IM} {κ:MC} {O:NX} {key:Jo->O.α} {P:Jo->Prop}
theorem G.push {a0:Array Jo} {st:KF} {lo n:Nat} (g:G κ key a0 st lo) (S:Sg key (IY st) lo (lo+n)) (h1:1<=n) (h2:lo+n<=a0.size):G κ key a0 (P4 st ((Jv st).push (lo,n,0))) (lo+n):=by
 have e:(Jv (P4 st ((Jv st).push (lo,n,0)))).toList=(Jv st).toList++[(lo,n,0)]:=Mw ..
 refine ⟨g.kind,g.fail,g.perm,?_,fun x hx=>?_,h2⟩
 ·rw [e];exact Cov.app.mpr ⟨lo,g.cov,rfl,h1,rfl⟩
 ·rw [e] at hx
  rcases List.mem_append.mp hx with hx | hx
  ·exact g.srt x hx
  ·rw [KP] at hx;subst hx;exact S
theorem G.pow {a0:Array Jo} {st:KF} {lo:Nat} (g:G κ key a0 st lo) (i pw:Nat):G κ key a0 (P4 st ((Jv st).modify i fun x=>(x.1,x.2.1,pw))) lo:=by
 have e:(Jv (P4 st ((Jv st).modify i fun x=>(x.1,x.2.1,pw)))).toList=(Jv st).toList.modify i fun x=>(x.1,x.2.1,pw):=Array.toList_modify ..
 have b:=uJ (Jv st).toList i pw
 refine ⟨g.kind,g.fail,g.perm,?_,fun x hx=>?_,g.le⟩
 ·rw [e];exact Cov.bare b.symm g.cov
 ·rw [e] at hx
  have hb:bare x∈((Jv st).toList.map bare):=by rw [<- b];exact List.mem_map_of_mem hx
  obtain ⟨y,hy,ey⟩:=List.mem_map.mp hb
  have q:=g.srt y hy
  have e1:y.1=x.1:=(Pe ey).1
  have e2:y.2.1=x.2.1:=(Pe ey).2
  rw [e1,e2] at q
  exact q
theorem Sg.keep {a b:Array Jo} {lo hi:Nat} (h:Sg key a lo hi) (e:∀j,lo<=j->b[j]?=a[j]?):Sg key b lo hi:=fun i j z1 z2 z3=>by
 rw [bh (e i z1),bh (e j (by lia))];exact h i j z1 z2 z3
theorem yT (C:hW prog w A s κ O key P) {st:KF} {Q:Unit->KF->Prop} (hP:∀x∈(IY st).toList,P x) (hk:kindOf st=κ) (hf:LC st=none) (hp:Jv st=#[]) (h1:1<=(IY st).size)
  (h:∀st',(IY st').Perm (IY st)->LC st'=none->(IY st').toList.Pairwise (kl key)->Q () st'):wpS (JD prog w) A E s sortRuns' Q st:=by
 have g0:G κ key (IY st) st 0:=⟨hk,hf,Nh _,by rw [hp];rfl,(fun x hx=>by rw [hp] at hx;cases hx),Kk _⟩
 rw [sortRuns'_eq]
 refine IV (MP ?_)
 dsimp only
 refine IV (KE (JV (I:=fun x c st1=>∃lo,c=(none,lo)/\x<=lo/\G κ key (IY st) st1 lo) (Q:=fun c st1=>c=(none,(IY st).size)/\G κ key (IY st) st1 (IY st).size) ?step ?fin ⟨0,rfl,IS _,g0⟩) ?post)
 case fin=>
  rintro c st1 ⟨lo,rfl,hx,g⟩
  have:=g.le
  have e:lo=(IY st).size:=by lia
  subst e;exact ⟨rfl,g⟩
 case post=>
  rintro c st1 ⟨rfl,g⟩
  dsimp only
  refine IV (KE (JV (I:=fun x c st2=>c=(none,())/\(Jv st2).size+x<=(IY st).size/\G κ key (IY st) st2 (IY st).size) (Q:=fun c st2=>c=(none,())/\(Jv st2).size<=1/\G κ key (IY st) st2 (IY st).size) ?ls ?lf ⟨rfl,by have:=g.cov.le;rw [Jl] at this;lia,g⟩) ?lp)
  case lf=>
   rintro c st2 ⟨rfl,b1,g2⟩
   exact ⟨rfl,by lia,g2⟩
  case ls=>
   rintro x c st2 _ hx ⟨rfl,b1,g2⟩
   refine IV (MP ?_)
   by_cases hp1:(Jv st2).size<=1
   ·rw [if_pos hp1];exact Ja ⟨rfl,hp1,g2⟩
   rw [if_neg hp1]
   have hi:∀b:Bool,(if b=true then (Jv st2).size-2-1 else (Jv st2).size-2)+1 < (Jv st2).size:=fun b=>by
    cases b with
    | true=>rw [if_pos rfl];lia
    | false=>rw [if_neg (by simp)];lia
   refine IV (oK C hP g2 (hi _) fun st3 g3 _ b3=>?_)
   rw [if_neg (by simp)]
   exact Ja ⟨rfl,by lia,g3⟩
  case lp=>
   rintro c st2 ⟨rfl,b1,g2⟩
   refine Ja (h st2 g2.perm g2.fail ?_)
   have hz:(IY st2).size=(IY st).size:=g2.perm.size_eq
   have S:Sg key (IY st2) 0 (IY st).size:=by
    have c:=g2.cov
    have q:=g2.srt
    rw [<- Jl] at b1
    match hl:(Jv st2).toList,b1 with
    | [],_=>rw [hl] at c;have c:0=(IY st).size:=c;lia
    | [x],_=>
     rw [hl] at c q
     obtain ⟨c1,_,c3⟩:=c
     have:=q x IQ
     have c3:0+x.2.1=(IY st).size:=c3
     rwa [c1,c3] at this
    | _::_::_,b1=>simp only [JZ] at b1;lia
   rw [Lh]
   intro i j hi hj hij
   have gt:∀z (hz:z < (IY st2).toList.length),(IY st2).toList[z]=at_ (IY st2) z:=fun z hz'=>by
    have e1:=cf (a:=IY st2) (i:=z) (by rw [<- Jl];exact hz')
    rw [IL hz'] at e1
    exact Jx e1
   rw [gt i hi,gt j hj]
   rw [Jl] at hi hj
   exact S i j (Kk _) (by lia) (by lia)
 case step=>
  rintro x c st1 _ hx ⟨lo,rfl,hxl,g⟩
  have hle:=g.le
  have hsz:(IY st1).size=(IY st).size:=g.perm.size_eq
  dsimp only
  by_cases hge:lo >= (IY st).size
  ·rw [if_pos hge]
   have e:lo=(IY st).size:=by lia
   subst e;exact Ja ⟨rfl,g⟩
  rw [if_neg hge]
  have hPs:∀x∈(IY st1).toList,P x:=fun x hx=>hP x ((Array.perm_iff_toList_perm.mp g.perm).mem_iff.mp hx)
  have step:∀{st2:KF},Mv lo st1 st2->G κ key (IY st) st2 lo:=fun {st2} M=>by
   refine ⟨M.kind.trans g.kind,M.fail.trans g.fail,M.perm.trans g.perm,by rw [M.pend];exact g.cov,fun x hx=>?_,hle⟩
   rw [M.pend] at hx
   have q:=g.srt x hx
   have r:=g.cov.mem x hx
   intro i j z1 z2 z3
   rw [bh (M.pre i (by lia)),bh (M.pre j (by lia))]
   exact q i j z1 z2 z3
  refine IV (DJ C g.kind hPs (by lia) (by lia) fun n st2 M2 n1 n2 S2=>?_)
  dsimp only
  by_cases hm:n < minRun' (IY st).size (IY st).size 0
  ·rw [if_pos hm]
   refine IV (Ob (La ⟨rfl,?_⟩))
   have hz2:(IY st2).size=(IY st).size:=M2.size.trans hsz
   refine IV (DK C (M2.kind.trans g.kind) (M2.all hPs) (by rw [hz2];lia) n1 (by lia) S2 fun st3 M3 S3=>?_)
   rw [if_neg (by simp)]
   have M4:Mv lo st1 st3:=⟨M3.kind.trans M2.kind,M3.pend.trans M2.pend,M3.fail.trans M2.fail,M3.perm.trans M2.perm,fun i hi=>(M3.pre i hi).trans (M2.pre i hi)⟩
   have g4:=step M4
   have n3:1<=min ((IY st).size-lo) (minRun' (IY st).size (IY st).size 0):=by lia
   have n4:lo+min ((IY st).size-lo) (minRun' (IY st).size (IY st).size 0)<=(IY st).size:=by lia
   generalize min ((IY st).size-lo) (minRun' (IY st).size (IY st).size 0)=N at S3 n3 n4 ⊢
   refine IV (MP ?_)
   cases hb:(Jv st3).back? with
   | none=>
    dsimp only
    exact IV (Ki (Ja ⟨_,rfl,by lia,g4.push S3 n3 n4⟩))
   | some z=>
    obtain ⟨s1,l1,p1⟩:=z
    dsimp only
    refine IV (KE (JV (I:=fun _ c st5=>c=(none,())/\G κ key (IY st) st5 lo/\Sg key (IY st5) lo (lo+N)) (Q:=fun c st5=>c=(none,())/\G κ key (IY st) st5 lo/\Sg key (IY st5) lo (lo+N)) ?ms ?mf ⟨rfl,g4,S3⟩) ?mp)
    case mf=>rintro c st5 z;exact z
    case ms=>
     rintro y c st5 _ hy ⟨rfl,g5,S5⟩
     refine IV (MP ?_)
     by_cases hp2:(Jv st5).size > 1
     ·rw [if_pos hp2]
      obtain ⟨u1,u2,u3,hu⟩:∃u1 u2 u3,(Jv st5)[(Jv st5).size-2]?=some (u1,u2,u3):=⟨_,_,_,getElem?_pos _ _ (by lia)⟩
      rw [hu]
      dsimp only
      split
      ·exact Ja ⟨rfl,g5,S5⟩
      ·refine IV (oK C hP g5 (by lia) fun st6 g6 k6 _=>?_)
       rw [if_neg (by simp)]
       exact Ja ⟨rfl,g6,S5.keep k6⟩
     ·rw [if_neg hp2]
      exact Ja ⟨rfl,g5,S5⟩
    case mp=>
     rintro c st5 ⟨rfl,g5,S5⟩
     dsimp only
     exact IV (Ki (IV (Ki (Ja ⟨_,rfl,by lia,(g5.pow _ _).push S5 n3 n4⟩))))
  ·rw [if_neg hm]
   have g4:=step M2
   have n4:lo+n<=(IY st).size:=by lia
   refine IV (MP ?_)
   cases hb:(Jv st2).back? with
   | none=>
    dsimp only
    exact IV (Ki (Ja ⟨_,rfl,by lia,g4.push S2 n1 n4⟩))
   | some z=>
    obtain ⟨s1,l1,p1⟩:=z
    dsimp only
    refine IV (KE (JV (I:=fun _ c st5=>c=(none,())/\G κ key (IY st) st5 lo/\Sg key (IY st5) lo (lo+n)) (Q:=fun c st5=>c=(none,())/\G κ key (IY st) st5 lo/\Sg key (IY st5) lo (lo+n)) ?ms ?mf ⟨rfl,g4,S2⟩) ?mp)
    case mf=>rintro c st5 z;exact z
    case ms=>
     rintro y c st5 _ hy ⟨rfl,g5,S5⟩
     refine IV (MP ?_)
     by_cases hp2:(Jv st5).size > 1
     ·rw [if_pos hp2]
      obtain ⟨u1,u2,u3,hu⟩:∃u1 u2 u3,(Jv st5)[(Jv st5).size-2]?=some (u1,u2,u3):=⟨_,_,_,getElem?_pos _ _ (by lia)⟩
      rw [hu]
      dsimp only
      split
      ·exact Ja ⟨rfl,g5,S5⟩
      ·refine IV (oK C hP g5 (by lia) fun st6 g6 k6 _=>?_)
       rw [if_neg (by simp)]
       exact Ja ⟨rfl,g6,S5.keep k6⟩
     ·rw [if_neg hp2]
      exact Ja ⟨rfl,g5,S5⟩
    case mp=>
     rintro c st5 ⟨rfl,g5,S5⟩
     dsimp only
     exact IV (Ki (IV (Ki (Ja ⟨_,rfl,by lia,(g5.pow _ _).push S5 n1 n4⟩))))
end
end Tim
end
section
namespace Tim
open PySem PyProof.Rows L2
section
variable {prog:Jp} {w:JQ} {A:JY} {E:IP->IM->Prop} {s:IM} {κ:MC} {O:NX} {key:Jo->O.α} {P:Jo->Prop}
def bN (h:Heap) (a:Addr) (vs:List IP):Heap:=((h.update a (KH fun _=>#[])).push (MK "tuple" vs.toArray 0)).push (MK "list" #[] 0)
theorem yU {h:Heap} {a b:Addr} {vs:List IP} {o:Obj} (hb:b≠a) (e:h.get? b=some o):(bN h a vs).get? b=some o:=
 IN _ (IN _ (((Km h a _).2 b hb).trans e))
theorem uK (vs:List IP):(vs.toArray.zip vs.toArray).toList=vs.map fun v=>(v,v):=by
 apply List.ext_getElem <;> simp
theorem uL {a:Addr} {vs:List IP} {n:Nat} {R:PySem.Fin->IM->Prop} (ho:s.heap.get? a=some (MK "list" vs.toArray n)) (h2:2<=vs.length) (hz:vs.length<=JA)
  (hk:∀Q':MC->IM->Prop,Q' κ { s with heap:=bN s.heap a vs }->JB (JD prog w) A (keyKind' vs.toArray) Q' E { s with heap:=bN s.heap a vs })
  (C:hW prog w A { s with heap:=bN s.heap a vs } κ O key P) (hP:∀v∈vs,P (v,v))
  (h:∀out:List IP,out.Perm vs->out.Pairwise (fun x y=>O.kle (key (x,x)) (key (y,y)))->R (.done (.ret .none)) { s with heap:=sortedHeap s.heap a vs out.toArray }) :
  JB (JD prog w) A (Builtin.«list.sort» ⟨[.ref a],[]⟩) R E s:=by
 have many:¬ vs.toArray.size < 2:=by rw [Jb];lia
 obtain ⟨e,he⟩:∃e,(s.heap.update a (KH fun _=>#[])).get? a=some (MK "list" #[] e):=⟨_,get?_update_seq ho (fun _=>#[])⟩
 rw [list_sort_plain]
 refine II (listItems_at ho rfl (II (N9 ho rfl (II (O8 he rfl (II (O3 (II (Oa (J5 ?_))) (hsz:=hz))))) (by rw [Jb];lia))))
 have he2:(bN s.heap a vs).get? a=some (MK "list" #[] e):=IN _ (IN _ he)
 dsimp only
 rw [if_neg many,if_neg many]
 refine II (hk _ ?_)
 have hl0:(IY (PR κ (vs.toArray.zip vs.toArray) #[] 7 none)).toList=vs.map fun v=>(v,v):=uK vs
 refine II (J9 (yT (E:=E) C (st:=PR κ (vs.toArray.zip vs.toArray) #[] 7 none) (Q:=fun _ st'=>(IY st').toList.Perm (vs.map fun v=>(v,v))/\LC st'=none/\(IY st').toList.Pairwise (kl key))
  (fun x hx=>?_) rfl rfl rfl ?_ fun st' q1 q2 q3=>⟨?_,q2,q3⟩) ?_ fun _ _ z=>z)
 ·rw [hl0] at hx
  obtain ⟨v,hv,rfl⟩:=List.mem_map.mp hx
  exact hP v hv
 ·rw [<- Jl,hl0,IR];lia
 ·rw [<- hl0];exact Array.perm_iff_toList_perm.mp q1
 rintro ⟨⟨⟩,st'⟩ s' ⟨rfl,pm,hf,pw⟩
 dsimp only
 have same:∀x∈(IY st').toList,x=(x.2,x.2):=fun x hx=>by
  obtain ⟨v,_,rfl⟩:=List.mem_map.mp (pm.mem_iff.mp hx);rfl
 have eo:(IY st').map (·.2)=((IY st').toList.map (·.2)).toArray:=by apply Array.ext' ; simp
 have p2:((IY st').toList.map (·.2)).Perm vs:=by have:=pm.map (·.2);rw [Jt] at this;simpa [NW] using this
 have w2:((IY st').toList.map (·.2)).Pairwise (fun x y=>O.kle (key (x,x)) (key (y,y))):=by
  rw [KZ]
  refine Kt (fun {x y} hx hy q=>?_) pw
  have q:O.kle (key x) (key y):=q
  rw [same x hx,same y hy] at q
  exact q
 refine II (O8 he2 rfl (II (N9 he2 rfl ?_ (hsz2:=by rw [eo,Jb,p2.length_eq];lia))))
 rw [eo,hf]
 simp only [bne_self_eq_false,Jk,if_false]
 exact IK (h _ p2 w2)
def cE (h:Heap) (vs:List IP):Heap:=((h.push (MK "list" #[] 0)).update h.objs.size (KH (·++vs.toArray))).push (MK "list" vs.toArray 0)
theorem pre_size (h:Heap) (vs:List IP):((h.push (MK "list" #[] 0)).update h.objs.size (KH (·++vs.toArray))).objs.size=h.objs.size+1:=by rw [Heap.size_update,size_push']
theorem qq {h:Heap} {b:Addr} {vs:List IP} {o:Obj} (e:h.get? b=some o):(bN (cE h vs) (h.objs.size+1) vs).get? b=some o:=by
 have hb:b < h.objs.size:=Jg e
 refine yU (JG (PZ hb)) (IN _ (((Km _ _ _).2 b (JG hb)).trans (IN _ e)))
theorem oM {l:Addr} {vs:List IP} {Q:IP->IM->Prop} (hl:s.heap.IsList l vs.toArray) (h2:2<=vs.length) (hz:vs.length<=JA)
  (hk:∀Q':MC->IM->Prop,Q' κ { s with heap:=bN (cE s.heap vs) (s.heap.objs.size+1) vs }->JB (JD prog w) A.in1.in1 (keyKind' vs.toArray) Q' E { s with heap:=bN (cE s.heap vs) (s.heap.objs.size+1) vs })
  (C:hW prog w A.in1.in1 { s with heap:=bN (cE s.heap vs) (s.heap.objs.size+1) vs } κ O key P) (hP:∀v∈vs,P (v,v))
  (h:∀out:List IP,out.Perm vs->out.Pairwise (fun x y=>O.kle (key (x,x)) (key (y,y)))->Q (.ref (s.heap.objs.size+1)) { s with heap:=sortedAll s.heap vs out.toArray }) :
  JB (JD prog w) A (call (.builtin "sorted") [.ref l]) Q E s:=by
 have z1:=pre_size s.heap vs
 have z2:(cE s.heap vs).get? (s.heap.objs.size+1)=some (MK "list" vs.toArray 0):=z1▸Je _ rfl
 have col:=fun R r=>collect_list (prog:=prog) (w:=w) (A:=A.in1) (E:=E) (Q:=R) hl r hz
 refine NG kind_sorted plain_sorted entry_sorted (args_sorted1 _) (II (m:=checkCount "sorted" 1 1 _) (IK (II (m:=collect (.ref l)) (col _ (II (Oa ?_ (hsz:=hz)))))))
 dsimp only
 rw [z1]
 refine II (J5 (J8 slot_list_sort ⟨_,z2,rfl⟩ entry_list_sort (uL (κ:=κ) (O:=O) (key:=key) (P:=P) z2 h2 hz hk C hP fun out p q=>⟨_,rfl,IK ⟨_,rfl,h out p q⟩⟩) (args_list_sort _)))
def dec (h:Heap):IP->List Int
 | .ref p=>match h.get? p with
  | some o=>match o.data with
   | .seq xs _=>xs.toList.map numOf
   | _=>[]
  | none=>[]
 | _=>[]
def IsT (h:Heap) (v:IP) (ns:List Int):Prop:=∃p its,v=.ref p/\IsTup h p (List.toArray its)/\Vals (ns.map V.int) its
theorem kK:∀{ns:List Int} {its:List IP},Vals (ns.map V.int) its->its.map numOf=ns
 | [],its,h=>by have h:Vals [] its:=h;cases h;rfl
 | n::ns,its,h=>by
  have h:Vals (V.int n::ns.map V.int) its:=h
  cases h with
  | cons a b=>obtain ⟨t,rfl⟩:=a;rw [Jd,kK b];rfl
theorem IsT.dec {h:Heap} {v:IP} (q:IsT h v ns):dec h v=ns:=by
 obtain ⟨p,its,rfl,⟨o,ho,_,n,hd⟩,r⟩:=q
 unfold Tim.dec
 dsimp only
 rw [ho]
 dsimp only
 rw [hd]
 dsimp only
 exact kK r
theorem rP {h:Heap}:hW prog w A { s with heap:=h } (tuples' true) lexOrd (fun x=>dec h x.1) (fun x=>∃ns,IsT h x.1 ns):=by
 intro x y C hx hy q
 obtain ⟨ns,hx⟩:=hx
 obtain ⟨ms,hy⟩:=hy
 have q:C (HT.lexLt (dec h x.1) (dec h y.1)) { s with heap:=h }:=q
 rw [hx.dec,hy.dec] at q
 obtain ⟨p,us,ex,⟨o,ho,_,n,hd⟩,r⟩:=hx
 obtain ⟨p',vs,ey,⟨o',ho',_,n',hd'⟩,r'⟩:=hy
 rw [ex,ey]
 exact PySem.W.kat_lt (s:={ s with heap:=h }) ho hd ho' hd' (xW ns ms 0 r r' (by simp) q)
end
end Tim
namespace L2
open PySem PySem.Spec PyProof.Rows
def uM (K:IJ):List V->Hp->VK->Prop:=fun xs H Q=>∃(l:Addr) (ps:List Addr) (mss:List (List Int)),xs=[.ref l]/\SqL K H l (ps.map V.ref)/\ja K H ps mss/\(∀ms∈mss,ms≠[]) /\
 ∀(D:Addr) (ps':List Addr),H D=none->ja K H ps' (srt mss)->Q (.ref D) (upd H D (.lst (ps'.map V.ref)))
def adr:IP->Addr
 | .ref a=>a
 | _=>0
theorem qr (f:Addr->List Int):∀{ps:List Addr},(∀p∈ps,SqT K H p ((f p).map V.int))->ja K H ps (ps.map f)
 | [],_=>.nil
 | p::ps,h=>.cons (h p IQ) (qr f fun q hq=>h q (IZ _ hq))
theorem kL (f:Addr->List Int):∀{ps:List Addr} {mss:List (List Int)},ja K H ps mss->(∀p ms,SqT K H p (ms.map V.int)->f p=ms)->ps.map f=mss/\∀p∈ps,SqT K H p ((f p).map V.int)
 | _,_,.nil,_=>⟨rfl,fun _ h=>nomatch h⟩
 | _,_,.cons h t,hf=>by
  obtain ⟨e,q⟩:=kL f t hf
  refine ⟨by rw [Jd,e,hf _ _ h],fun p hp=>?_⟩
  rcases List.mem_cons.mp hp with rfl | hp
  ·rw [hf _ _ h];exact h
  ·exact q p hp
theorem oN {X:Cx}:b7 X (.builtin "sorted") (uM X.K):=by
 intro pins s U H xs us Q I r h
 obtain ⟨l,ps,mss,rfl,hl,ht,hne,q⟩:=h
 obtain ⟨u,rfl,rx⟩:=vals1 r
 cases rx
 obtain ⟨vs,rv,pl,hz⟩:=I.list hl
 have hlen:ps.length=mss.length:=Kw ht
 have evs:=gW rv
 subst evs
 rw [IR] at hz
 by_cases h2:ps.length < 2
 ·refine oi pl.isList (by simpa using h2) ?_
  obtain ⟨e,he⟩:=sortedAll_at s.heap (ps.map Jz) (ps.map Jz).toArray
  have es:srt mss=mss:=(lr (O4 _) (by
   match mss,hlen with
   | [],_=>exact NV
   | [_],_=>simp
   | _::_::_,hl=>simp at hl;lia)).symm
  exact ⟨.ref (s.heap.objs.size+1),_,I.laid (t':=s.toks) (o:=.lst (ps.map V.ref)) (fun b o e=>sortedAll_old e) (Mt _) ⟨by rw [IR];exact hz,_,e,rv,he⟩,rfl,q _ ps (I.hok.fresh (Mt _)) (by rw [es];exact ht)⟩
 ·have isT:∀p ms,SqT X.K H p (ms.map V.int)->Tim.IsT (Tim.bN (Tim.cE s.heap (ps.map Jz)) (s.heap.objs.size+1) (ps.map Jz)) (.ref p) ms:=fun p ms hp=>by
   obtain ⟨its,r1,⟨o,ho,hc,n,hd⟩,_⟩:=I.tuple hp
   exact ⟨p,its,rfl,⟨o,Tim.qq ho,hc,n,hd⟩,r1⟩
  have isT0:∀p ms,SqT X.K H p (ms.map V.int)->Tim.IsT s.heap (.ref p) ms:=fun p ms hp=>by
   obtain ⟨its,r1,t1,_⟩:=I.tuple hp
   exact ⟨p,its,rfl,t1,r1⟩
  obtain ⟨em,each⟩:=kL (fun p=>Tim.dec s.heap (.ref p)) ht fun p ms hp=>(isT0 p ms hp).dec
  have dd:∀p∈ps,Tim.dec (Tim.bN (Tim.cE s.heap (ps.map Jz)) (s.heap.objs.size+1) (ps.map Jz)) (.ref p)=Tim.dec s.heap (.ref p):=fun p hp=>(isT p _ (each p hp)).dec
  obtain ⟨fs,k1,k2,k3⟩:=om (h:=Tim.bN (Tim.cE s.heap (ps.map Jz)) (s.heap.objs.size+1) (ps.map Jz)) (fun a xs hx=>let ⟨its,r1,⟨o,ho,hc,n,hd⟩,_⟩:=I.tuple hx;⟨its,r1,⟨o,Tim.qq ho,hc,n,hd⟩⟩) ht hne
  refine Tim.oM (κ:=tuples' true) (O:=lexOrd) (key:=fun x=>Tim.dec (Tim.bN (Tim.cE s.heap (ps.map Jz)) (s.heap.objs.size+1) (ps.map Jz)) x.1)
   (P:=fun x=>∃ns,Tim.IsT (Tim.bN (Tim.cE s.heap (ps.map Jz)) (s.heap.objs.size+1) (ps.map Jz)) x.1 ns) pl.isList (by simp;lia) (by simpa using hz) (fun Q' hq=>?_) Tim.rP (fun v hv=>?_) fun out pm pw=>?_
  ·refine PySem.W.kat_kind (T:=.type "int") k1 (by lia) (fun v hv=>?_) rfl ?_
   ·obtain ⟨i,t,rfl⟩:=k3 v hv
    exact PySem.W.Looks.of_pure rfl
   ·rw [show ((PF "int") != PF "tuple")=true by decide +kernel]
    exact hq
  ·obtain ⟨p,hp,rfl⟩:=List.mem_map.mp hv
   exact ⟨_,isT p _ (each p hp)⟩
  ·have pa:(out.map adr).Perm ps:=by
    have:=pm.map adr
    rw [Jt] at this
    simpa [adr,NW] using this
   have eo:out=(out.map adr).map Jz:=by
    rw [Jt]
    conv=>lhs;rw [<- List.map_id out]
    refine JL fun v hv=>?_
    obtain ⟨p,_,rfl⟩:=List.mem_map.mp (pm.mem_iff.mp hv)
    rfl
   have hin:∀p∈out.map adr,p∈ps:=fun p hp=>pa.mem_iff.mp hp
   have es:(out.map adr).map (fun p=>Tim.dec s.heap (.ref p))=srt mss:=by
    refine lr ?_ ?_
    ·rw [<- em];exact pa.map _
    ·rw [KZ,KZ]
     refine Kt (fun {x y} hx hy z=>?_) pw
     obtain ⟨p,hp,rfl⟩:=List.mem_map.mp (pm.mem_iff.mp hx)
     obtain ⟨p',hp',rfl⟩:=List.mem_map.mp (pm.mem_iff.mp hy)
     have z:HT.lexLt (Tim.dec _ (.ref p')) (Tim.dec _ (.ref p))=false:=z
     rw [dd p hp,dd p' hp'] at z
     show lexLe (Tim.dec s.heap (.ref p)) (Tim.dec s.heap (.ref p'))=true
     unfold lexLe
     rw [z];rfl
   obtain ⟨e,he⟩:=sortedAll_at s.heap (ps.map Jz) out.toArray
   rw [eo] at he
   refine ⟨.ref (s.heap.objs.size+1),upd H (s.heap.objs.size+1) (.lst ((out.map adr).map V.ref)),I.laid (t':=s.toks) (o:=.lst ((out.map adr).map V.ref)) (fun b o e=>sortedAll_old e) (Mt _) ⟨by rw [IR,pa.length_eq];exact hz,_,e,kr _,?_⟩,rfl,q _ _ (I.hok.fresh (Mt _)) ?_⟩
   ·rw [<- eo] at he ⊢;exact he
   ·rw [<- es];exact qr _ fun p hp=>each p (hin p hp)
end L2
end
section
namespace L2
open PySem PySem.Spec PyProof.Rows
section
variable {prog:Jp} {w:JQ} {A:JY} {E:IP->IM->Prop} {s:IM}
theorem jB:KU "dict_itemiterator"=true:=by decide
theorem gE {it:Addr} {Q:Nat->IM->Prop} (ty:s.TypeIs (.ref it) "dict_itemiterator") (h:Q 2 s) :
  JB (JD prog w) A (typeNameOfWhole (.ref it) >>= fun n=>pure (if KU n=true then 2 else 0)) Q E s:=
 II (wpAny_typeNameOfWhole_itemiter ty (IK (by rw [jB];exact h)))
theorem uN {it d:Addr} {i n ep:Nat} {ok ov k v:IP} {Q:IP->IM->Prop} (hit:Mx s.heap it d i n ep ok ov)
  (hQ:∀h',IsItemIterOut h' it d i n ep k v s.heap.objs.size->h'.get? s.heap.objs.size=some { cls:=.type "tuple",data:=.seq #[k,v] }->h'.objs.size=s.heap.objs.size+1->(∀b u,b≠it->s.heap.get? b=some u->h'.get? b=some u)->Q (.ref s.heap.objs.size) { s with heap:=h' }) :
  JB (JD prog w) A (Builtin.Dict_items.pairFromOwner (.ref it) 6 k v) Q E s:=by
 have hb:it≠s.heap.objs.size:=JG (Jg hit)
 refine II (O3 ?_)
 have e0:Mx (s.heap.push { cls:=.type "tuple",data:=.seq #[k,v] }) it d i n ep ok ov:=IN _ hit
 have t0:(s.heap.push { cls:=.type "tuple",data:=.seq #[k,v] }).get? s.heap.objs.size=some { cls:=.type "tuple",data:=.seq #[k,v] }:=Je _ rfl
 have z0:(s.heap.push { cls:=.type "tuple",data:=.seq #[k,v] }).objs.size=s.heap.objs.size+1:=MB ..
 have q0:∀b u,s.heap.get? b=some u->(s.heap.push { cls:=.type "tuple",data:=.seq #[k,v] }).get? b=some u:=fun b u e=>IN _ e
 refine II (II (Mq e0 rfl (x:=.none) rfl (IK ?_)))
 rw [if_pos rfl]
 refine II (Mq e0 rfl (x:=ok) rfl (II (Mq e0 rfl (x:=ov) rfl (II (Lc e0 (k:=6) (by simp) fun g1 e1 b1=>?_)))))
 refine II (Lc e1 (k:=7) (by simp) fun g2 e2 b2=>II (Lc e2 (k:=0) (by simp) fun g3 e3 b3=>II (Lc e3 (k:=1) (by simp) fun g4 e4 b4=>II (wpAny_letGo (IK ?_)))))
 have all:∀b u,b≠it->(s.heap.push { cls:=.type "tuple",data:=.seq #[k,v] }).get? b=some u->g4.get? b=some u:=fun b u hn e=>(b4.2 b hn).trans ((b3.2 b hn).trans ((b2.2 b hn).trans ((b1.2 b hn).trans e)))
 exact hQ g4 e4 (all _ _ hb.symm t0) (b4.1.trans (b3.1.trans (b2.1.trans (b1.1.trans z0)))) fun b u hn e=>all b u hn (q0 b u e)
theorem uO {it d:Addr} {i ep:Nat} {o:Obj} {es:Array Ll} {ok ov:IP} {Q:Option IP->IM->Prop} (hit:Mx s.heap it d i es.size ep ok ov) (ho:s.heap.get? d=some o) (hd:o.data=.dict es ep) (hi:i < es.size)
  (hQ:∀h',IsItemIterOut h' it d (i+1) es.size ep es[i].key es[i].val s.heap.objs.size->h'.get? s.heap.objs.size=some { cls:=.type "tuple",data:=.seq #[es[i].key,es[i].val] }->h'.objs.size=s.heap.objs.size+1->(∀b u,b≠it->s.heap.get? b=some u->h'.get? b=some u) ->
   Q (some (.ref s.heap.objs.size)) { s with heap:=h' }):JB (JD prog w) A (Of (.ref it)) Q E s:=by
 have ty:s.TypeIs (.ref it) "dict_itemiterator":=⟨_,hit,rfl⟩
 unfold Of
 refine II (MZ (KS (name:=Nt "__next__") ty F.slot_dict_itemiterator_next (J8 F.slot_dict_itemiterator_next ty F.entry_dict_itemiterator_next ?_ (F.args_dict_itemiterator_next_1 _))))
 refine II (IK (II (II (gE ty (II (NK hit rfl ?_))))))
 show JB _ _ (if (Jz d==JR)=true then _ else _) _ _ s
 rw [if_neg (fun z:(Jz d==JR)=true=>IT z)]
 refine II (IK (II (K0 ho hd ?_)))
 rw [if_neg (by simp)]
 refine II (IK (II (LH ho hd ?_)))
 rw [if_neg (by simp)]
 refine IK ?_
 have hx:(if ((i:Nat):Int) < 0 then none else es[((i:Nat):Int).toNat]?)=some es[i]:=by rw [if_neg (by lia),Lp];exact Jw hi
 dsimp only
 rw [hx]
 refine II (gE ty (II (Mm ty (II (Lc hit (k:=3) (by simp) fun g e b=>?_)))))
 have e':Mx g it d (i+1) es.size ep ok ov:=by
  have z:((i+1:Nat):Int)=(i:Int)+1:=by lia
  unfold Mx;rw [z];exact e
 have ty':Shared.TypeIs { s with heap:=g } (.ref it) "dict_itemiterator":=⟨_,e',rfl⟩
 refine II (J5 (II (Mm ty' (II (Mm ty' (uN (s:={ s with heap:=g }) e' fun h' a1 a2 a3 a4=>?_))))))
 have gz:g.objs.size=s.heap.objs.size:=b.1
 rw [show ({ s with heap:=g }:IM).heap.objs.size=s.heap.objs.size from gz] at a1 a2 a3 ⊢
 exact IK ⟨_,rfl,IK (hQ h' a1 a2 a3 fun c u hn z=>a4 c u hn ((b.2 c hn).trans z))⟩
theorem yV {it d:Addr} {i ep:Nat} {o:Obj} {es:Array Ll} {ok ov:IP} {Q:Option IP->IM->Prop} (hh:A.handled=none) (hit:Mx s.heap it d i es.size ep ok ov) (ho:s.heap.get? d=some o) (hd:o.data=.dict es ep) (hi:es.size<=i)
  (hQ:∀h',Heap.ExtBut it s.heap h'->Q none { s with heap:=h' }):JB (JD prog w) A (Of (.ref it)) Q E s:=by
 have ty:s.TypeIs (.ref it) "dict_itemiterator":=⟨_,hit,rfl⟩
 unfold Of
 refine II (MZ (KS (name:=Nt "__next__") ty F.slot_dict_itemiterator_next (J8 F.slot_dict_itemiterator_next ty F.entry_dict_itemiterator_next ?_ (F.args_dict_itemiterator_next_1 _))))
 refine II (IK (II (II (gE ty (II (NK hit rfl ?_))))))
 show JB _ _ (if (Jz d==JR)=true then _ else _) _ _ s
 rw [if_neg (fun z:(Jz d==JR)=true=>IT z)]
 refine II (IK (II (K0 ho hd ?_)))
 rw [if_neg (by simp)]
 refine II (IK (II (LH ho hd ?_)))
 rw [if_neg (by simp)]
 refine IK ?_
 have hx:(if ((i:Nat):Int) < 0 then none else es[((i:Nat):Int).toNat]?)=none:=by rw [if_neg (by lia),Lp];exact K7 hi
 dsimp only
 rw [hx]
 refine II (gE ty (II (wpAny_setField hit rfl (by simp) ?_)))
 unfold newExc newTuple
 refine II (II (JX (II (m:=NL _ _) (wpAny_of_eq (a:=JR) (by first | rfl | (simp only [NL];rfl)) (JX (Pf (show A.in1.handled=none from hh) ?_) (by size_fits)))) (by size_fits)))
 refine II (Oj (b:=true) (T:="StopIteration") ⟨_,Je _ rfl,rfl⟩ isSubtype_stop (IK (hQ _ ?_)))
 intro b u hn e
 exact IN _ (IN _ (((Km ..).2 b hn).trans e))
end
end L2
end
section
namespace L2
open PySem PySem.Spec PyProof.Rows
theorem jC:entryFor table "dict_itemiterator.__iter__"=some Builtin.«dict_keyiterator.__iter__»:=
 entryFor_alias (id':="dict_keyiterator.__iter__") (by kernel_rfl) rfl (by decide +kernel) (by kernel_rfl)
section
variable {prog:Jp} {w:JQ} {A:JY} {E:IP->IM->Prop} {s:IM}
theorem uP {d:Addr} {Q:IP->IM->Prop} (ty:s.TypeIs (.ref d) "dict") (hd:(d==KW)=false)
  (h:Q (.ref s.heap.objs.size) { s with heap:=s.heap.push { cls:=.type "dict_items",data:=.fields #[.ref d] } }):JB (JD prog w) A (call (.builtin "dict.items") [.ref d]) Q E s:=by
 refine J8 F.slot_dict_items ty F.entry_dict_items (II (II (ML ty (IK ?_)))) (F.args_dict_items_1 _)
 refine II (m:=LI d) ?_
 unfold LI
 rw [if_neg (by rw [hd];exact IT)]
 exact IK (II (JX (IK ⟨_,rfl,h⟩)))
theorem uQ {v d:Addr} {o:Obj} {es:Array Ll} {ep:Nat} {Q:IP->IM->Prop} (hv:s.heap.IsItemsView v d) (ho:s.heap.get? d=some o) (hd:o.data=.dict es ep)
  (h:Q (.ref s.heap.objs.size) { s with heap:=s.heap.push { cls:=.type "dict_itemiterator",data:=.fields #[.none,.bool false,.ref d,.int 0 0,.int es.size 0,.int ep 0,.none,.none] } }):JB (JD prog w) A (Qu (.ref v)) Q E s:=by
 obtain ⟨ov,g1,g2,g3⟩:=id hv
 refine NZ hv.typeIs F.slot_dict_items_iter (J8 F.slot_dict_items_iter hv.typeIs F.entry_dict_items_iter (II (IK (II (II (Mq g1 g3 (x:=.ref d) rfl (IK (II (II (K0 ho hd (II (LH ho hd ?_))))))))))) (F.args_dict_items_iter_1 _))
 simp only [jB,if_true]
 refine JX (IK ⟨_,rfl,"dict_itemiterator",_,⟨_,Je _ rfl,rfl⟩,F.slot_dict_itemiterator_next.lookup,?_⟩) (by simp only [sizeOk,L4,Jb,Ji,JZ,Mh,J7];lia)
 simpa [rawInt,L4] using h
theorem uR {it d:Addr} {i n ep:Nat} {ok ov:IP} {Q:IP->IM->Prop} (hit:Mx s.heap it d i n ep ok ov) (h:Q (.ref it) s):JB (JD prog w) A (Qu (.ref it)) Q E s:=
 have ty:s.TypeIs (.ref it) "dict_itemiterator":=⟨_,hit,rfl⟩
 NZ ty F.slot_dict_itemiterator_iter (J8 F.slot_dict_itemiterator_iter ty jC (show JB _ _ (ret (.ref it)) _ _ s from IK ⟨_,rfl,"dict_itemiterator",_,ty,F.slot_dict_itemiterator_next.lookup,h⟩) (F.args_dict_itemiterator_iter_1 _))
end
def Iti (d:Addr) (ob:Obj) (es:List (List Int×Addr×V)):It:=
 ⟨fun i H=>H d=some (bK d ob es)/\i < es.length,fun i H x H'=>∃p e,es[i]?=some e/\H p=none/\x=.ref p/\H'=upd H p (.tup [.ref e.2.1,e.2.2]),fun i H=>H d=some (bK d ob es)/\es.length<=i⟩
theorem EV.pick {xs:List (List Int×Addr×IP)} (r:EV es xs):∀{i:Nat} {e:List Int×Addr×V},es[i]?=some e->∃x,xs[i]?=some x/\e.2.1=x.2.1/\RelV e.2.2 x.2.2:=by
 induction r with
 | nil=>intro i e h;simp at h
 | @cons p q ps qs h t ih=>
  intro i e he
  cases i with
  | zero=>simp at he;subst he;exact ⟨q,rfl,h.2.1,h.2.2⟩
  | succ i=>simpa using ih (by simpa using he)
theorem oO {P:Jp} {w:JQ} {elts:List Expr} {x1} {tp:Pos} (it d:Addr) (ob:Obj) (es:List (List Int×Addr×V)) (ds:Array Ll) (ep:Nat) (hob:ob.data=.dict ds ep) :
  Turn P w K (.Tuple elts x1 tp) (Iti d ob es) [it] it (fun i h=>∃ok ov,Mx h it d i ds.size ep ok ov) where
 mem:=by simp
 obj:=fun i h zq1 b hb=>by
  obtain ⟨ok,ov,st⟩:=zq1
  have e:b=it:=by simpa using hb
  subst e
  exact ⟨_,st,fun v z=>by
   have z':N6 _=M9 v:=z
   cases z'⟩
 keep:=fun i h h' zt1 k=>by obtain ⟨ok,ov,st⟩:=zt1;exact ⟨ok,ov,k it (by simp) _ st⟩
 item:=by
  rintro X hP hw hK hc i pins s U H E I hf ⟨ok,ov,st⟩ ⟨hd,hi⟩
  subst hP hw hK
  obtain ⟨f0,f1,f2,f3,f4,f5⟩:=hf it (by simp)
  obtain ⟨⟨z,m,nd,xs,ev,o,ds',ep',g1,g2,g3,g4⟩,g5⟩:=dQ I hd
  rw [g5] at g1;cases g1
  rw [hob] at g3;cases g3
  obtain ⟨e,he⟩:∃e,es[i]?=some e:=⟨_,IL hi⟩
  obtain ⟨x,hx,ek,rv⟩:=ev.pick he
  have hxl:i < xs.length:=by have:=Kw ev;lia
  have hds:ds.size=xs.length:=by have:=congrArg K4 g4;simpa using this
  have hent:ds[i]'(by lia)=tu x:=by
   have h1:ds.toList[i]?=some (tu x):=by rw [g4,Jh,hx];rfl
   rw [JI,Jw (by lia)] at h1
   exact Jx h1
  refine uO st g5 hob (by lia) fun h' a1 a2 a3 a4=>⟨_,rfl,wpAny_letOwnedTupleGo_items (s:={ s with heap:=h' }) a1 fun h2 b1 b2=>?_⟩
  have hb2:∀b u,b≠it->h'.get? b=some u->h2.get? b=some u:=fun b u hn q=>(b2.2 b hn).trans q
  have I2:Inv X pins U H { s with heap:=h2 }:=I.turned (t':=s.toks) (fun b o hb q=>hb2 b o hb (a4 b o hb q)) f0 f1 f3 f4 f5
  have np:H s.heap.objs.size=none:=I.hok.fresh (IS _)
  obtain ⟨_,p1,_,p3,p4,p5⟩:=I.fpOk (H':=H) (b:=s.heap.objs.size) (IS _) np
  have nit:s.heap.objs.size≠it:=Qb (Jg st)
  have tup:=hb2 _ _ nit a2
  rw [hent] at tup
  refine ⟨.ref s.heap.objs.size,upd H s.heap.objs.size (.tup [.ref e.2.1,e.2.2]),I2.track np I.sz p1 p4 p5 ⟨by rw [J7];exact Jn rfl,[.ref x.2.1,x.2.2],.cons (by rw [ek];rfl) (.cons rv .nil),⟨_,tup,rfl,_,rfl⟩⟩,rfl,⟨_,e,he,np,rfl,rfl⟩,⟨_,_,b1⟩,fun b hb=>?_⟩
  have e':b=it:=by simpa using hb
  subst e'
  rw [aL nit.symm];exact f0
 done:=by
  rintro X hP hw hK hc i pins s U H E I hf ⟨ok,ov,st⟩ ⟨hd,hi⟩
  subst hP hw hK
  obtain ⟨f0,f1,f2,f3,f4,f5⟩:=hf it (by simp)
  obtain ⟨⟨z,m,nd,xs,ev,o,ds',ep',g1,g2,g3,g4⟩,g5⟩:=dQ I hd
  rw [g5] at g1;cases g1
  rw [hob] at g3;cases g3
  have hds:ds.size=xs.length:=by have:=congrArg K4 g4;simpa using this
  have:=Kw ev
  exact yV (I.ok.hd hc) st g5 hob (by lia) fun h' eb=>⟨rfl,I.turned (t':=s.toks) (fun b o hb e=>eb b o hb e) f0 f1 f3 f4 f5⟩
 self:=fun _ _ _ _ _ zt1 h=>by obtain ⟨ok,ov,st⟩:=zt1;exact uR st h
section
variable {X:Cx}
def uS (to:TE):TI:=fun U H R=>to U H fun x H1=>∃d ob es,x=.ref d/\H1 d=some (bK d ob es)/\R (Iti d ob es) H1
theorem uT {o:Expr} {to:TE} {apos cpos tp:Pos} {elts:List Expr} {x1} (ho:PE X o to) (hbase:Lw o "items" X.env (eval o X.env)=eval o X.env:=by rfl)
  (hline:(apos.endLine==cpos.line)=true:=by rfl):PI X (.Tuple elts x1 tp) (.Call (.Attribute o "items" apos) [] [] cpos) (uS to):=by
 intro pins s U H R I h
 refine wpAny_Call_method0_late hbase hline (thn (ho pins s U H _ I h) fun v s1 zr1=>?_)
 obtain ⟨x,H1,I1,r1,d,ob,es,hx,hd,q1⟩:=zr1
 subst hx
 cases r1
 obtain ⟨⟨z,m,nd,xs,ev,o',ds,ep,g1,g2,g3,g4⟩,g5⟩:=dQ I1 hd
 rw [g5] at g1;cases g1
 refine ⟨"dict","dict.items",Mf,PySem.F.slot_dict_items,PySem.F.type_dict_items,⟨_,g5,g2.1⟩,fun b e=>by cases e;exact ⟨_,g5,g2.2.1⟩,?_⟩
 refine LA rfl (PySem.evalArgs_none (uP ⟨_,g5,g2.1⟩ m ?_))
 have I2:Inv X pins U H1 { s1 with heap:=s1.heap.push { cls:=.type "dict_items",data:=.fields #[.ref d] } }:=I1.kept (t':=s1.toks) fun b u q=>IN _ q
 refine uQ (s:={ s1 with heap:=s1.heap.push { cls:=.type "dict_items",data:=.fields #[.ref d] } }) ⟨_,Je _ rfl,rfl,rfl⟩ (IN _ g5) g3 ?_
 refine ⟨(s1.heap.push { cls:=.type "dict_items",data:=.fields #[.ref d] }).objs.size,[(s1.heap.push { cls:=.type "dict_items",data:=.fields #[.ref d] }).objs.size],_,_,H1,rfl,I2.kept (t':=s1.toks) fun b u q=>IN _ q,oO _ d ob es ds ep g3,⟨_,_,Je _ rfl⟩,fun b hb=>?_,q1⟩
 have e:b=(s1.heap.push { cls:=.type "dict_items",data:=.fields #[.ref d] }).objs.size:=by simpa using hb
 subst e
 exact I2.fpOk (IS _) (I2.hok.fresh (IS _))
end
end L2
namespace VL
open PySem L2
section
variable {K:IJ} {X:Cx} {e o:Expr} {te:TE} {va:VT} {pos apos tp:Pos}
def itD (kvs:List (List Int×D)):List D:=kvs.map fun x=>.tup [kT x.1,x.2]
def uU (va:VT):VTN:=fun S Q=>va S fun r S1=>∃kvs,r=.d (dc kvs)/\Q (itD kvs) S1
theorem uV {elts:List Expr} {x1} (h:VE K X false o te va) (hbase:Lw o "items" X.env (eval o X.env)=eval o X.env:=by rfl) (hline:(apos.endLine==pos.line)=true:=by rfl) :
  VI K X (.Tuple elts x1 tp) (.Call (.Attribute o "items" apos) [] [] pos) (uS te) (uU va):=⟨uT h.pe hbase hline,fun H0 Z U H S Q C k t hc=>h.snd H0 Z U H S _ _ k t fun v H1 r S1 k1 st1 rr zq1=>by
 obtain ⟨kvs,er,q⟩:=zq1
 subst er
 have rr:Rep K _ _ H1 v (.dic (kvs.map (·.1)) (kvs.map (·.2))):=rr
 cases rr with
 | @dic a ob es _ _ n f hh ek rk r=>
 refine ⟨a,ob,es,rfl,hh,hc _ (itD kvs) H1 S1 k1 st1 (fun U2 S2 H2 nm st2 i=>?_) q⟩
 obtain ⟨e1,n1⟩:=st2 a n (by rw [hh];exact fun z=>nomatch z)
 have hh2:H2 a=some (bK a ob es):=e1.trans hh
 have len:(itD kvs).length=es.length:=by have:=congrArg K4 ek;simp [itD] at this ⊢;lia
 rw [len]
 refine ⟨fun hi=>⟨hh2,hi⟩,fun x H3 zr1 hi=>?_,fun hi=>⟨hh2,by lia⟩⟩
 obtain ⟨p,en,he,hp,hx,hH⟩:=zr1
 subst hx;subst hH
 have hg:∀b,H2 b≠none->upd H2 p (.tup [.ref en.2.1,en.2.2]) b=H2 b:=aV hp
 have rk2:=(rk.stp st2).mono (N':=NM Z U2 S2) (F':=AnyF) (H':=upd H2 p (.tup [.ref en.2.1,en.2.2])) (fun b n z=>⟨n,hg b z⟩) fun _ _=>trivial
 have r2:=(r.stp st2).mono (N':=NM Z U2 S2) (F':=AnyF) (H':=upd H2 p (.tup [.ref en.2.1,en.2.2])) (fun b n z=>⟨n,hg b z⟩) fun _ _=>trivial
 obtain ⟨dk,hk1,hk2⟩:=rk2.get (i:=i) (v:=.ref en.2.1) (by rw [Jh,he];rfl)
 obtain ⟨dv,hv1,hv2⟩:=r2.get (i:=i) (v:=en.2.2) (by rw [Jh,he];rfl)
 refine ⟨hg,.tup [dk,dv],?_,.tup ?_ (.inl aJ) (.cons hk2 (.cons hv2 .nil))⟩
 ·rw [Jh,Jh] at hk1
  rw [Jh] at hv1
  unfold itD
  rw [Jh]
  cases hkv:kvs[i]? with
  | none=>rw [hkv] at hv1;cases hv1
  | some kv=>rw [hkv] at hv1 hk1;cases hv1;cases hk1;rfl
 ·exact nm p hp⟩
end
end VL
end
section
namespace L2
open PySem PySem.Spec PyProof.Rows
section
variable {prog:Jp} {w:JQ} {κ:Type} [DecidableEq κ] {knd:M5 prog w κ} {A:JY} {E:IP->IM->Prop} {s:IM}
theorem rQ {d a:Addr} {xs:List (κ×Addr×IP)} {k:κ} {dv:IP} {Q:IP->IM->Prop} (hu:knd.room A) (hkey:knd.is s.heap k a) (hm:s.heap.DictOfH knd d xs) (hz:xs.length < JA)
  (old:∀p,NH xs k=some p->Q p.2 { s with toks:=s.toks+knd.draws k })
  (new:NH xs k=none->∀h',h'.DictOfH knd d (xs++[(k,a,dv)])->L5 d s.heap h'->Q dv { s with heap:=h',toks:=s.toks+knd.draws k }) :
  JB (JD prog w) A (dictSetDefault d (.ref a) dv) Q E s:=by
 obtain ⟨o,es,ep,g1,g2,g3,g4,g5,g6⟩:=hm
 have hes:=size_of_entries g4
 refine J5 (II (knd.pyHash hu hkey (II (wpAny_dictFind_heap (s:={ s with toks:=s.toks+knd.draws k }) hu hkey g1 g3 g4 g5 g6 (fun no=>?_) fun j p hj=>?_))))
 ·have nk:=not_mem_keys_of_get no
  have stay:∀{x:κ} {b:Addr},knd.is s.heap x b->knd.is (s.heap.update d (Obj.mapDictKeys fun z=>z.push ⟨knd.hash k,.ref a,dv⟩)) x b:=fun hx=>knd.keeps hx g1 g3 (Km ..)
  refine II (La (II (wpAny_updateDictKeys (hz:=by lia) (s:={ s with toks:=s.toks+knd.draws k }) g1 g3 (IK (new (atKey_none_of_get no) _ ⟨_,_,ep+1,MG _ g1 (Obj.isFreed_of_dict (OV g3 _)),g2.mapDictKeys _,OV g3 _,?_,fun x hx=>?_,?_⟩ (Km ..))))))
  ·rw [Mw,g4,Jc];rfl
  ·rcases List.mem_append.mp hx with hx | hx
   ·exact stay (g5 x hx)
   ·cases List.mem_singleton.mp hx;exact stay hkey
  ·rw [Jc]
   exact List.nodup_append.mpr ⟨g6,by simp,fun x hx y hy z=>nk (by cases List.mem_singleton.mp hy;exact (show x=k from z)▸hx)⟩
 ·refine II (K0 (s:={ s with toks:=s.toks+knd.draws k }) g1 g3 ?_)
  rw [entry_at g4 j,hj]
  exact II (La (IK (old p (atKey_of_get g6 hj))))
end
section
variable {X:Cx}
def uW (K:IJ) (n:Int):R2:=fun x y H Q=>∃b a ms es,y=.ref b/\x=.ref a/\SqN K H b ms/\(∃ob,H a=some (bK a ob es))/\cr K H es/\es.length < JA /\
 (∀v,atE es ms=some v->Q v H)/\(atE es ms=none->∀ob,Q (.int n) (upd H a (bK a ob (es++[(ms,b,.int n)]))))
def A6 (K:IJ) (n:Int) (to ti:TE):TE:=fun U H Q=>to U H fun x H1=>(∃a es ob,x=.ref a/\H1 a=some (bK a ob es))/\ti U H1 fun y H2=>uW K n x y H2 Q
theorem uX {k:List Int} (h:atE es k=none):k∉es.map (·.1):=fun z=>by
 have e:=gu (es:=es) (k:=k)
 rw [h,decide_eq_true z] at e;cases e
theorem rR {s:IM} {x y:V} {v u:IP} {n:Int} {t:Tok} {Q:VK} (hu:X.A.units+64 < Lu) (I:Inv X pins U H s) (rx:RelV x v) (ry:RelV y u) (h:uW X.K n x y H Q) :
  JB (JD X.prog X.w) X.A (call (.builtin "dict.setdefault") [v,u,.int n t]) (EP X pins U Q) X.xe s:=by
 obtain ⟨b,a,ms,es,rfl,rfl,h1,⟨ob,h2⟩,h3,hl,q1,q2⟩:=h
 cases rx;cases ry
 obtain ⟨z,m,nd,xs,ev,dd⟩:=gq I h2 h3
 have rel:=ev.at_ ms
 refine J8 F.slot_dict_setdefault dd.typeIs F.entry_dict_setdefault ?_ (F.args_dict_setdefault_3 _ _ _)
 unfold Builtin.«dict.setdefault» Builtin.Dict.keyAndDefault
 refine II (II (ML dd.typeIs (show JB _ _ (pure (a,Jz b,some (LD n t))) _ _ s from IK ?_)))
 show JB _ _ (if (a==KW)=true then _ else (dictSetDefault a (.ref b) (.int n t) >>= _)) _ _ s
 rw [if_neg (by rw [m];exact IT)]
 refine II (rQ (LB (by lia)) (dj I h1) dd (by rw [<- Kw ev];exact hl) (fun p hp=>?_) fun hn h' dd' hs=>?_)
 ·rw [hp] at rel
  cases hv:atE es ms with
  | none=>rw [hv] at rel;exact rel.elim
  | some vv=>
   rw [hv] at rel
   exact IK ⟨_,rfl,vv,H,I.tok _,rel,q1 vv hv⟩
 ·rw [hn] at rel
  cases hv:atE es ms with
  | some vv=>rw [hv] at rel;exact rel.elim
  | none=>
   obtain ⟨qo,qd,qe,f1,f2,f3,f4,_,f6⟩:=dd'
   have ev':EV (es++[(ms,b,V.int n)]) (xs++[(ms,b,LD n t)]):=Qq ev ⟨rfl,rfl,t,rfl⟩
   refine IK ⟨_,rfl,.int n,_,I.write (x:=a) (e:=a) (by rw [h2];exact LM) (.inl rfl) (fun c o hc q=>(hs.2 c hc).trans q) ⟨qo,f1⟩ (DctP.ok ⟨?_,m,?_,_,ev',qo,qd,qe,f1,f2,f3,f4⟩ f1),⟨t,rfl⟩,q2 hv qo⟩
   ·rw [Ji];show es.length+1<=JA;lia
   ·rw [ev'.keys];exact f6
def two' (K:IJ) (x:V) (Q:VK):List V->Hp->Prop
 | [y,.int k],H=>uW K k x y H Q
 | _,_=>False
theorem yW {o ie:Expr} {to ti:TE} {n:Int} {j:Nat} {pc apos cpos:Pos} (hu:X.A.units+64 < Lu) (ho:PE X o to) (hi:PE X ie ti) (hbase:Lw o "setdefault" X.env (eval o X.env)=eval o X.env:=by rfl)
  (hfew:((K8 cpos (Jf [ie,.Constant (.int n) j pc] X.env)).all (fun x=>!x.1)&&(Po cpos (Nb [] X.env)).all (fun x=>x.1.isSome)
   && decide (([ie,.Constant (.int n) j pc]:List Expr).length+([]:List Nc).length+(if ([]:List Nc).isEmpty then 0 else 1) < 30))=true:=by rfl)
  (hline:(apos.endLine==cpos.line)=true:=by rfl) (hs:Jf [ie,.Constant (.int n) j pc] X.env=(false,eval ie X.env)::Jf [.Constant (.int n) j pc] X.env:=by rfl) (hplain:(K8 cpos (Jf [.Constant (.int n) j pc] X.env)).any (·.1)=false:=by rfl) :
  PE X (.Call (.Attribute o "setdefault" apos) [ie,.Constant (.int n) j pc] [] cpos) (A6 X.K n to ti):=by
 intro pins s U H Q I h
 refine Mj hbase hfew hline rfl (thn (ho pins s U H _ I h) fun v s1 zr1=>?_)
 obtain ⟨x,H1,I1,r1,⟨a,es,ob,hx,ha⟩,q1⟩:=zr1
 subst hx
 cases r1
 obtain ⟨_,_,_,_,_,ob,_,_,z1,z2,_⟩:=fV I1 ha
 refine ⟨"dict","dict.setdefault",Mf,PySem.F.slot_dict_setdefault,PySem.F.type_dict_setdefault,⟨_,z1,z2.1⟩,fun b e=>by cases e;exact ⟨_,z1,z2.2.1⟩,?_⟩
 have hA:=cX hi (cX (gR (i:=n)) gT rfl) hs cpos pins s1 U H1 (two' X.K (.ref a) Q) I1 q1
 rw [hs] at hA ⊢
 refine LA (by show (false||(K8 cpos (Jf [.Constant (.int n) j pc] X.env)).any (·.1))=false;rw [hplain] <;> rfl) (MR ?_)
 refine thn hA fun us s2 zr1=>?_
 obtain ⟨vs,H2,I2,r2,q2⟩:=zr1
 match vs,r2,q2 with
 | [y,.int k],r2,q2=>
  obtain ⟨u,w,rfl,ru,t,rfl⟩:=r2.two
  exact rR hu I2 (show RelV (.ref a) (.ref a) from rfl) ru q2
end
end L2
end
section
namespace L2
open PySem PySem.Spec PyProof.Rows
section
variable {X:Cx} {k1 k2 k3 e1 e2 e3 ie:Expr} {t1 t2 t3 ti:TE} {n1 n2 n3:Int} {j1 j2 j3:Nat} {p1 p2 p3 dpos pos:Pos}
def G1 (n1 n2 n3:Int) (t1 t2 t3 ti:TE):TE:=fun U H Q=>t1 U H fun v1 H1=>t2 U H1 fun v2 H2=>t3 U H2 fun v3 H3=>ti U H3 fun y H4=>(y=.int n1/\Q v1 H4)\/(y=.int n2/\Q v2 H4)\/(y=.int n3/\Q v3 H4)
theorem fN {M:QB} {A:JY} {E:IP->IM->Prop} {s:IM} {m:Sem IP} {q:Pos} {Q:IP->IM->Prop} (h:JB M A m Q E s):JB M A (do let x <- m;Mp q;pure x) Q E s:=
 II (J9 h (fun _ _ z=>II (KR (IK z))) fun _ _ z=>z)
theorem DL (hd:n1≠n2/\n1≠n3/\n2≠n3) (h1:PE X e1 t1) (h2:PE X e2 t2) (h3:PE X e3 t3) (hi:PE X ie ti) (hs:cY ie) :
  PE X (.Subscript (.Dict [some (.Constant (.int n1) j1 p1),some (.Constant (.int n2) j2 p2),some (.Constant (.int n3) j3 p3)] [e1,e2,e3] dpos) ie pos) (G1 n1 n2 n3 t1 t2 t3 ti):=by
 intro pins s U H Q I h
 have hb:KW < s.heap.objs.size:=lI I
 have np:H s.heap.objs.size=none:=I.hok.fresh (IS _)
 have I0:Inv X pins U H { s with heap:=s.heap.push { cls:=.type "dict",data:=.dict #[] } }:=I.kept (t':=s.toks) fun b u q=>IN _ q
 obtain ⟨_,f1,f2,f3,f4,f5⟩:=I.fpOk (H':=H) (b:=s.heap.objs.size) (IS _) np
 have pin0:∀(ob:Obj),(∀v,ob.data≠.cell v)->∀{s':IM} {H':Hp},Inv X pins U H' s'->s'.heap.get? s.heap.objs.size=some ob->H' s.heap.objs.size=none->Inv X (pins++[(s.heap.objs.size,ob)]) U H' s':=fun ob oc s' H' I' g gn=>I'.pins_of fun p hp=>by
  rcases List.mem_append.mp hp with hp | hp
  ·exact I'.pin p (IU _ hp)
  ·cases List.mem_singleton.mp hp
   exact ⟨g,gn,f1,f2,oc⟩
 have I1:=pin0 { cls:=.type "dict",data:=.dict #[] } (fun v z=>by cases z) I0 (Je _ rfl) np
 refine Qw (wpAny_Dict_pairs (knd:=LF X.prog X.w) (pairs:=[(eval (.Constant (.int n1) j1 p1) X.env,do let x <- eval e1 X.env;Mp dpos;pure x),(eval (.Constant (.int n2) j2 p2) X.env,do let x <- eval e2 X.env;Mp dpos;pure x),(eval (.Constant (.int n3) j3 p3) X.env,do let x <- eval e3 X.env;Mp dpos;pure x)]) rfl (by simp) (by simp) ?_)
 refine O5 (thn (gR _ _ U H (fun v H'=>v=.int n1/\H'=H) I1 ⟨rfl,rfl⟩) fun a1 s1 ⟨w1,K1,I2,r1,hw1,hK1⟩=>fN (thn (h1 _ s1 U H _ (hK1▸I2) h) fun b1 s2 zr1=>?_))
 obtain ⟨v1,H1,I3,rv1,q1⟩:=zr1
 refine O5 (thn (gR _ _ U H1 (fun v H'=>v=.int n2/\H'=H1) I3 ⟨rfl,rfl⟩) fun a2 s3 ⟨w2,K2,I4,r2,hw2,hK2⟩=>fN (thn (h2 _ s3 U H1 _ (hK2▸I4) q1) fun b2 s4 zr1=>?_))
 obtain ⟨v2,H2,I5,rv2,q2⟩:=zr1
 refine O5 (thn (gR _ _ U H2 (fun v H'=>v=.int n3/\H'=H2) I5 ⟨rfl,rfl⟩) fun a3 s5 ⟨w3,K3,I6,r3,hw3,hK3⟩=>fN (thn (h3 _ s5 U H2 _ (hK3▸I6) q2) fun b3 s6 ⟨v3,H3,I7,rv3,q3⟩=>evalPairs_nil ?_))
 subst hw1;subst hw2;subst hw3
 obtain ⟨u1,rfl⟩:=r1
 obtain ⟨u2,rfl⟩:=r2
 obtain ⟨u3,rfl⟩:=r3
 obtain ⟨g7,gn7,_⟩:=I7.pin (s.heap.objs.size,_) (IU _ (IU _ IQ))
 refine ⟨[(n1,b1),(n2,b2),(n3,b3)],⟨OQ _ _ _ _,rfl,OQ _ _ _ _,rfl,OQ _ _ _ _,rfl,trivial⟩,⟨_,#[],0,g7,⟨rfl,rfl,rfl⟩,rfl,fun e he=>by simp at he,.nil,Lz⟩,fun h' D sb=>?_⟩
 have em:merged [] [(n1,b1),(n2,b2),(n3,b3)]=[(n1,b1),(n2,b2),(n3,b3)]:=by
  obtain ⟨d1,d2,d3⟩:=hd
  simp [merged,stored,d1,d2,d3]
 rw [em] at D
 have I8:Inv X pins U H3 s6:=I7.unpinned
 have I9:Inv X pins U H3 { s6 with heap:=h',toks:=s6.toks+[(LD n1 u1,b1),(LD n2 u2,b2),(LD n3 u3,b3)].length }:=I8.turned (fun b o hn e=>(sb.2 b hn).trans e) gn7 f1 f3 f4 f5
 obtain ⟨ob,es,ep,go,gx,gd,gk,gp,gnn⟩:=id D
 have I10:=pin0 ob (fun v z=>by rw [gd] at z;cases z) I9 go gn7
 refine thn (hi _ _ U H3 _ I10 q3) fun iv s7 zr1=>?_
 obtain ⟨y,H4,I11,ry,q4⟩:=zr1
 obtain ⟨g11,_⟩:=I11.pin (s.heap.objs.size,ob) (IU _ (IU _ IQ))
 have I12:Inv X pins U H4 s7:=I11.unpinned
 have D7:s7.heap.DictOf (LF X.prog X.w) s.heap.objs.size [(n1,b1),(n2,b2),(n3,b3)]:=⟨ob,es,ep,g11,gx,gd,gk,gp,gnn⟩
 have fin:∀(ve:Expr) (n:Int) (b:IP) (v:V),RelV v b->y=.int n->PQ [(n1,b1),(n2,b2),(n3,b3)] n=some b->Q v H4->JB (JD X.prog X.w) X.A (Pk ve ie (.ref s.heap.objs.size) iv) (EP X pins U Q) X.xe s7:=fun ve n b v rv hy hm q=>by
  subst hy
  obtain ⟨t,rfl⟩:=ry
  exact Pm D7.typeIs slot_dict_getitem.lookup (wpAny_getItem_of (k:=n) (OQ _ _ _ _) D7.mapOf hm ⟨v,H4,I12.tok _,rv,q⟩) (hs _ _)
 obtain ⟨d1,d2,d3⟩:=hd
 rcases q4 with ⟨hy,q⟩ | ⟨hy,q⟩ | ⟨hy,q⟩
 ·exact fin _ n1 b1 v1 rv1 hy (by simp [PQ]) q
 ·exact fin _ n2 b2 v2 rv2 hy (by simp [PQ,d1]) q
 ·exact fin _ n3 b3 v3 rv3 hy (by simp [PQ,d2,d3]) q
end
end L2
namespace VL
open PySem L2
section
variable {K:IJ} {X:Cx} {m:Bool} {e o ie e1 e2 e3:Expr} {te ti t1 t2 t3:TE} {va vi v1 v2 v3:VT} {pos dpos p1 p2 p3:Pos} {n1 n2 n3:Int} {j1 j2 j3:Nat} {S:List Sl} {Q:VR->List Sl->Prop}
def G2 (n1 n2 n3:Int) (v1 v2 v3 vi:VT):VT:=fun S Q=>v1 S fun r1 S1=>v2 S1 fun r2 S2=>v3 S2 fun r3 S3=>vi S3 fun ri S4=>(ri=.d (.int n1)/\Q r1 S4)\/(ri=.d (.int n2)/\Q r2 S4)\/(ri=.d (.int n3)/\Q r3 S4)
theorem uY (hd:n1≠n2/\n1≠n3/\n2≠n3) (h1:VE K X m e1 t1 v1) (h2:VE K X m e2 t2 v2) (h3:VE K X m e3 t3 v3) (hi:VE K X false ie ti vi) (hs:cY ie) :
  VE K X m (.Subscript (.Dict [some (.Constant (.int n1) j1 p1),some (.Constant (.int n2) j2 p2),some (.Constant (.int n3) j3 p3)] [e1,e2,e3] dpos) ie pos) (G1 n1 n2 n3 t1 t2 t3 ti) (G2 n1 n2 n3 v1 v2 v3 vi):=
 ⟨DL hd h1.pe h2.pe h3.pe hi.pe hs,fun H0 Z U H S Q C k t hc=>h1.snd H0 Z U H S _ _ k t fun x1 H1 r1 S1 k1 st1 rr1 t1=>h2.snd H0 Z U H1 S1 _ _ k1 t1 fun x2 H2 r2 S2 k2 st2 rr2 t2=>h3.snd H0 Z U H2 S2 _ _ k2 t2 fun x3 H3 r3 S3 k3 st3 rr3 t3=>
  hi.snd H0 Z U H3 S3 _ _ k3 t3 fun y H4 ri S4 k4 st4 rri q=>by
   have stA:=((st1.trans st2).trans st3).trans st4
   rcases q with ⟨er,q⟩ | ⟨er,q⟩ | ⟨er,q⟩
   ·subst er;cases (show Rep K _ _ H4 y (.int n1) from rri)
    exact .inl ⟨rfl,hc _ H4 r1 S4 k4 stA (rr1.step ((st2.trans st3).trans st4)) q⟩
   ·subst er;cases (show Rep K _ _ H4 y (.int n2) from rri)
    exact .inr (.inl ⟨rfl,hc _ H4 r2 S4 k4 stA (rr2.step (st3.trans st4)) q⟩)
   ·subst er;cases (show Rep K _ _ H4 y (.int n3) from rri)
    exact .inr (.inr ⟨rfl,hc _ H4 r3 S4 k4 stA (rr3.step st4) q⟩)⟩
def k3i (n1 n2 n3:Int) (r1 r2 r3:VR) (Q:VR->List Sl->Prop):VR->List Sl->Prop:=fun ri S4=>(ri=.d (.int n1)/\Q r1 S4)\/(ri=.d (.int n2)/\Q r2 S4)\/(ri=.d (.int n3)/\Q r3 S4)
def k3c (n1 n2 n3:Int) (r1 r2:VR) (vi:VT) (Q:VR->List Sl->Prop):VR->List Sl->Prop:=fun r3 S3=>vi S3 (k3i n1 n2 n3 r1 r2 r3 Q)
def k3b (n1 n2 n3:Int) (r1:VR) (v3 vi:VT) (Q:VR->List Sl->Prop):VR->List Sl->Prop:=fun r2 S2=>v3 S2 (k3c n1 n2 n3 r1 r2 vi Q)
def k3a (n1 n2 n3:Int) (v2 v3 vi:VT) (Q:VR->List Sl->Prop):VR->List Sl->Prop:=fun r1 S1=>v2 S1 (k3b n1 n2 n3 r1 v3 vi Q)
theorem G3 (h:v1 S (k3a n1 n2 n3 v2 v3 vi Q)):G2 n1 n2 n3 v1 v2 v3 vi S Q:=h
theorem G4 (h:v2 S (k3b n1 n2 n3 r v3 vi Q)):k3a n1 n2 n3 v2 v3 vi Q r S:=h
theorem G5 {r r':VR} (h:v3 S (k3c n1 n2 n3 r' r vi Q)):k3b n1 n2 n3 r' v3 vi Q r S:=h
theorem G6 {r r' r'':VR} (h:vi S (k3i n1 n2 n3 r'' r' r Q)):k3c n1 n2 n3 r'' r' vi Q r S:=h
theorem uZ {r1 r2 r3:VR} (h:Q r1 S):k3i n1 n2 n3 r1 r2 r3 Q (.d (.int n1)) S:=.inl ⟨rfl,h⟩
theorem u6 {r1 r2 r3:VR} (h:Q r2 S):k3i n1 n2 n3 r1 r2 r3 Q (.d (.int n2)) S:=.inr (.inl ⟨rfl,h⟩)
theorem u7 {r1 r2 r3:VR} (h:Q r3 S):k3i n1 n2 n3 r1 r2 r3 Q (.d (.int n3)) S:=.inr (.inr ⟨rfl,h⟩)
def sdA (kvs:List (List Int×D)) (k:List Int) (n:Int):List (List Int×D):=if k∈kvs.map (·.1) then kvs else kvs++[(k,.int n)]
def A7 (i:Nat) (n:Int) (vk:VT):VT:=fun S Q=>(∃kvs,S[i]?=some (od kvs))/\vk S fun rk S1=>∃kvs ms j,S1[i]?=some (od kvs)/\get S1 rk=some (kT ms)/\kvs.length<=1000000/\(dM kvs ms).getD (.int n)=.int j/\Q (.d (.int j)) (S1.set i (od (sdA kvs ms n)))
theorem rS {l:List Sl} {i:Nat} {s:Sl} (h:l[i]?=some s):l.set i s=l:=by
 apply Lo
 intro j
 rw [P5]
 by_cases e:i=j
 ·subst e
  rw [if_pos rfl]
  split
  ·exact h.symm
  ·rename_i z
   have:=(List.getElem?_eq_some_iff.mp h).1
   exact absurd this z
 ·rw [if_neg e]
theorem yX {apos pc:Pos} {n:Int} {j:Nat} (i:Nat) (hK:X.K=K) (hu:X.A.units+64 < Lu) (ho:PE X o (cF i)) (hk:VE K X false ie ti vi) (hbase:Lw o "setdefault" X.env (eval o X.env)=eval o X.env:=by rfl)
  (hfew:((K8 pos (Jf [ie,.Constant (.int n) j pc] X.env)).all (fun x=>!x.1)&&(Po pos (Nb [] X.env)).all (fun x=>x.1.isSome)
   && decide (([ie,.Constant (.int n) j pc]:List Expr).length+([]:List Nc).length+(if ([]:List Nc).isEmpty then 0 else 1) < 30))=true:=by rfl)
  (hline:(apos.endLine==pos.line)=true:=by rfl) (hs:Jf [ie,.Constant (.int n) j pc] X.env=(false,eval ie X.env)::Jf [.Constant (.int n) j pc] X.env:=by rfl) (hplain:(K8 pos (Jf [.Constant (.int n) j pc] X.env)).any (·.1)=false:=by rfl) :
  VE K X m (.Call (.Attribute o "setdefault" apos) [ie,.Constant (.int n) j pc] [] pos) (A6 K n (cF i) ti) (A7 i n vi):=
 ⟨by subst hK;exact yW hu ho hk.pe hbase hfew hline hs hplain,fun H0 Z U H S Q C k zq1 hc=>by
  obtain ⟨⟨kvs0,e0⟩,t⟩:=zq1
  obtain ⟨o1,g1,p,es0,rfl,⟨ob0,ha0⟩,_⟩:=k.ownAt e0
  refine ⟨.ref p,g1,⟨p,es0,ob0,rfl,ha0⟩,hk.snd H0 Z U H S _ _ k t fun y H2 rk S2 k2 st2 rr2 zr1=>?_⟩
  obtain ⟨kvs,ms,jj,e1,ek,hl,ej,q⟩:=zr1
  obtain ⟨o2,g2,p',es,e2,⟨ob,h2⟩,h3,⟨h4,h5⟩,h6⟩:=k2.ownAt e1
  rw [g1] at g2;cases g2;cases e2
  obtain ⟨b,rfl,hq,rb⟩:=uz rr2 ek
  have hka:cr K H2 es:=dN (by rw [h4];exact h5)
  have hle:es.length=kvs.length:=by have:=congrArg K4 h4;simpa using this
  refine ⟨b,p,ms,es,rfl,rfl,SqN.of hq,⟨ob,h2⟩,hka,by rw [J7];lia,fun v hv=>?_,fun hv obn=>?_⟩
  ·rcases gB (k:=ms) h4 h6 with ⟨z1,_⟩ | ⟨v',d,z1,z2,r⟩
   ·rw [hv] at z1;cases z1
   ·rw [hv] at z1;cases z1
    rw [z2] at ej
    cases (show d=.int jj from ej)
    cases r
    have hin:ms∈kvs.map (·.1):=by
     have s1:=gu (es:=es) (k:=ms)
     rw [hv,h4] at s1
     exact of_decide_eq_true s1.symm
    have es':S2.set i (od (sdA kvs ms n))=S2:=by unfold sdA;rw [if_pos hin];exact rS e1
    rw [es'] at q
    exact hc _ H2 (.d (.int jj)) S2 k2 st2 (Rep.int jj) q
  ·have hnin:ms∉kvs.map (·.1):=by rw [<- h4];exact uX hv
   have na:NM Z U S2 p->False:=fun n=>n (.inl ⟨i,_,e1,rfl,g1⟩)
   have hm:∀c,NM Z U S2 c->H2 c≠none->NM Z U S2 c/\upd H2 p (bK p obn (es++[(ms,b,.int n)])) c=H2 c:=fun c n _=>⟨n,aL fun z=>na (by rw [<- z];exact n)⟩
   have hj:jj=n:=by
    rcases gB (k:=ms) h4 h6 with ⟨_,z2⟩ | ⟨v',d,z1,_⟩
    ·rw [z2] at ej;cases ej;rfl
    ·rw [hv] at z1;cases z1
   subst hj
   unfold sdA at q
   rw [if_neg hnin] at q
   obtain ⟨k3,st3⟩:=k2.chgD (s:=od (kvs++[(ms,.int jj)])) (o:=bK p obn (es++[(ms,b,.int jj)])) e1 rfl g1 rfl ⟨p,es++[(ms,b,.int jj)],rfl,⟨obn,aJ⟩,h3,⟨by rw [Jc,Jc,h4];rfl,by
    rw [Jc,Jc,Jc]
    exact Reps.append (h5.mono hm fun _ x=>x) (.cons (rb.mono hm fun _ x=>x) .nil)⟩,by
    rw [Jc,Jc]
    exact Reps.append (h6.mono hm fun _ x=>x) (.cons (.int jj) .nil)⟩
   exact hc _ _ (.d (.int jj)) _ k3 (st2.trans st3) (Rep.int jj) q⟩
def A8 (i:Nat) (n:Int) (Q:VR->List Sl->Prop):VR->List Sl->Prop:=fun rk S1=>∃kvs ms j,S1[i]?=some (od kvs)/\get S1 rk=some (kT ms)/\kvs.length<=1000000/\(dM kvs ms).getD (.int n)=.int j/\Q (.d (.int j)) (S1.set i (od (sdA kvs ms n)))
theorem DM {i:Nat} {n:Int} (e:S[i]?=some (od kvs)) (h:vi S (A8 i n Q)):A7 i n vi S Q:=⟨⟨kvs,e⟩,h⟩
theorem yY {i:Nat} {n j:Int} {rk:VR} (e:S[i]?=some (od kvs)) (ek:get S rk=some (kT ms)) (hl:kvs.length<=1000000) (ej:(dM kvs ms).getD (.int n)=.int j) (h:Q (.d (.int j)) (S.set i (od (sdA kvs ms n)))):A8 i n Q rk S:=⟨kvs,ms,j,e,ek,hl,ej,h⟩
end
end VL
end
section
namespace VL
open PySem L2
section
variable {K:IJ} {X:Cx} {m:Bool} {e:Expr} {es:List Expr} {tr:TA} {vr:VTA} {x:Str} {p0 p pos:Pos} {j k:Nat} {ps:List Str} {S:List Sl} {QN:List D->List Sl->Prop}
def G7 (p:List D->(D->Prop)->Prop) (vr:VTA):VTD:=fun S Q=>vr S fun rs S1=>∃ds,gets S1 rs=some ds/\p ds fun d=>∃kvs,d=dc kvs/\flats (kvs.map (·.2))=true/\Q kvs S1
theorem G8 {p:List D->(D->Prop)->Prop} (E:Has X.prog X.w X.K X.mg X.base k x ps (spP K p)) (hr:cg j X.A) (ha:VA K X false (e::es) tr vr)
  (hk:k<=j:=by decide) (hg:Gl X x:=by rfl) (hdb:(x==("__debug__":Str))=false:=by decide) (he:Jf (e::es) X.env=(false,eval e X.env)::Jf es X.env:=by rfl)
  (hpl:(K8 pos (Jf es X.env)).any (·.1)=false:=by rfl):VDe K X (.Call (.Name x p0) (e::es) [] pos) (iz (spP K p) [] E0 tr) (G7 p vr):=⟨kn E hr ha.pe hk hg hdb he hpl,fun H0 Z U H S Q C k t hc=>
 ha.snd H0 Z U H S _ _ k t fun vs H1 rs S1 k1 st1 rrs zq1=>by
  obtain ⟨ds,e,q⟩:=zq1
  refine ⟨ds,_,by rw [KL];exact rrs.gets k1 e,q,fun d v H' ⟨kvs,ed,hf,q⟩ g r=>?_⟩
  subst ed
  have r2:=Rep.avoid (N':=NM Z U S1) (fun a z=>by
   have e:=k1.mo (Classical.not_not.mp z)
   rw [g a e.ne];exact e) (fun a zq1=>by obtain ⟨b,e,f⟩:=zq1;cases e;exact k1.nm f) r
  cases r2 with
  | @dic a ob ws _ _ n f h ek rk rs=>
   obtain ⟨b,e,f⟩:=f
   cases e
   have hM:∀b,¬(NM Z U S1 b/\b≠a)->IsM (H' b):=fun b z=>by
    by_cases hb:b=a
    ·rw [hb,h];trivial
    ·have hmo:Mo Z U S1 b:=JE fun y=>z ⟨y,hb⟩
     have e:=k1.mo hmo
     rw [g b e.ne];exact e
   have sh:∀{us:List V} {ds:List D} {F:FP},Reps K (NM Z U S1) F H' us ds->flats ds=true->∀F':FP,Reps K (fun b=>NM Z U S1 b/\b≠a) F' H' us ds:=fun rr ff F'=>
    (Reps.avoid (N':=fun b=>NM Z U S1 b/\b≠a) hM (fun b fb=>fb.elim) (Reps.flat (F':=fun _=>False) rr ff)).mono (fun _ n _=>⟨n,rfl⟩) (fun o f=>f.elim)
   exact hc a ws kvs H1 H' S1 k1 st1 f g ⟨ob,h⟩ ek (sh rk (jc _) _) (sh rs hf _) q⟩
def G9 (p:List D->(D->Prop)->Prop) (Q:List (List Int×D)->List Sl->Prop):List VR->List Sl->Prop:=fun rs S1=>∃ds,gets S1 rs=some ds/\p ds fun d=>∃kvs,d=dc kvs/\flats (kvs.map (·.2))=true/\Q kvs S1
theorem Ha {p:List D->(D->Prop)->Prop} {Q:List (List Int×D)->List Sl->Prop} (h:vr S (G9 p Q)):G7 p vr S Q:=h
theorem DN {p:List D->(D->Prop)->Prop} {Q:List (List Int×D)->List Sl->Prop} (e:gets S rs=some ds) (h:p ds fun d=>∃kvs,d=dc kvs/\flats (kvs.map (·.2))=true/\Q kvs S):G9 p Q rs S:=⟨ds,e,h⟩
def u9 (vr:VTA):VTN:=fun S Q=>vr S fun rs S1=>∃r mss,rs=[r]/\get S1 r=some (eL mss)/\(∀ms∈mss,ms≠[])/\Q ((srt mss).map eT) S1
theorem eN (hK:X.K=K) (hex:X.ex=[]) (hg:Gl X "sorted") (hm:X.mg "sorted"=none) (hb:J1 "sorted"=some (.builtin "sorted")) (ha:VA K X false [e] tr vr) (he:Jf [e] X.env=[(false,eval e X.env)]:=by rfl) :
  VN K X (.Call (.Name "sorted" p) [e] [] pos) (tCB (uM K) tr) (u9 vr):=
 ⟨by subst hK;exact fS oN hg hm hb ha.pe (by decide) (by decide) he rfl,fun H0 Z U H S Q C k t hc=>ha.snd H0 Z U H S _ _ k t fun vs H1 rs S1 k1 st1 rrs zq1=>by
  obtain ⟨r,mss,e1,e2,h1,q⟩:=zq1
  subst e1
  obtain ⟨v,rfl,rv⟩:=rrs.one
  obtain ⟨a,ys,rfl,hq,rr⟩:=rv.elems k1 e2
  obtain ⟨ps,rfl,ht,_⟩:=kA rr
  exact ⟨a,ps,mss,rfl,hq,ht,h1,fun l ps' hl ht'=>hc l _ _ H1 _ S1 k1 st1 hl (aV hl) aJ (cH hl (gc k1.tupN ht')) q⟩⟩
def vf (QN:List D->List Sl->Prop):List VR->List Sl->Prop:=fun rs S1=>∃r mss,rs=[r]/\get S1 r=some (eL mss)/\(∀ms∈mss,ms≠[])/\QN ((srt mss).map eT) S1
theorem yZ (h:vr S (vf QN)):u9 vr S QN:=h
theorem eO (e:get S r=some (eL mss)) (h1:∀ms∈mss,ms≠[]) (h:QN ((srt mss).map eT) S):vf QN [r] S:=⟨r,mss,rfl,e,h1,h⟩
variable {va:VT}
def vj (QN:List D->List Sl->Prop):VR->List Sl->Prop:=fun r S1=>∃kvs,r=.d (dc kvs)/\QN (itD kvs) S1
theorem y0 (h:va S (vj QN)):uU va S QN:=h
theorem vm (h:QN (itD kvs) S):vj QN (.d (dc kvs)) S:=⟨kvs,rfl,h⟩
end
end VL
end
section
namespace L2
open PySem PySem.Spec PyProof.Rows
section
variable {prog:Jp} {w:JQ} {A:JY} {E:IP->IM->Prop} {s:IM}
def KyIt (h:Heap) (it d:Addr) (i n ep:Nat):Prop:=h.get? it=some { cls:=.type "dict_keyiterator",data:=.fields #[.ref d,.int i 0,.int n 0,.int ep 0] }
theorem rT:KU "dict_keyiterator"=false:=by decide
theorem iQ {it:Addr} {Q:Nat->IM->Prop} (ty:s.TypeIs (.ref it) "dict_keyiterator") (h:Q 0 s) :
  JB (JD prog w) A (typeNameOfWhole (.ref it) >>= fun n=>pure (if KU n=true then 2 else 0)) Q E s:=
 II (wpAny_typeNameOfWhole_keyiter ty (IK (by rw [rT];exact h)))
theorem y4 {it d:Addr} {i ep:Nat} {o:Obj} {es:Array Ll} {Q:Option IP->IM->Prop} (hit:KyIt s.heap it d i es.size ep) (ho:s.heap.get? d=some o) (hd:o.data=.dict es ep) (hi:i < es.size)
  (hQ:∀h',KyIt h' it d (i+1) es.size ep->(∀b u,b≠it->s.heap.get? b=some u->h'.get? b=some u)->Q (some es[i].key) { s with heap:=h' }):JB (JD prog w) A (Of (.ref it)) Q E s:=by
 have ty:s.TypeIs (.ref it) "dict_keyiterator":=⟨_,hit,rfl⟩
 unfold Of
 refine II (MZ (KS (name:=Nt "__next__") ty F.slot_dict_keyiterator_next (J8 F.slot_dict_keyiterator_next ty F.entry_dict_keyiterator_next ?_ (F.args_dict_keyiterator_next_1 _))))
 refine II (IK (II (II (iQ ty (II (NK hit rfl ?_))))))
 show JB _ _ (if (Jz d==JR)=true then _ else _) _ _ s
 rw [if_neg (fun z:(Jz d==JR)=true=>IT z)]
 refine II (IK (II (K0 ho hd ?_)))
 rw [if_neg (by simp)]
 refine II (IK (II (LH ho hd ?_)))
 rw [if_neg (by simp)]
 refine IK ?_
 have hx:(if ((i:Nat):Int) < 0 then none else es[((i:Nat):Int).toNat]?)=some es[i]:=by rw [if_neg (by lia),Lp];exact Jw hi
 dsimp only
 rw [hx]
 refine II (iQ ty (II (OI ty (II (Lc hit (k:=1) (by simp) fun g e b=>?_)))))
 have e':KyIt g it d (i+1) es.size ep:=by
  have z:((i+1:Nat):Int)=(i:Int)+1:=by lia
  unfold KyIt;rw [z];exact e
 refine II (J5 (II (OI (s:={ s with heap:=g }) ⟨_,e',rfl⟩ ?_)))
 exact IK (IK ⟨_,rfl,IK (hQ g e' fun c u hn z=>(b.2 c hn).trans z)⟩)
theorem DO {it d:Addr} {i ep:Nat} {o:Obj} {es:Array Ll} {Q:Option IP->IM->Prop} (hh:A.handled=none) (hit:KyIt s.heap it d i es.size ep) (ho:s.heap.get? d=some o) (hd:o.data=.dict es ep) (hi:es.size<=i)
  (hQ:∀h',Heap.ExtBut it s.heap h'->Q none { s with heap:=h' }):JB (JD prog w) A (Of (.ref it)) Q E s:=by
 have ty:s.TypeIs (.ref it) "dict_keyiterator":=⟨_,hit,rfl⟩
 unfold Of
 refine II (MZ (KS (name:=Nt "__next__") ty F.slot_dict_keyiterator_next (J8 F.slot_dict_keyiterator_next ty F.entry_dict_keyiterator_next ?_ (F.args_dict_keyiterator_next_1 _))))
 refine II (IK (II (II (iQ ty (II (NK hit rfl ?_))))))
 show JB _ _ (if (Jz d==JR)=true then _ else _) _ _ s
 rw [if_neg (fun z:(Jz d==JR)=true=>IT z)]
 refine II (IK (II (K0 ho hd ?_)))
 rw [if_neg (by simp)]
 refine II (IK (II (LH ho hd ?_)))
 rw [if_neg (by simp)]
 refine IK ?_
 have hx:(if ((i:Nat):Int) < 0 then none else es[((i:Nat):Int).toNat]?)=none:=by rw [if_neg (by lia),Lp];exact K7 hi
 dsimp only
 rw [hx]
 refine II (iQ ty (II (wpAny_setField hit rfl (by simp) ?_)))
 unfold newExc newTuple
 refine II (II (JX (II (m:=NL _ _) (wpAny_of_eq (a:=JR) (by first | rfl | (simp only [NL];rfl)) (JX (Pf (show A.in1.handled=none from hh) ?_) (by size_fits)))) (by size_fits)))
 refine II (Oj (b:=true) (T:="StopIteration") ⟨_,Je _ rfl,rfl⟩ isSubtype_stop (IK (hQ _ ?_)))
 intro b u hn e
 exact IN _ (IN _ (((Km ..).2 b hn).trans e))
theorem y6 {d:Addr} {o:Obj} {es:Array Ll} {ep:Nat} {Q:IP->IM->Prop} (ty:s.TypeIs (.ref d) "dict") (hs:(d==KW)=false) (ho:s.heap.get? d=some o) (hd:o.data=.dict es ep)
  (h:Q (.ref s.heap.objs.size) { s with heap:=s.heap.push { cls:=.type "dict_keyiterator",data:=.fields #[.ref d,.int 0 0,.int es.size 0,.int ep 0] } }):JB (JD prog w) A (Qu (.ref d)) Q E s:=by
 refine NZ ty F.slot_dict_iter (J8 F.slot_dict_iter ty F.entry_dict_iter (II (II (ML ty (IK ?_)))) (F.args_dict_iter_1 _))
 refine II (m:=LI d) ?_
 unfold LI
 rw [if_neg (by rw [hs];exact IT)]
 refine IK (II (K0 ho hd (II (LH ho hd (II (JX (IK ⟨_,rfl,"dict_keyiterator",_,⟨_,Je _ rfl,rfl⟩,F.slot_dict_keyiterator_next.lookup,?_⟩)))))))
 simpa [rawInt] using h
end
def Itk (d:Addr) (ob:Obj) (es:List (List Int×Addr×V)):It:=
 ⟨fun i H=>H d=some (bK d ob es)/\i < es.length,fun i H x H'=>∃e,es[i]?=some e/\x=.ref e.2.1/\H'=H,fun i H=>H d=some (bK d ob es)/\es.length<=i⟩
theorem rV {P:Jp} {w:JQ} {tg:Expr} (it d:Addr) (ob:Obj) (es:List (List Int×Addr×V)) (ds:Array Ll) (ep:Nat) (hob:ob.data=.dict ds ep) :
  Turn P w K tg (Itk d ob es) [it] it (fun i h=>KyIt h it d i ds.size ep) where
 mem:=by simp
 obj:=fun i h st b hb=>by
  have e:b=it:=by simpa using hb
  subst e
  exact ⟨_,st,fun v z=>by
   have z':N6 _=M9 v:=z
   cases z'⟩
 keep:=fun i h h' st k=>k it (by simp) _ st
 item:=by
  rintro X hP hw hK hc i pins s U H E I hf st ⟨hd,hi⟩
  subst hP hw hK
  obtain ⟨f0,f1,f2,f3,f4,f5⟩:=hf it (by simp)
  obtain ⟨⟨z,m,nd,xs,ev,o,ds',ep',g1,g2,g3,g4⟩,g5⟩:=dQ I hd
  rw [g5] at g1;cases g1
  rw [hob] at g3;cases g3
  obtain ⟨e,he⟩:∃e,es[i]?=some e:=⟨_,IL hi⟩
  obtain ⟨x,hx,ek,rv⟩:=ev.pick he
  have hxl:i < xs.length:=by have:=Kw ev;lia
  have hds:ds.size=xs.length:=by have:=congrArg K4 g4;simpa using this
  have hent:ds[i]'(by lia)=tu x:=by
   have h1:ds.toList[i]?=some (tu x):=by rw [g4,Jh,hx];rfl
   rw [JI,Jw (by lia)] at h1
   exact Jx h1
  refine y4 st g5 hob (by lia) fun h' a1 a2=>⟨_,rfl,pG (s:={ s with heap:=h' }) a1 rfl rfl (by decide) ?_⟩
  refine ⟨.ref e.2.1,H,I.turned (t':=s.toks) (fun b o hb q=>a2 b o hb q) f0 f1 f3 f4 f5,?_,⟨e,he,rfl,rfl⟩,a1,fun b hb=>?_⟩
  ·rw [hent,ek];rfl
  ·have e':b=it:=by simpa using hb
   subst e';exact f0
 done:=by
  rintro X hP hw hK hc i pins s U H E I hf st ⟨hd,hi⟩
  subst hP hw hK
  obtain ⟨f0,f1,f2,f3,f4,f5⟩:=hf it (by simp)
  obtain ⟨⟨z,m,nd,xs,ev,o,ds',ep',g1,g2,g3,g4⟩,g5⟩:=dQ I hd
  rw [g5] at g1;cases g1
  rw [hob] at g3;cases g3
  have hds:ds.size=xs.length:=by have:=congrArg K4 g4;simpa using this
  have:=Kw ev
  exact DO (I.ok.hd hc) st g5 hob (by lia) fun h' eb=>⟨rfl,I.turned (t':=s.toks) (fun b o hb e=>eb b o hb e) f0 f1 f3 f4 f5⟩
 self:=fun _ _ _ _ _ st h=>wpAny_pyIter_keyiter ⟨_,st,rfl,rfl⟩ h
section
variable {X:Cx}
def A9 (to:TE):TI:=fun U H R=>to U H fun x H1=>∃d ob es,x=.ref d/\H1 d=some (bK d ob es)/\R (Itk d ob es) H1
theorem y8 {tg o:Expr} {to:TE} (ho:PE X o to):PI X tg o (A9 to):=by
 intro pins s U H R I h
 refine thn (ho pins s U H _ I h) fun v s1 zr1=>?_
 obtain ⟨x,H1,I1,r1,d,ob,es,hx,hd,q1⟩:=zr1
 subst hx
 cases r1
 obtain ⟨⟨z,m,nd,xs,ev,o',ds,ep,g1,g2,g3,g4⟩,g5⟩:=dQ I1 hd
 rw [g5] at g1;cases g1
 refine y6 ⟨_,g5,g2.1⟩ m g5 g3 ⟨s1.heap.objs.size,[s1.heap.objs.size],_,_,H1,rfl,I1.kept (t':=s1.toks) fun b u q=>IN _ q,rV _ d ob es ds ep g3,Je _ rfl,fun b hb=>?_,q1⟩
 have e:b=s1.heap.objs.size:=by simpa using hb
 subst e
 exact I1.fpOk (IS _) (I1.hok.fresh (IS _))
end
end L2
namespace VL
open PySem L2
section
variable {K:IJ} {X:Cx} {e o tg:Expr} {te:TE} {va:VT} {S:List Sl} {QN:List D->List Sl->Prop}
def Ba (va:VT):VTN:=fun S Q=>va S fun r S1=>∃kvs,r=.d (dc kvs)/\Q ((kvs.map (·.1)).map kT) S1
theorem y9 (h:VE K X false o te va):VI K X tg o (A9 te) (Ba va):=⟨y8 h.pe,fun H0 Z U H S Q C k t hc=>h.snd H0 Z U H S _ _ k t fun v H1 r S1 k1 st1 rr zq1=>by
 obtain ⟨kvs,er,q⟩:=zq1
 subst er
 have rr:Rep K _ _ H1 v (.dic (kvs.map (·.1)) (kvs.map (·.2))):=rr
 cases rr with
 | @dic a ob es _ _ n f hh ek rk r=>
 refine ⟨a,ob,es,rfl,hh,hc _ ((kvs.map (·.1)).map kT) H1 S1 k1 st1 (fun U2 S2 H2 nm st2 i=>?_) q⟩
 obtain ⟨e1,n1⟩:=st2 a n (by rw [hh];exact fun z=>nomatch z)
 have hh2:H2 a=some (bK a ob es):=e1.trans hh
 have len:((kvs.map (·.1)).map kT).length=es.length:=by have:=congrArg K4 ek;simp at this ⊢;lia
 rw [len]
 refine ⟨fun hi=>⟨hh2,hi⟩,fun x H3 zr1 hi=>?_,fun hi=>⟨hh2,by lia⟩⟩
 obtain ⟨en,he,hx,hH⟩:=zr1
 subst hx;subst hH
 have rk2:=(rk.stp st2).mono (N':=NM Z U2 S2) (F':=AnyF) (H':=H3) (fun b n z=>⟨n,rfl⟩) fun _ _=>trivial
 obtain ⟨dk,hk1,hk2⟩:=rk2.get (i:=i) (v:=.ref en.2.1) (by rw [Jh,he];rfl)
 exact ⟨fun _ _=>rfl,dk,hk1,hk2⟩⟩
def Bb (QN:List D->List Sl->Prop):VR->List Sl->Prop:=fun r S1=>∃kvs,r=.d (dc kvs)/\QN ((kvs.map (·.1)).map kT) S1
theorem DP (h:va S (Bb QN)):Ba va S QN:=h
theorem za (h:QN ((kvs.map (·.1)).map kT) S):Bb QN (.d (dc kvs)) S:=⟨kvs,rfl,h⟩
end
end VL
end
section
namespace VL
open PySem L2
section
variable {K:IJ} {X:Cx} {stm:Stmt} {ts:TS} {t:VTS}
theorem qt:∀{S:List Sl} {i:Nat} {ks:List (List Int)} {ds:List D},S[i]?=some (.odi ks ds)->Wk S (S.set i (.val (.dic ks ds)))
 | [],i,_,_,h=>by simp at h
 | s::r,0,ks,ds,h=>by
  have e:s=.odi ks ds:=by simpa using h
  subst e
  exact .fd (Wk.refl r)
 | s::r,i+1,ks,ds,h=>Wk.keep (qt (by simpa using h))
def Bc (i:Nat) (t:VTS):VTS:=fun V S=>∃kvs,S[i]?=some (od kvs)/\t V (S.set i (.val (dc kvs)))
theorem zb (i:Nat) (h:VS K X stm ts t):VS K X stm ts (Bc i t):=⟨h.ps,fun H0 Z U H S V E k zq1 l=>by
 obtain ⟨kvs,e,t⟩:=zq1
 obtain ⟨k',st⟩:=k.wk (qt e)
 exact h.snd H0 Z U H _ V E k' t (l.step st)⟩
theorem DQ {i:Nat} {V:ba} (e:S[i]?=some (od kvs)) (h:t V (S.set i (.val (dc kvs)))):Bc i t V S:=⟨kvs,e,h⟩
end
end VL
end
section
namespace L2
open PySem PySem.Spec PyProof.Rows
section
variable {X:Cx}
def vp (K:IJ):V->V->Hp->VK->Prop:=fun x y H Q=>∃b a ms es v,y=.ref b/\x=.ref a/\SqN K H b ms/\(∃ob,H a=some (bK a ob es))/\cr K H es/\atE es ms=some v/\Q v H
theorem zc (hu:X.A.units+64 < Lu):EX X (vp X.K):=by
 rintro pins s U H o i ov iv Q I r1 r2 ⟨b,a,ms,es,v,ey,ex,h1,⟨ob,h2⟩,h3,hv,q⟩
 subst ex;subst ey
 cases r1;cases r2
 obtain ⟨z,m,nd,xs,ev,dd⟩:=gq I h2 h3
 have r:=ev.at_ ms
 rw [hv] at r
 cases h5:NH xs ms with
 | none=>rw [h5] at r;exact r.elim
 | some p=>
  rw [h5] at r
  exact Pt (LB (by lia)) (dj I h1) dd h5 ⟨v,H,I.tok _,r,q⟩
end
end L2
end
section
namespace VL
open PySem L2
section
variable {K:IJ} {X:Cx} {c e tg:Expr} {a:List Stmt} {tc:TT} {vt:VTT} {ta:TS} {wi:TI} {vi:VTN} {j:Nat} {pos ipos:Pos} {S:List Sl}
def vq (S:List Sl):Prop:=∀(i:Nat) (s:Sl),S[i]?=some s->s.mut=false
theorem vq.mo (h:vq S) {b:Addr}:Mo Z U S b↔Z b:=
 ⟨fun m=>by
  rcases m with ⟨k,t,h1,h2,_⟩ | m
  ·rw [h k t h1] at h2;cases h2
  ·exact m,.inr⟩
theorem vq.grow (h:vq S) {H H':Hp} {U U':St} {S':List Sl} (st:Step Z U S H U' S' H'):∀b,H b≠none->H' b=H b:=fun b hb=>by
 by_cases z:Z b
 ·exact st.2.2 b z hb
 ·exact (st.1 b (fun m=>z (h.mo.mp m)) hb).1
end
end VL
end
section
namespace VL
open PySem L2
section
variable {K:IJ} {N N':AP} {F:FP} {H H' H0:Hp} {Z P:AP} {U U':St} {S S':List Sl}
mutual
theorem Rep.mark {v:L2.V} {d:D}:Rep K N F H v d->Rep K N (fun o=>F o/\∀a,o=some a->N a/\IsM (H a)) H v d
 | .int i=>.int i
 | .bl i=>.bl i
 | .non=>.non
 | .str i=>.str i
 | .ty i=>.ty i
 | .tup n h r=>.tup n h (Reps.mark r)
 | .tupK h r=>.tupK h (Reps.mark r)
 | .lst n f h r=>.lst n ⟨f,fun a e=>by cases e;exact ⟨n,by rw [h];trivial⟩⟩ h (Reps.mark r)
 | .lstF n f h r=>.lstF n ⟨f,fun a e=>nomatch e⟩ h (Reps.mark r)
 | .lstK f h r=>.lstK ⟨f,fun a e=>nomatch e⟩ h (Reps.mark r)
 | .dic n f h e rk r=>.dic n ⟨f,fun a e=>by cases e;exact ⟨n,by rw [h];trivial⟩⟩ h e (Reps.mark rk) (Reps.mark r)
 | .exc n h e=>.exc n h e
 | .oth (k:=k) h=>.oth (k.both (fun a n m f=>⟨f,fun b e=>by cases e;exact ⟨n,m⟩⟩) (fun f=>⟨f,fun a e=>nomatch e⟩) h)
 | .dib n f h e g rk r=>.dib n ⟨f,fun a e=>by cases e;exact ⟨n,by rw [h];trivial⟩⟩ h e g (Reps.mark rk) (Reps.mark r)
theorem Reps.mark {vs:List L2.V} {ds:List D}:Reps K N F H vs ds->Reps K N (fun o=>F o/\∀a,o=some a->N a/\IsM (H a)) H vs ds
 | .nil=>.nil
 | .cons h t=>.cons (Rep.mark h) (Reps.mark t)
end
end
end VL
end
section
namespace L2
open PySem PySem.Spec PyProof.Rows
theorem vw {X:Cx} (hu:X.A.units+64 < Lu):IxR X (vp X.K):=by
 intro value slice pins s U H x y v u Q I rx ry h hs
 have g:=zc hu pins s U H x y v u Q I rx ry h
 obtain ⟨b,a,ms,es,z,ey,ex,h1,⟨ob,h2⟩,_⟩:=h
 subst ex
 cases rx
 obtain ⟨_,_,_,_,_,o,_,_,z1,z2,_⟩:=fV I h2
 exact Pm ⟨_,z1,z2.1⟩ slot_dict_getitem.lookup g hs
end L2
namespace VL
open PySem L2
section
variable {K:IJ} {X:Cx} {m:Bool} {o ie:Expr} {to ti:TE} {vo vi:VT} {pos:Pos} {S:List Sl} {Q:VR->List Sl->Prop}
def Hb (vo vi:VT):VT:=fun S Q=>vo S fun r S1=>vi S1 fun rk S2=>∃kvs ms i,get S2 r=some (dc kvs)/\get S2 rk=some (kT ms)/\dM kvs ms=some (.int i)/\Q (.d (.int i)) S2
theorem DR (hK:X.K=K) (hu:X.A.units+64 < Lu) (ho:VE K X false o to vo) (hi:VE K X false ie ti vi) (hs:cY ie):VE K X m (.Subscript o ie pos) (tOp (vp K) to ti) (Hb vo vi):=
 ⟨by subst hK;exact mG (vw hu) ho.pe hi.pe hs,fun H0 Z U H S Q C k t hc=>by
  refine ho.snd H0 Z U H S _ _ k t fun x H1 ra S1 k1 st1 r1 t1=>?_
  refine hi.snd H0 Z U H1 S1 _ _ k1 t1 fun y H2 rb S2 k2 st2 r2 zr1=>?_
  obtain ⟨kvs,ms,i,e1,e2,ei,q⟩:=zr1
  obtain ⟨b,vs,rfl,hq,rr⟩:=Rep.sqT (show Rep K _ _ H2 y (.tup (ms.map D.int)) from r2.get k2 e2)
  cases Reps.toInts rr
  obtain ⟨a,es,rfl,_,_,ha,ek,hk,_,rv⟩:=Rep.dct (show Rep K _ _ H2 x (.dic _ _) from (r1.step st2).get k2 e1)
  rcases gB (k:=ms) ek rv with ⟨z1,z2⟩ | ⟨v,d,z1,z2,r⟩
  ·rw [z2] at ei;cases ei
  ·rw [z2] at ei
   cases ei
   cases r
   exact ⟨b,a,ms,es,.int i,rfl,rfl,SqN.of hq,ha,hk,z1,hc _ H2 (.d (.int i)) S2 k2 (st1.trans st2) (Rep.int i) q⟩⟩
def Bd (vi:VT) (Q:VR->List Sl->Prop):VR->List Sl->Prop:=fun r S1=>vi S1 fun rk S2=>∃kvs ms i,get S2 r=some (dc kvs)/\get S2 rk=some (kT ms)/\dM kvs ms=some (.int i)/\Q (.d (.int i)) S2
def Be (r:VR) (Q:VR->List Sl->Prop):VR->List Sl->Prop:=fun rk S2=>∃kvs ms i,get S2 r=some (dc kvs)/\get S2 rk=some (kT ms)/\dM kvs ms=some (.int i)/\Q (.d (.int i)) S2
theorem Hc (h:vo S (Bd vi Q)):Hb vo vi S Q:=h
theorem zd (h:vi S (Be r Q)):Bd vi Q r S:=h
theorem ze {r rk:VR} {i:Int} (e1:get S r=some (dc kvs)) (e2:get S rk=some (kT ms)) (e3:dM kvs ms=some (.int i)) (h:Q (.d (.int i)) S):Be r Q rk S:=⟨kvs,ms,i,e1,e2,e3,h⟩
end
end VL
end
section
namespace VL
open PySem L2
def SomeF:FP:=fun o=>o≠none
def spF (K:IJ) (p:List D->(D->Prop)->Prop):Sp:=fun vs H Q _=>∃ds R,Reps K Any SomeF H vs ds/\p ds R/\∀d v H',R d->flat d=true->(∀a,H a≠none->H' a=H a)->Rep K Any AnyF H' v d->Q v H'
section
variable {P:Jp} {w:JQ} {K:IJ} {mg:Str->Option IP} {base:Heap}
def dX (n:Nat) (ds:List D):List Sl:=ds.map .fre++JP (n-ds.length) .no
theorem h9 {n:Nat} {i:Nat} {s:Sl} (h:(dX n ds)[i]?=some s):s=.no\/∃d,s=.fre d/\ds[i]?=some d:=by
 unfold dX at h
 by_cases hi:i < ds.length
 ·rw [Jj (by simpa using hi)] at h
  simp [hi] at h
  subst h
  exact .inr ⟨_,rfl,by simp [hi]⟩
 ·rw [Jq (by simpa using hi)] at h
  exact .inl (L8 (Jy h))
theorem bI (n:Nat) (ds:List D):vq (dX n ds):=fun i s h=>by
 rcases h9 h with rfl | ⟨d,rfl,_⟩ <;> rfl
theorem rW {N:List Str} {vs:List L2.V} (r:Reps K Any SomeF H vs ds):OK K (fun _=>none) (fun _=>False) (start N vs) H (dX N.length ds) where
 len:=by simp [L2.start,dX,r.length]
 dom:=fun _ _=>rfl
 zl:=fun _ z=>z.elim
 nz:=fun i s a h m _=>by rw [bI _ _ i s h] at m;cases m
 inj:=fun i j a s t h1 h2 m1=>by rw [bI _ _ i s h1] at m1;cases m1
 at_:=fun i o s h1 h2=>by
  rcases h9 h2 with rfl | ⟨d,rfl,e⟩
  ·trivial
  ·obtain ⟨v,e1,e2⟩:=r.getD e
   rw [eF e1] at h1
   cases h1
   refine ⟨v,rfl,e2.mono (fun a _ _=>⟨fun z=>(bI _ _).mo.mp z,rfl⟩) fun o x=>?_⟩
   cases o with
   | none=>exact absurd rfl x
   | some a=>exact ⟨a,rfl,rfl⟩
theorem Hd {x:Str} {st:Stmt} {N ps:List Str} {k:Nat} (S:Src K mg x st) (sc:aE N ps (aj st))
  (hb:∀(kV doc pm:IP) (an:Option Addr) (cdv ct:IP) (us:List IP),us.length=ps.length->N7 (KC x x (cj st) (bw st) (aj st) .none kV doc pm an cdv ct) ⟨us,[]⟩=pure (ps.zip us))
  (len:∀ds R,p ds R->ds.length=ps.length)
  (hbody:∀(f:Addr) (cdv:IP) (A:JY) (outer:List Env) (s:IM) (H:Hp) (E:XK),cg k (A.deeper (L3 x (aj st) s.heap.objs.size f cdv)) ->
   ∃ts t,VSs K (i7 CX0 P w K mg base N x (aj st) f cdv A outer s H E).nox (bw st) ts t/\∀ds R,p ds R->t { nx:=fun _=>R .non,rt:=fun d _=>R d/\flat d=true } (dX N.length ds)):Has P w K mg base (k+1) x ps (spF K p):=by
 refine S.has sc hb (fun vs H Q E zq1=>by obtain ⟨ds,R,r,h,_⟩:=zq1;rw [r.length];exact len ds R h) fun f cdv A outer s H vs Q E hr ⟨ds,R,r,h,fin⟩=>?_
 obtain ⟨ts,t,vs',q⟩:=hbody f cdv A outer s H E hr
 have k0:=rW (N:=N) r
 have il:=bI N.length ds
 exact ⟨ts,vs'.ps,vs'.snd _ _ _ H _ _ _ k0 (q ds R h) ⟨fun U' H' S' k' st q=>fin .non .non H' q rfl (il.grow st) .non,fun U' H' S' k' st q=>q.elim,fun U' H' S' k' st q=>q.elim,fun v d U' H' S' k' st rr q=>fin d v H' q.1 q.2 (il.grow st) (rr.mono (fun _ _ _=>⟨trivial,rfl⟩) fun _ _=>trivial)⟩⟩
end
section
variable {K:IJ} {X:Cx} {m:Bool} {e:Expr} {es:List Expr} {tr:TA} {vr:VTA} {x:Str} {p0 pos:Pos} {j k:Nat} {ps:List Str} {S:List Sl} {Q:VR->List Sl->Prop}
def He (p:List D->(D->Prop)->Prop) (vr:VTA):VT:=fun S Q=>vr S fun rs S1=>∃ds,allD rs=some ds/\p ds fun d=>flat d=true->Q (.d d) S1
theorem DS (E:Has X.prog X.w X.K X.mg X.base k x ps (spF K p)) (hr:cg j X.A) (ha:VA K X true (e::es) tr vr)
  (hk:k<=j:=by decide) (hg:Gl X x:=by rfl) (hdb:(x==("__debug__":Str))=false:=by decide) (he:Jf (e::es) X.env=(false,eval e X.env)::Jf es X.env:=by rfl)
  (hpl:(K8 pos (Jf es X.env)).any (·.1)=false:=by rfl):VE K X m (.Call (.Name x p0) (e::es) [] pos) (iz (spF K p) [] E0 tr) (He p vr):=⟨kn E hr ha.pe hk hg hdb he hpl,fun H0 Z U H S Q C k t hc=>
 ha.snd H0 Z U H S _ _ k t fun vs H1 rs S1 k1 st1 rrs zq1=>by
  obtain ⟨ds,e,q⟩:=zq1
  have ra:Reps K Any SomeF H1 (vs++[]) ds:=by
   rw [KL]
   refine (rrs.allD e).mono (fun _ _ _=>⟨trivial,rfl⟩) fun o f=>?_
   obtain ⟨a,ea,_⟩:=f rfl
   rw [ea]
   exact Option.some_ne_none a
  refine ⟨ds,_,ra,q,fun d v H' q fl g r=>?_⟩
  refine hc v H' (.d d) S1 (k1.grow g) (st1.trans (.grow g)) (show Rep K _ _ H' v d from ?_) (q fl)
  exact ((r.flat (F':=fun _=>False) fl).avoid (N':=NM Z U S1) (fun a z=>by
   have e:=k1.mo (Classical.not_not.mp z)
   rw [g a e.ne];exact e) fun a f=>f.elim).mono (fun _ n _=>⟨n,rfl⟩) fun _ f=>f.elim⟩
def Hf (p:List D->(D->Prop)->Prop) (Q:VR->List Sl->Prop):List VR->List Sl->Prop:=fun rs S1=>∃ds,allD rs=some ds/\p ds fun d=>flat d=true->Q (.d d) S1
theorem Hg (h:vr S (Hf p Q)):He p vr S Q:=h
theorem DT (e:allD rs=some ds) (h:p ds fun d=>flat d=true->Q (.d d) S):Hf p Q rs S:=⟨ds,e,h⟩
end
end VL
end
section
namespace ST
open PySem PySem.SetTable
def adv (mask:Nat) (p:Probe):Probe:=
 if p.more > 0 then { p with j:=p.j+1,more:=p.more-1 } else
 { p with j:=(leap mask p.i p.perturb).1,more:=runEnd mask (leap mask p.i p.perturb).1-(leap mask p.i p.perturb).1,i:=(leap mask p.i p.perturb).1,perturb:=(leap mask p.i p.perturb).2 }
def at0 (mask i pt:Nat):Probe:={ j:=i,more:=runEnd mask i-i,i,perturb:=pt,dummy:=none }
def pth (mask b:Nat):Nat->Probe
 | 0=>at0 mask (b%(mask+1)) b
 | s+1=>adv mask (pth mask b s)
def lp (mask b:Nat):Nat->Nat×Nat
 | 0=>(b%(mask+1),b)
 | n+1=>leap mask (lp mask b n).1 (lp mask b n).2
theorem kM (mask i:Nat):i<=runEnd mask i/\runEnd mask i<=i+9:=by unfold runEnd;split <;> lia
theorem jD {mask i:Nat} (h:i<=mask):runEnd mask i<=mask:=by unfold runEnd;split <;> lia
theorem ig {mask b s i pt:Nat} (h:pth mask b s=at0 mask i pt):∀k,k<=runEnd mask i-i->pth mask b (s+k)={ at0 mask i pt with j:=i+k,more:=runEnd mask i-i-k }
 | 0,_=>h
 | k+1,hk=>by
  have ih:=ig h k (by lia)
  show adv mask (pth mask b (s+k))=_
  rw [ih]
  unfold adv
  rw [if_pos (show runEnd mask i-i-k > 0 by lia)]
  simp only [at0,Probe.mk.injEq]
  exact ⟨by lia,by lia,trivial,trivial,trivial⟩
theorem qu {mask b s i pt:Nat} (h:pth mask b s=at0 mask i pt):pth mask b (s+(runEnd mask i-i)+1)=at0 mask (leap mask i pt).1 (leap mask i pt).2:=by
 have r:=ig h _ (IS _)
 show adv mask (pth mask b (s+(runEnd mask i-i)))=_
 rw [r]
 unfold adv
 rw [if_neg (show ¬ runEnd mask i-i-(runEnd mask i-i) > 0 by lia)]
 rfl
theorem vy (mask b:Nat):∀L,∃s,s<=10*L/\pth mask b s=at0 mask (lp mask b L).1 (lp mask b L).2
 | 0=>⟨0,IS _,rfl⟩
 | L+1=>by
  obtain ⟨s,h1,h2⟩:=vy mask b L
  have:=kM mask (lp mask b L).1
  exact ⟨_,by lia,qu h2⟩
theorem vz (mask b:Nat):∀L,(lp mask b L).1<=mask
 | 0=>Nat.lt_succ_iff.mp (Mz _ (OJ _))
 | L+1=>Nat.lt_succ_iff.mp (Mz _ (OJ _))
theorem Bf (mask b:Nat):∀L,(lp mask b L).2=b / 32 ^ L
 | 0=>by simp [lp]
 | L+1=>by
  show (lp mask b L).2 / 32=_
  rw [Bf mask b L,Nat.div_div_eq_div_mul,Ma]
theorem DU {mask b L:Nat} (hb:b < 2 ^ 64) (hL:13<=L):(lp mask b L).2=0:=by
 rw [Bf]
 refine Nat.div_eq_of_lt (Js hb ?_)
 exact KB (show 2 ^ 64<=32 ^ 13 by decide) (Nat.pow_le_pow_right (by decide) hL)
def un:Nat->Nat->Nat
 | 0,x=>x
 | n+1,x=>5*un n x+1
theorem oP (a x:Nat):∀b,un (a+b) x=un b (un a x)
 | 0=>rfl
 | b+1=>by show 5*un (a+b) x+1=5*un b (un a x)+1;rw [oP a x b]
theorem vA:∀k,∃e c,e=2 ^ k*(2*c+1)/\∀x,un (2 ^ k) x=(1+4*e)*x+e
 | 0=>⟨1,0,rfl,fun x=>by show 5*x+1=_;lia⟩
 | k+1=>by
  obtain ⟨e,c,h1,h2⟩:=vA k
  refine ⟨2*e*(1+2*e),c+e*(2*c+1),?_,fun x=>?_⟩
  ·rw [Ma];subst h1;generalize 2 ^ k=m;grind
  ·rw [Ma,show 2 ^ k*2=2 ^ k+2 ^ k by lia,oP,h2,h2]
   grind
theorem cover:∀k x y,y < 2 ^ k->∃n,n < 2 ^ k/\un n x%2 ^ k=y
 | 0,x,y,h=>⟨0,by decide,by simp at h ⊢;lia⟩
 | k+1,x,y,h=>by
  have pk:0 < 2 ^ k:=Nat.pow_pos (by decide)
  rw [Ma] at h ⊢
  obtain ⟨n,hn,e⟩:=cover k x (y%2 ^ k) (Mz _ pk)
  obtain ⟨q,c,h1,h2⟩:=vA k
  generalize hz:un n x%(2 ^ k*2)=z at *
  have zl:z < 2 ^ k*2:=by rw [<- hz];exact Mz _ (by lia)
  have zm:z%2 ^ k=y%2 ^ k:=by
   rw [<- e,<- hz]
   exact Nat.mod_mul_right_mod _ _ _
  by_cases hy:z=y
  ·exact ⟨n,by lia,by lia⟩
  ·refine ⟨n+2 ^ k,by lia,?_⟩
   rw [oP,h2]
   have s1:(1+4*q)*un n x+q=un n x+2 ^ k+(2 ^ k*2)*(c+2*(2*c+1)*un n x):=by
    rw [h1]
    generalize 2 ^ k=m
    generalize un n x=u
    grind
   rw [s1,Nat.add_mul_mod_self_left,Qr,hz]
   have w1:2 ^ k%(2 ^ k*2)=2 ^ k:=MQ (by lia)
   rw [w1]
   have d1:=Nat.mod_add_div z (2 ^ k)
   have d2:=Nat.mod_add_div y (2 ^ k)
   have c1:z / 2 ^ k < 2:=OW zl
   have c2:y / 2 ^ k < 2:=OW h
   have two:∀a:Nat,a < 2->a=0\/a=1:=fun a h=>by lia
   have c3:z / 2 ^ k=0\/z / 2 ^ k=1:=two _ c1
   have c4:y / 2 ^ k=0\/y / 2 ^ k=1:=two _ c2
   have ml:z%2 ^ k < 2 ^ k:=Mz _ pk
   rcases c3 with c3 | c3 <;> rcases c4 with c4 | c4 <;> rw [c3] at d1 <;> rw [c4] at d2
   ·exact absurd (by lia) hy
   ·rw [MQ (show z+2 ^ k < 2 ^ k*2 by lia)];lia
   ·rw [show z+2 ^ k=z%2 ^ k+2 ^ k*2 by lia,Nat.add_mod_right,MQ (show z%2 ^ k < 2 ^ k*2 by lia)];lia
   ·exact absurd (by lia) hy
theorem Bg {mask b:Nat} (hb:b < 2 ^ 64):∀n,(lp mask b (13+n)).1=un n (lp mask b 13).1%(mask+1)
 | 0=>(MQ (Nat.lt_succ_iff.mpr (vz _ _ _))).symm
 | n+1=>by
  show ((lp mask b (13+n)).1*5+1+(lp mask b (13+n)).2 / 32)%(mask+1)=(5*un n (lp mask b 13).1+1)%(mask+1)
  rw [DU hb (by lia),Bg hb n,Nat.zero_div,Ny,Qr,Nat.mul_mod,Nat.mod_mod,<- Nat.mul_mod,<- Qr,Nat.mul_comm]
theorem vB {mask b k y:Nat} (hk:mask+1=2 ^ k) (hb:b < 2 ^ 64) (hy:y<=mask):∃L,L<=13+mask/\(lp mask b L).1=y:=by
 obtain ⟨n,hn,e⟩:=cover k (lp mask b 13).1 y (by lia)
 exact ⟨13+n,by lia,by rw [Bg hb,hk];exact e⟩
theorem zf {mask b k y:Nat} (hk:mask+1=2 ^ k) (hb:b < 2 ^ 64) (hy:y<=mask):∃s,s<=10*(13+mask)/\(pth mask b s).j=y:=by
 obtain ⟨L,hL,e⟩:=vB hk hb hy
 obtain ⟨s,hs,e2⟩:=vy mask b L
 exact ⟨s,by lia,by rw [e2];exact e⟩
theorem qv (h:Int):bits h < 2 ^ 64:=by
 unfold bits
 have h1:=OL h (show (2 ^ 64:Int)≠0 by decide)
 have h2:=Nz h (show (0:Int) < 2 ^ 64 by decide)
 lia
theorem lO (mask b:Nat):∀s,∃i pt k,i<=mask/\k<=runEnd mask i-i/\pth mask b s={ at0 mask i pt with j:=i+k,more:=runEnd mask i-i-k }
 | 0=>⟨_,b,0,Nat.lt_succ_iff.mp (Mz b (OJ mask)),Kk _,rfl⟩
 | s+1=>by
  obtain ⟨i,pt,k,h1,h2,e⟩:=lO mask b s
  show ∃_ _ _,_/\_/\adv mask (pth mask b s)=_
  rw [e]
  by_cases hm:runEnd mask i-i-k > 0
  ·refine ⟨i,pt,k+1,h1,by lia,?_⟩
   unfold adv
   rw [if_pos (show runEnd mask i-i-k > 0 from hm)]
   simp only [at0,Probe.mk.injEq]
   exact ⟨by lia,by lia,trivial,trivial,trivial⟩
  ·refine ⟨(leap mask i pt).1,(leap mask i pt).2,0,Nat.lt_succ_iff.mp (Mz _ (OJ mask)),Kk _,?_⟩
   unfold adv
   rw [if_neg (show ¬ runEnd mask i-i-k > 0 from hm)]
   rfl
theorem zg (mask b s:Nat):(pth mask b s).j<=mask:=by
 obtain ⟨i,pt,k,h1,h2,e⟩:=lO mask b s
 rw [e]
 have:=jD h1
 show i+k<=mask
 lia
theorem rX (mask b s:Nat):(pth mask b s).dummy=none:=by
 obtain ⟨i,pt,k,h1,h2,e⟩:=lO mask b s
 rw [e];rfl
theorem jE (xs:Array Nat) (j:Nat) (hr:xs.toList.Pairwise (· < ·)):∀fuel lo hi,hi-lo<=fuel->lo<=hi->hi<=xs.size->(∀i x,i < lo->xs[i]?=some x->x < j)->(∀i x,hi<=i->xs[i]?=some x->j<=x) ->
  below.go xs j fuel lo hi<=xs.size/\(∀i x,i < below.go xs j fuel lo hi->xs[i]?=some x->x < j)/\∀i x,below.go xs j fuel lo hi<=i->xs[i]?=some x->j<=x
 | 0,lo,hi,h1,h2,h3,h4,h5=>by
  have e:lo=hi:=by lia
  unfold below.go
  exact ⟨by lia,h4,by rw [e];exact h5⟩
 | fuel+1,lo,hi,h1,h2,h3,h4,h5=>by
  unfold below.go
  by_cases hl:lo < hi
  ·rw [if_pos hl]
   have hm:(lo+hi) / 2 < xs.size:=by lia
   have eg:xs.getD ((lo+hi) / 2) j=xs[(lo+hi) / 2]:=by simp [L9,hm]
   have up:∀i i' x x',i < i'->xs[i]?=some x->xs[i']?=some x'->x < x':=fun i i' x x' hi' e e'=>by
    rw [Lh] at hr
    rw [Nn] at e e'
    obtain ⟨a1,a2⟩:=e
    obtain ⟨b1,b2⟩:=e'
    have:=hr i i' (by simpa using a1) (by simpa using b1) hi'
    simp only [OX] at this
    rw [a2,b2] at this
    exact this
   have em:xs[(lo+hi) / 2]?=some xs[(lo+hi) / 2]:=Jw hm
   by_cases hc:xs.getD ((lo+hi) / 2) j < j
   ·rw [if_pos hc]
    rw [eg] at hc
    refine jE xs j hr fuel ((lo+hi) / 2+1) hi (by lia) (by lia) h3 (fun i x hi' e=>?_) h5
    rcases Mb i ((lo+hi) / 2) with h | h
    ·have:=up _ _ _ _ h e em;lia
    ·have:i=(lo+hi) / 2:=by lia
     subst this
     rw [em] at e;injection e with e;lia
   ·rw [if_neg hc]
    rw [eg] at hc
    refine jE xs j hr fuel lo ((lo+hi) / 2) (by lia) (by lia) (by lia) h4 (fun i x hi' e=>?_)
    rcases Mb ((lo+hi) / 2) i with h | h
    ·have:=up _ _ _ _ h em e;lia
    ·have:i=(lo+hi) / 2:=by lia
     subst this
     rw [em] at e;injection e with e;lia
  ·rw [if_neg hl]
   have el:lo=hi:=by lia
   exact ⟨by lia,h4,by rw [el];exact h5⟩
theorem jF {xs:Array Nat} (hr:xs.toList.Pairwise (· < ·)) (j:Nat):below xs j<=xs.size/\(∀i x,i < below xs j->xs[i]?=some x->x < j)/\∀i x,below xs j<=i->xs[i]?=some x->j<=x:=
 jE xs j hr xs.size 0 xs.size (by lia) (Kk _) (IS _) (fun i x h=>absurd h (Kn _)) (fun i x h e=>by rw [K7 h] at e;cases e)
theorem below_at {xs:Array Nat} (hr:xs.toList.Pairwise (· < ·)) {i j:Nat} (e:xs[i]?=some j):below xs j=i:=by
 obtain ⟨h1,h2,h3⟩:=jF hr j
 rcases LO (below xs j) i with h | h | h
 ·obtain ⟨hi,e'⟩:=Array.getElem?_eq_some_iff.mp e
  have hb:below xs j < xs.size:=by lia
  have:=h3 (below xs j) xs[below xs j] (IS _) (Jw hb)
  rw [Lh] at hr
  have r:=hr (below xs j) i (by simpa using hb) (by simpa using hi) h
  simp only [OX] at r
  lia
 ·exact h
 ·have:=h2 i j h e;lia
theorem rY {t:SetTable} (hr:t.place.toList.Pairwise (· < ·)) {i j:Nat} (e:t.place[i]?=some j):t.slot j=.live i:=by
 unfold slot
 simp only [below_at hr e,e,beq_self_eq_true,if_true]
theorem oQ {t:SetTable} (hd:t.dummies=#[]) (j:Nat):(t.slot j=.empty/\j∉t.place.toList\/∃i,t.slot j=.live i/\t.place[i]?=some j)\/(t.slot j=.empty/\t.place[below t.place j]?≠some j):=by
 unfold slot
 by_cases h:t.place[below t.place j]?=some j
 ·exact .inl (.inr ⟨below t.place j,by simp [h],h⟩)
 ·refine .inr ⟨?_,h⟩
  have hb:(t.place[below t.place j]?==some j)=false:=by simpa using h
  simp only [hb,Jk,if_false]
  rw [hd]
  rfl
theorem vD {t:SetTable} (hr:t.place.toList.Pairwise (· < ·)) (hd:t.dummies=#[]) (j:Nat):(t.slot j=.empty/\j∉t.place.toList)\/∃i,t.slot j=.live i/\t.place[i]?=some j:=by
 rcases oQ hd j with h | ⟨h1,h2⟩
 ·exact h
 ·refine .inl ⟨h1,fun hm=>h2 ?_⟩
  obtain ⟨i,hi,e⟩:=List.mem_iff_getElem.mp hm
  have e2:t.place[i]?=some j:=by
   rw [Nn]
   exact ⟨by simpa using hi,by simpa using e⟩
  rw [below_at hr e2,e2]
theorem dA {α:Type} (xs:Array α) (p:Nat) (x:α):(insertAt xs p x).toList=xs.toList.take p++x::xs.toList.drop p:=by
 unfold insertAt
 simp [OS,List.extract]
 try rw [Ml (by simp)]
theorem ij {α:Type} [DecidableEq α]:∀{xs g:List α},xs.Nodup->(∀x∈xs,x∈g)->xs.length<=g.length
 | [],_,_,_=>Kk _
 | x::r,g,nd,h=>by
  rw [Nd] at nd
  have hx:=h x IQ
  have:=ij (xs:=r) (g:=g.erase x) nd.2 fun y hy=>(OY (show y≠x from fun e=>nd.1 (by subst e;exact hy))).mpr (h y (IZ _ hy))
  rw [N0 hx] at this
  have:0 < g.length:=Ou hx
  simp only [JZ];lia
theorem oR {mask:Nat} {g:List Nat} (h:g.length<=mask):∃y,y<=mask/\y∉g:=by
 refine JE fun hn=>?_
 have:=ij (xs:=JS (mask+1)) (g:=g) List.nodup_range fun x hx=>JE fun hx'=>hn ⟨x,Nat.lt_succ_iff.mp (List.mem_range.mp hx),hx'⟩
 rw [Kj] at this
 lia
def Rc (mask:Nat) (g:List Nat) (j:Nat) (h:Int):Prop:=∃s,(pth mask (bits h) s).j=j/\∀v,v < s->(pth mask (bits h) v).j∈g
theorem Rc.more {mask:Nat} {g g':List Nat} {j:Nat} {h:Int} (r:Rc mask g j h) (e:∀x∈g,x∈g'):Rc mask g' j h:=let ⟨s,h1,h2⟩:=r;⟨s,h1,fun v hv=>e _ (h2 v hv)⟩
structure Tb (t:SetTable) (hs:List Int):Prop where
 pow:∃k,t.mask+1=2 ^ k
 nd:t.dummies=#[]
 len:t.place.toList.length=hs.length
 ris:t.place.toList.Pairwise (· < ·)
 top:∀j∈t.place.toList,j<=t.mask
 rch:∀q∈t.place.toList.zip hs,Rc t.mask t.place.toList q.1 q.2
theorem Tb.fresh (finger moves:Nat) (led:Bool):Tb (fresh finger moves led) []:=by
 exact { pow:=⟨3,rfl⟩,nd:=rfl,len:=rfl,ris:=NV,top:=fun j h=>absurd h Ko,rch:=fun q h=>absurd h Ko }
theorem nt {t:SetTable} {hs:List Int} (T:Tb t hs) {f:Nat->Int} {h:Int}:∀(d s fuel:Nat),(pth t.mask (bits h) (s+d)).j∉t.place.toList->d < fuel ->
    ∃u,s<=u/\u<=s+d/\(∀v,s<=v->v < u->∃i,t.place[i]?=some (pth t.mask (bits h) v).j/\f i≠h) /\
      ((pth t.mask (bits h) u).j∉t.place.toList/\probe.go t f h fuel (pth t.mask (bits h) s)=some (.empty (pth t.mask (bits h) u).j none) \/
       ∃i,t.place[i]?=some (pth t.mask (bits h) u).j/\f i=h/\u < s+d/\probe.go t f h fuel (pth t.mask (bits h) s)=some (.candidate (pth t.mask (bits h) u).j i (pth t.mask (bits h) (u+1))))
  | d,s,0,_,hf=>absurd hf (Kn _)
  | d,s,fuel+1,he,hf=>by
    have go1:probe.go t f h (fuel+1) (pth t.mask (bits h) s)=match t.slot (pth t.mask (bits h) s).j with
      | .empty=>some (.empty (pth t.mask (bits h) s).j (pth t.mask (bits h) s).dummy)
      | .dummy=>probe.go t f h fuel (t.advance { pth t.mask (bits h) s with dummy:=some (pth t.mask (bits h) s).j })
      | .live i=>if f i==h then some (.candidate (pth t.mask (bits h) s).j i (t.advance (pth t.mask (bits h) s))) else probe.go t f h fuel (t.advance (pth t.mask (bits h) s)):=rfl
    rcases vD T.ris T.nd (pth t.mask (bits h) s).j with ⟨h1,h2⟩ | ⟨i,h1,h2⟩
    · refine ⟨s,IS _,by lia,fun v a b=>absurd a (by lia),.inl ⟨h2,?_⟩⟩
      rw [go1,h1,rX]
    · have hd:d≠0:=fun z=>by
        subst z
        refine he ?_
        rw [Ny]
        obtain ⟨hi,e⟩:=Array.getElem?_eq_some_iff.mp h2
        exact List.mem_iff_getElem.mpr ⟨i,by simpa using hi,by simpa using e⟩
      by_cases hh:f i=h
      · refine ⟨s,IS _,by lia,fun v a b=>absurd a (by lia),.inr ⟨i,h2,hh,by lia,?_⟩⟩
        rw [go1,h1]
        simp only [hh,beq_self_eq_true,if_true]
        rfl
      · obtain ⟨u,u1,u2,u3,u4⟩:=nt T (f:=f) (d-1) (s+1) fuel (by rw [show s+1+(d-1)=s+d by lia];exact he) (by lia)
        have g2:probe.go t f h (fuel+1) (pth t.mask (bits h) s)=probe.go t f h fuel (pth t.mask (bits h) (s+1)):=by
          rw [go1,h1]
          have hb:(f i==h)=false:=by simpa using hh
          simp only [hb,Jk,if_false]
          rfl
        refine ⟨u,by lia,by lia,fun v a b=>?_,?_⟩
        · rcases Pu a with e | e
          · subst e;exact ⟨i,h2,hh⟩
          · exact u3 v e b
        · rw [g2]
          rcases u4 with u4 | ⟨i',a1,a2,a3,a4⟩
          · exact .inl u4
          · exact .inr ⟨i',a1,a2,by lia,a4⟩
end ST
end
section
namespace ST
open PySem PySem.SetTable
theorem has_none (j:Nat):has #[] j=false:=rfl
theorem DV {t:SetTable} (hd:t.dummies=#[]) (y:Nat):t.put y=({ t with place:=insertAt t.place (below t.place y) y },below t.place y):=by
 unfold put
 rw [hd,has_none]
 simp only [Jk,if_false]
 try rw [<- hd]
theorem qw {α β:Type}:∀(p:Nat) (xs:List α) (ys:List β) (a:α) (b:β),xs.length=ys.length->(xs.take p++a::xs.drop p).zip (ys.take p++b::ys.drop p)=(xs.zip ys).take p++(a,b)::(xs.zip ys).drop p
 | 0,xs,ys,a,b,_=>rfl
 | p+1,[],[],a,b,_=>rfl
 | p+1,x::xs,y::ys,a,b,h=>by
  simp only [O9,List.drop_succ_cons,JU,Pp]
  rw [qw p xs ys a b (by simpa using h)]
 | p+1,[],y::ys,a,b,h=>by simp at h
 | p+1,x::xs,[],a,b,h=>by simp at h
theorem zh {l:List Nat} {y p:Nat} (hr:l.Pairwise (· < ·)) (h1:∀i x,i < p->l[i]?=some x->x < y) (h2:∀i x,p<=i->l[i]?=some x->y < x):(l.take p++y::l.drop p).Pairwise (· < ·):=by
 have lo:∀a∈l.take p,a < y:=fun a ha=>by
  obtain ⟨i,hi,e⟩:=List.mem_iff_getElem.mp ha
  rw [P1] at e
  have hi':i < p/\i < l.length:=by rw [Kf] at hi;lia
  exact h1 i a hi'.1 (List.getElem?_eq_some_iff.mpr ⟨hi'.2,e⟩)
 have up:∀a∈l.drop p,y < a:=fun a ha=>by
  obtain ⟨i,hi,e⟩:=List.mem_iff_getElem.mp ha
  rw [P3] at e
  have hi':p+i < l.length:=by rw [Og] at hi;lia
  exact h2 (p+i) a (by lia) (List.getElem?_eq_some_iff.mpr ⟨hi',e⟩)
 rw [Li,Nu]
 have sp:(l.take p++l.drop p).Pairwise (· < ·):=by rw [Ju];exact hr
 rw [Li] at sp
 refine ⟨sp.1,⟨up,sp.2.1⟩,fun a ha b hb=>?_⟩
 rcases List.mem_cons.mp hb with rfl | hb
 ·exact lo a ha
 ·exact sp.2.2 a ha b hb
theorem gF {α:Type} {l:List α} {p:Nat} {a b:α}:a∈l.take p++b::l.drop p↔a=b\/a∈l:=by
 conv=>rhs;rw [<- Ju p l]
 simp only [KO,KA]
 constructor
 ·rintro (h | h | h)
  ·exact .inr (.inl h)
  ·exact .inl h
  ·exact .inr (.inr h)
 ·rintro (h | h | h)
  ·exact .inr (.inl h)
  ·exact .inl h
  ·exact .inr (.inr h)
theorem iR {α:Type} {l:List α} {p:Nat} {b:α}:(l.take p++b::l.drop p).length=l.length+1:=by
 conv=>rhs;rw [<- Ju p l]
 simp only [Ji,JZ];lia
theorem Tb.put {t:SetTable} {hs:List Int} (T:Tb t hs) {h:Int} {u:Nat} (hn:(pth t.mask (bits h) u).j∉t.place.toList) (hv:∀v,v < u->(pth t.mask (bits h) v).j∈t.place.toList) :
  Tb { t with place:=insertAt t.place (below t.place (pth t.mask (bits h) u).j) (pth t.mask (bits h) u).j } (hs.take (below t.place (pth t.mask (bits h) u).j)++h::hs.drop (below t.place (pth t.mask (bits h) u).j)):=by
 generalize hy:(pth t.mask (bits h) u).j=y at *
 obtain ⟨b1,b2,b3⟩:=jF T.ris y
 generalize below t.place y=p at *
 have e:(insertAt t.place p y).toList=t.place.toList.take p++y::t.place.toList.drop p:=dA _ _ _
 refine ⟨T.pow,T.nd,?_,?_,fun j hj=>?_,fun q hq=>?_⟩
 ·show (insertAt t.place p y).toList.length=_
  rw [e,iR,iR,T.len]
 ·show (insertAt t.place p y).toList.Pairwise _
  rw [e]
  refine zh T.ris (fun i x hi ex=>b2 i x hi (by simpa using ex)) (fun i x hi ex=>?_)
  have:=b3 i x hi (by simpa using ex)
  rcases Pu this with e2 | e2
  ·subst e2;exact absurd (Jy ex) hn
  ·exact e2
 ·have hj:j∈(insertAt t.place p y).toList:=hj
  rw [e,gF] at hj
  rcases hj with rfl | hj
  ·show j<=t.mask
   rw [<- hy];exact zg _ _ _
  ·exact T.top j hj
 ·have hq:q∈(insertAt t.place p y).toList.zip (hs.take p++h::hs.drop p):=hq
  show Rc t.mask (insertAt t.place p y).toList q.1 q.2
  rw [e] at hq ⊢
  rw [qw _ _ _ _ _ T.len,gF] at hq
  rcases hq with rfl | hq
  ·exact ⟨u,hy,fun v hv'=>gF.mpr (.inr (hv v hv'))⟩
  ·exact (T.rch q hq).more fun x hx=>gF.mpr (.inr hx)
structure Ow (mask:Nat) (hs:List Int) (ow:Array (Option Nat)):Prop where
 size:ow.size=mask+1
 ex:∀i:Nat,i < hs.length->∃j:Nat,ow[j]?=some (some i)
 un:∀(j j' i:Nat),ow[j]?=some (some i)->ow[j']?=some (some i)->j=j'
 at_:∀(j i:Nat),ow[j]?=some (some i)->∃h,hs[i]?=some h/\∃s,(pth mask (bits h) s).j=j/\∀v,v < s->∃i',ow[(pth mask (bits h) v).j]?=some (some i')
theorem zi {mask:Nat}:Ow mask [] (Mi (mask+1) none):=by
 have no:∀(j i:Nat),¬ (Mi (mask+1) (Option.none (α:=Nat)))[j]?=some (some i):=fun j i e=>by
  rw [Array.getElem?_replicate] at e
  split at e <;> simp at e
 exact ⟨by simp,fun i hi=>absurd hi (Kn _),fun j j' i e=>absurd e (no j i),fun j i e=>absurd e (no j i)⟩
theorem zj {mask:Nat} {hs:List Int} {ow:Array (Option Nat)} (O:Ow mask hs ow) (hl:hs.length<=mask):∃y,y<=mask/\ow[y]?=some none:=by
 refine JE fun hn=>?_
 have all:∀j,j < mask+1->∃i,ow[j]?=some (some i):=fun j hj=>by
  have hj':j < ow.size:=by rw [O.size];exact hj
  have e:ow[j]?=some ow[j]:=Jw hj'
  cases hc:ow[j] with
  | none=>exact absurd ⟨j,by lia,by rw [e,hc]⟩ hn
  | some i=>exact ⟨i,by rw [e,hc]⟩
 let g:Nat->Nat:=fun j=>match ow[j]? with | some (some i)=>i | _=>0
 have gi:∀j,j < mask+1->ow[j]?=some (some (g j)):=fun j hj=>by
  obtain ⟨i,e⟩:=all j hj
  show ow[j]?=some (some (match ow[j]? with | some (some i)=>i | _=>0))
  rw [e]
 have nd:((JS (mask+1)).map g).Nodup:=by
  rw [List.Nodup,KZ]
  refine Kt (R:=(· < ·)) (fun {a b} ha hb hab e=>?_) Mn
  have:=O.un a b (g a) (gi a (List.mem_range.mp ha)) (by rw [e];exact gi b (List.mem_range.mp hb))
  lia
 have:=ij (g:=JS hs.length) nd fun x hx=>by
  obtain ⟨j,hj,rfl⟩:=List.mem_map.mp hx
  obtain ⟨h,e,_⟩:=O.at_ j _ (gi j (List.mem_range.mp hj))
  exact List.mem_range.mpr (List.getElem?_eq_some_iff.mp e).1
 rw [IR,Kj,Kj] at this
 lia
theorem qx {mask b:Nat} {ow:Array (Option Nat)} (hsz:ow.size=mask+1):∀(d L fuel s:Nat),ow[(lp mask b (L+d)).1]?=some none->d < fuel->pth mask b s=at0 mask (lp mask b L).1 (lp mask b L).2->(∀v,v < s->∃i',ow[(pth mask b v).j]?=some (some i')) ->
  ∃u,layClean.free mask ow fuel (lp mask b L).1 (lp mask b L).2=some (pth mask b u).j/\ow[(pth mask b u).j]?=some none/\∀v,v < u->∃i',ow[(pth mask b v).j]?=some (some i')
 | d,L,0,s,_,hf,_,_=>absurd hf (Kn _)
 | d,L,fuel+1,s,he,hf,hp,hv=>by
  have top:=vz mask b L
  have rt:=jD top
  have rl:=kM mask (lp mask b L).1
  have step:=ig hp
  have stepj:∀k,k<=runEnd mask (lp mask b L).1-(lp mask b L).1->(pth mask b (s+k)).j=(lp mask b L).1+k:=fun k hk=>by rw [step k hk]
  unfold layClean.free
  cases hfd:(JS (runEnd mask (lp mask b L).1+1-(lp mask b L).1)).find? fun k=>(ow.getD ((lp mask b L).1+k) (some 0)).isNone with
  | some k=>
   obtain ⟨a1,a2⟩:=List.find?_eq_some_iff_append.mp hfd
   obtain ⟨as,bs,e,a3⟩:=a2
   have hk:k < runEnd mask (lp mask b L).1+1-(lp mask b L).1:=List.mem_range.mp (by rw [e];simp)
   have hk':(lp mask b L).1+k < ow.size:=by lia
   have eg:ow.getD ((lp mask b L).1+k) (some 0)=ow[(lp mask b L).1+k]:=by simp [L9,hk']
   refine ⟨s+k,by rw [stepj k (by lia)],?_,fun v hv'=>?_⟩
   ·rw [stepj k (by lia),Jw hk']
    rw [eg] at a1
    cases hc:ow[(lp mask b L).1+k] with
    | none=>rfl
    | some z=>rw [hc] at a1;cases a1
   ·rcases Mb v s with h | h
    ·exact hv v h
    ·have hm:v-s∈as:=by
      have r1:v-s∈JS (runEnd mask (lp mask b L).1+1-(lp mask b L).1):=List.mem_range.mpr (by lia)
      have pw:=Mn (n:=runEnd mask (lp mask b L).1+1-(lp mask b L).1)
      rw [e] at r1 pw
      rcases List.mem_append.mp r1 with h1 | h1
      ·exact h1
      ·rw [Li,Nu] at pw
       rcases List.mem_cons.mp h1 with h2 | h2
       ·lia
       ·have:=pw.2.1.1 _ h2;lia
     have nn:=a3 _ hm
     have hk2:(lp mask b L).1+(v-s) < ow.size:=by lia
     have eg2:ow.getD ((lp mask b L).1+(v-s)) (some 0)=ow[(lp mask b L).1+(v-s)]:=by simp [L9,hk2]
     rw [eg2] at nn
     have ej:=stepj (v-s) (by lia)
     rw [show s+(v-s)=v by lia] at ej
     rw [ej,Jw hk2]
     cases hc:ow[(lp mask b L).1+(v-s)] with
     | none=>rw [hc] at nn;simp at nn
     | some z=>exact ⟨z,rfl⟩
  | none=>
   rw [List.find?_eq_none] at hfd
   have full:∀k,k<=runEnd mask (lp mask b L).1-(lp mask b L).1->∃i',ow[(lp mask b L).1+k]?=some (some i'):=fun k hk=>by
    have nn:=hfd k (List.mem_range.mpr (by lia))
    have hk2:(lp mask b L).1+k < ow.size:=by lia
    have eg2:ow.getD ((lp mask b L).1+k) (some 0)=ow[(lp mask b L).1+k]:=by simp [L9,hk2]
    rw [eg2] at nn
    rw [Jw hk2]
    cases hc:ow[(lp mask b L).1+k] with
    | none=>rw [hc] at nn;simp at nn
    | some z=>exact ⟨z,rfl⟩
   have hd:d≠0:=fun z=>by
    subst z
    obtain ⟨i',e⟩:=full 0 (Kk _)
    rw [Ny] at he e
    rw [he] at e;cases e
   obtain ⟨u,u1,u2,u3⟩:=qx hsz (d-1) (L+1) fuel (s+(runEnd mask (lp mask b L).1-(lp mask b L).1)+1) (by rw [show L+1+(d-1)=L+d by lia];exact he) (by lia) (qu hp) (fun v hv'=>by
    rcases Mb v s with h | h
    ·exact hv v h
    ·have ej:=stepj (v-s) (by lia)
     rw [show s+(v-s)=v by lia] at ej
     rw [ej]
     exact full _ (by lia))
   exact ⟨u,u1,u2,u3⟩
theorem Ow.lay {mask k:Nat} (hk:mask+1=2 ^ k) {hs:List Int} {ow:Array (Option Nat)} (O:Ow mask hs ow) (hl:hs.length < mask) (h:Int) :
  ∃j,layClean.free mask ow (turns mask) (bits h%(mask+1)) (bits h)=some j/\Ow mask (hs++[h]) (ow.setIfInBounds j (some hs.length)):=by
 obtain ⟨y,y1,y2⟩:=zj O (by lia)
 obtain ⟨L,L1,L2⟩:=vB (b:=bits h) hk (qv h) y1
 obtain ⟨u,u1,u2,u3⟩:=qx (b:=bits h) O.size L 0 (turns mask) 0 (by rw [L7,L2];exact y2) (by unfold turns;lia) rfl (fun v hv=>absurd hv (Kn _))
 refine ⟨_,u1,?_⟩
 generalize hj:(pth mask (bits h) u).j=j at *
 have jl:j < ow.size:=(Array.getElem?_eq_some_iff.mp u2).1
 have old:∀a i,ow[a]?=some (some i)->(ow.setIfInBounds j (some hs.length))[a]?=some (some i):=fun a i e=>by
  rw [Ku]
  by_cases ea:j=a
  ·subst ea;rw [u2] at e;cases e
  ·rw [if_neg ea];exact e
 have new:(ow.setIfInBounds j (some hs.length))[j]?=some (some hs.length):=by
  rw [Ku,if_pos rfl,if_pos jl]
 have inv:∀a i,(ow.setIfInBounds j (some hs.length))[a]?=some (some i)->(a=j/\i=hs.length)\/ow[a]?=some (some i):=fun a i e=>by
  rw [Ku] at e
  by_cases ea:j=a
  ·rw [if_pos ea,if_pos jl] at e
   injection e with e;injection e with e
   exact .inl ⟨ea.symm,e.symm⟩
  ·rw [if_neg ea] at e;exact .inr e
 have lt:∀a i,ow[a]?=some (some i)->i < hs.length:=fun a i e=>by
  obtain ⟨g,e2,_⟩:=O.at_ a i e
  exact (List.getElem?_eq_some_iff.mp e2).1
 refine ⟨by simp [O.size],fun i hi=>?_,fun a a' i e e'=>?_,fun a i e=>?_⟩
 ·rw [Ji,Kc] at hi
  rcases Mb i hs.length with h1 | h1
  ·obtain ⟨a,ea⟩:=O.ex i h1
   exact ⟨a,old a i ea⟩
  ·have:i=hs.length:=by lia
   subst this
   exact ⟨j,new⟩
 ·rcases inv a i e with ⟨r1,r2⟩ | r
  ·rcases inv a' i e' with ⟨q1,q2⟩ | q
   ·rw [r1,q1]
   ·have:=lt _ _ q;lia
  ·rcases inv a' i e' with ⟨q1,q2⟩ | q
   ·have:=lt _ _ r;lia
   ·exact O.un a a' i r q
 ·rcases inv a i e with ⟨r1,r2⟩ | r
  ·subst r1;subst r2
   refine ⟨h,by simp,u,hj,fun v hv=>?_⟩
   obtain ⟨i',e'⟩:=u3 v hv
   exact ⟨i',old _ _ e'⟩
  ·obtain ⟨g,e2,s,s1,s2⟩:=O.at_ a i r
   refine ⟨g,by rw [Jj (lt _ _ r)];exact e2,s,s1,fun v hv=>?_⟩
   obtain ⟨i',e'⟩:=s2 v hv
   exact ⟨i',old _ _ e'⟩
def DW (mask:Nat) (acc:Option (Array (Option Nat)×Nat)) (h:Int):Option (Array (Option Nat)×Nat):=do
 let (owner,k) <- acc
 let j <- layClean.free mask owner (turns mask) (bits h%(mask+1)) (bits h)
 pure (owner.setIfInBounds j (some k),k+1)
theorem nu {mask k:Nat} (hk:mask+1=2 ^ k):∀(gs hs:List Int) (ow:Array (Option Nat)),Ow mask hs ow->hs.length+gs.length<=mask->∃ow',gs.foldl (DW mask) (some (ow,hs.length))=some (ow',(hs++gs).length)/\Ow mask (hs++gs) ow'
 | [],hs,ow,O,_=>⟨ow,by simp,by simpa using O⟩
 | h::gs,hs,ow,O,hl=>by
  rw [JZ] at hl
  obtain ⟨j,e1,O1⟩:=O.lay hk (by lia) h
  obtain ⟨ow',e2,O2⟩:=nu hk gs (hs++[h]) _ O1 (by rw [Ji,Kc];lia)
  refine ⟨ow',?_,by simpa using O2⟩
  rw [Nf,show DW mask (some (ow,hs.length)) h=some (ow.setIfInBounds j (some hs.length),hs.length+1) by
   show (layClean.free mask ow (turns mask) (bits h%(mask+1)) (bits h)).bind _=_
   rw [e1];rfl]
  rw [Ji,Kc] at e2
  rw [e2]
  simp
theorem nv {mask k:Nat} (hk:mask+1=2 ^ k) (hs:Array Int) (hl:hs.size<=mask):∃ow,layClean mask hs=some ow/\Ow mask hs.toList ow:=by
 obtain ⟨ow,e,O⟩:=nu hk hs.toList [] _ zi (by simpa using hl)
 refine ⟨ow,?_,by simpa using O⟩
 show (hs.foldl (DW mask) (some (Mi (mask+1) none,0))).map (·.1)=_
 rw [<- Array.foldl_toList,show (some (Mi (mask+1) (Option.none (α:=Nat)),0))=some (Mi (mask+1) none,([]:List Int).length) from rfl,e]
 rfl
theorem zk {mask k:Nat} (hk:mask+1=2 ^ k) (finger moves:Nat) (led plain:Bool) (hs:Array Int) (hl:hs.size<=mask) :
  ∃t ord,laid mask finger moves led plain hs=some (t,ord)/\t.mask=mask/\t.led=led/\t.plain=plain/\t.moves=moves/\ord.toList.Perm (JS hs.size)/\Tb t (ord.toList.map fun i=>hs.getD i 0):=by
 obtain ⟨ow,e,O⟩:=nv hk hs hl
 let live:=(JS (mask+1)).filterMap fun j=>(ow.getD j none).map (j,·)
 have mem:∀j i,(j,i)∈live↔ow[j]?=some (some i):=fun j i=>by
  show (j,i)∈List.filterMap _ _↔_
  rw [List.mem_filterMap]
  constructor
  ·rintro ⟨a,ha,hm⟩
   cases hc:ow.getD a none with
   | none=>rw [hc] at hm;cases hm
   | some z=>
    rw [hc] at hm
    simp only [Mc,NR,Prod.mk.injEq] at hm
    obtain ⟨rfl,rfl⟩:=hm
    have ha':a < ow.size:=by rw [O.size];exact List.mem_range.mp ha
    rw [Jw ha']
    rw [show ow.getD a none=ow[a] by simp [L9,ha']] at hc
    rw [hc]
  ·intro h
   obtain ⟨hj,hv⟩:=Array.getElem?_eq_some_iff.mp h
   refine ⟨j,List.mem_range.mpr (by rw [<- O.size];exact hj),?_⟩
   rw [show ow.getD j none=ow[j] by simp [L9,hj],hv]
   rfl
 have pw:live.Pairwise (fun a b=>a.1 < b.1):=by
  show List.Pairwise _ (List.filterMap _ _)
  rw [List.pairwise_filterMap]
  refine List.pairwise_lt_range.imp fun {a b} hab x hx y hy=>?_
  cases h1:ow.getD a none with
  | none=>rw [h1] at hx;cases hx
  | some z=>
   cases h2:ow.getD b none with
   | none=>rw [h2] at hy;cases hy
   | some z'=>
    rw [h1] at hx;rw [h2] at hy
    simp only [Mc,NR] at hx hy
    rw [<- hx,<- hy];exact hab
 have pl:(live.map (·.1)).toArray.toList=live.map (·.1):=by simp
 have ol:(live.map (·.2)).toArray.toList=live.map (·.2):=by simp
 refine ⟨{ mask,place:=(live.map (·.1)).toArray,dummies:=#[],finger,led,moves,plain },(live.map (·.2)).toArray,?_,rfl,rfl,rfl,rfl,?_,⟨⟨k,hk⟩,rfl,?_,?_,fun j hj=>?_,fun q hq=>?_⟩⟩
 ·show (layClean mask hs).bind _=_
  rw [e];rfl
 ·rw [ol]
  refine (Np ?_ List.nodup_range).mpr fun i=>?_
  ·rw [List.Nodup,KZ]
   refine Kt (fun {a b} ha hb hab e=>?_) pw
   have:=O.un a.1 b.1 a.2 ((mem _ _).mp ha) (by rw [e];exact (mem _ _).mp hb)
   lia
  ·rw [NA,List.mem_range]
   constructor
   ·rintro ⟨⟨j,i'⟩,hm,rfl⟩
    obtain ⟨g,e2,_⟩:=O.at_ j i' ((mem _ _).mp hm)
    have:=(List.getElem?_eq_some_iff.mp e2).1
    simpa using this
   ·intro hi
    obtain ⟨j,ej⟩:=O.ex i (by simpa using hi)
    exact ⟨(j,i),(mem _ _).mpr ej,rfl⟩
 ·show (live.map (·.1)).toArray.toList.length=((live.map (·.2)).toArray.toList.map _).length
  rw [pl,ol];simp
 ·show (live.map (·.1)).toArray.toList.Pairwise _
  rw [pl,KZ];exact pw
 ·have hj:j∈(live.map (·.1)).toArray.toList:=hj
  rw [pl] at hj
  obtain ⟨⟨j',i⟩,hm,rfl⟩:=List.mem_map.mp hj
  have:=(Array.getElem?_eq_some_iff.mp ((mem _ _).mp hm)).1
  rw [O.size] at this
  show j'<=mask
  lia
 ·have hq:q∈(live.map (·.1)).toArray.toList.zip ((live.map (·.2)).toArray.toList.map fun i=>hs.getD i 0):=hq
  show Rc mask (live.map (·.1)).toArray.toList q.1 q.2
  rw [pl,ol,Jt,List.zip_map',NA] at hq
  rw [pl]
  obtain ⟨⟨j,i⟩,hm,rfl⟩:=hq
  obtain ⟨g,e2,s,s1,s2⟩:=O.at_ j i ((mem _ _).mp hm)
  have eg:hs.getD i 0=g:=by
   obtain ⟨hi,ei⟩:=List.getElem?_eq_some_iff.mp e2
   have hi':i < hs.size:=by simpa using hi
   simp only [L9,hi',dif_pos]
   simpa using ei
  show Rc mask _ j (hs.getD i 0)
  rw [eg]
  refine ⟨s,s1,fun v hv=>?_⟩
  obtain ⟨i',e'⟩:=s2 v hv
  exact List.mem_map.mpr ⟨(_,i'),(mem _ _).mpr e',rfl⟩
end ST
end
section
namespace ST
open PySem PySem.Spec PySem.SetTable
structure kO {prog:Jp} {w:JQ} {K:Type} [DecidableEq K] (knd:M5 prog w K):Prop where
 own:∀{A:JY} {E:IP->IM->Prop} {s:IM} {k:K} {a:Addr} {Q:Bool->IM->Prop},knd.is s.heap k a->Q false s->JB (JD prog w) A (LQ 8 (.ref a)) Q E s
 byv:∀{A:JY} {E:IP->IM->Prop} {s:IM} {k:K} {a:Addr} {Q:Bool->IM->Prop},knd.is s.heap k a->Q true s->JB (JD prog w) A (Od 8 (.ref a)) Q E s
 keep:∀{h h':Heap} {k:K} {a:Addr},knd.is h k a->(∀b o items n,h.get? b=some o->o.data=.seq items n->h'.get? b=some o)->knd.is h' k a
section
variable {prog:Jp} {w:JQ} {K:Type} [DecidableEq K] {knd:M5 prog w K} {A:JY} {E:IP->IM->Prop} {s:IM}
theorem vE (S:kO knd) {k:K} {b:Addr} (hk:knd.is s.heap k b) {Q:Bool->IM->Prop} (q:Q false s):∀(ys:List IP),(∀y∈ys,∃k' a',y=.ref a'/\knd.is s.heap k' a')->JB (JD prog w) A (P6 (.ref b) ys) Q E s:=by
 intro ys hy
 unfold P6
 refine II ?_
 refine LY _ (fun rest r s'=>r.1=none/\s'=s/\∀y∈rest,∃k' a',y=.ref a'/\knd.is s.heap k' a') _ ?_ ?_ _ _ ⟨rfl,rfl,hy⟩
 ·rintro y rest r s' ⟨hr,rfl,hall⟩
  obtain ⟨k',a',rfl,hk'⟩:=hall y IQ
  have nx:∀y∈rest,∃k' a',y=.ref a'/\knd.is s'.heap k' a':=fun u hu=>hall u (IZ _ hu)
  dsimp only
  split
  ·exact IK ⟨rfl,rfl,nx⟩
  ·refine II (knd.quiet hk ?_)
   simp only [Lx,Jk,if_false]
   refine II (knd.quiet hk' ?_)
   simp only [Lx,Jk,if_false]
   refine II (S.own hk ?_)
   simp only [Jk,if_false]
   refine II (S.own hk' ?_)
   simp only [Jk,if_false]
   exact IK ⟨rfl,rfl,nx⟩
 ·rintro ⟨r1,r2⟩ s' ⟨hr,rfl,_⟩
  simp only at hr
  subst hr
  exact IK q
def ny (knd:M5 prog w K) (x:K×Addr):Int×IP:=(knd.hash x.1,.ref x.2)
structure SetIs (knd:M5 prog w K) (led:Bool) (h:Heap) (a:Addr) (o:Obj) (es:Array (Int×IP)) (ep:Nat) (t:SetTable) (xs:List (K×Addr)):Prop where
 ob:h.get? a=some o
 ex:o.ExactSet
 da:o.data=.set es ep t
 el:es.toList=xs.map (ny knd)
 tb:Tb t (es.toList.map (·.1))
 few:es.size*5 < t.mask*3
 big:t.mask+1<=8*(es.size+1)
 pl:t.plain=true
 ld:t.led=led
 is:∀x∈xs,knd.is h x.1 x.2
 nd:(xs.map (·.1)).Nodup
structure SetW (led:Bool) (h:Heap) (a:Addr) (o:Obj) (es:Array (Int×IP)) (ep:Nat) (t:SetTable):Prop where
 ob:h.get? a=some o
 ex:o.ExactSet
 da:o.data=.set es ep t
 tb:Tb t (es.toList.map (·.1))
 few:es.size*5 < t.mask*3
 pl:t.plain=true
 ld:t.led=led
variable {led:Bool} {h:Heap} {a:Addr} {o:Obj} {es:Array (Int×IP)} {ep:Nat} {t:SetTable} {xs:List (K×Addr)}
theorem SetIs.tab (S:SetIs knd led h a o es ep t xs):SetW led h a o es ep t:=⟨S.ob,S.ex,S.da,S.tb,S.few,S.pl,S.ld⟩
theorem SetW.psize (S:SetW led h a o es ep t):t.place.size=es.size:=by
 have:=S.tb.len
 rw [IR] at this
 simpa using this
theorem SetW.fits (S:SetW led h a o es ep t):t.fits es.size=true:=by
 have h1:=S.psize
 have h2:=S.few
 unfold SetTable.fits Pv
 rw [S.tb.nd]
 simp only [JF,beq_iff_eq,decide_eq_true_eq,Ol]
 lia
theorem SetIs.size (S:SetIs knd led h a o es ep t xs):es.size=xs.length:=by
 rw [<- Jl,S.el,IR]
theorem SetIs.psize (S:SetIs knd led h a o es ep t xs):t.place.size=es.size:=S.tab.psize
theorem SetIs.fits (S:SetIs knd led h a o es ep t xs):t.fits es.size=true:=S.tab.fits
theorem SetIs.odd (S:SetIs knd led h a o es ep t xs):t.gaveWay=false:=by
 obtain ⟨k,hk⟩:=S.tb.pow
 have h2:=S.few
 unfold SetTable.gaveWay
 cases k with
 | zero=>simp at hk;lia
 | succ k=>rw [Ma] at hk;simp only [beq_eq_false_iff_ne,ne_eq];lia
theorem SetIs.get (S:SetIs knd led h a o es ep t xs) {i j:Nat} (e:t.place[i]?=some j):∃x,xs[i]?=some x/\es[i]?=some (ny knd x):=by
 obtain ⟨hi,_⟩:=Array.getElem?_eq_some_iff.mp e
 rw [S.psize,S.size] at hi
 refine ⟨xs[i],IL hi,?_⟩
 rw [<- JI,S.el,Jh,IL hi]
 rfl
theorem vF {pl:Array Nat} {i j:Nat} (e:pl[i]?=some j):j∈pl.toList:=by
 rw [<- JI] at e
 exact Jy e
theorem DX {pl:Array Nat} (hr:pl.toList.Pairwise (· < ·)) {i i' j:Nat} (e:pl[i]?=some j) (e':pl[i']?=some j):i=i':=by
 rw [<- below_at hr e,<- below_at hr e']
theorem SetIs.absent (S:SetIs knd led h a o es ep t xs) {k:K} {u:Nat} (hu:(pth t.mask (bits (knd.hash k)) u).j∉t.place.toList) (hv:∀v,v < u->∃(i:Nat) (x:K×Addr),t.place[i]?=some (pth t.mask (bits (knd.hash k)) v).j/\xs[i]?=some x/\x.1≠k):k∉xs.map (·.1):=by
 intro hm
 obtain ⟨x,hx,rfl⟩:=List.mem_map.mp hm
 obtain ⟨i,hi,e⟩:=List.mem_iff_getElem.mp hx
 have hx?:xs[i]?=some x:=List.getElem?_eq_some_iff.mpr ⟨hi,e⟩
 have hp:i < t.place.size:=by rw [S.psize,S.size];exact hi
 have pz:t.place[i]?=some t.place[i]:=Jw hp
 have zq:(t.place[i],knd.hash x.1)∈t.place.toList.zip (es.toList.map (·.1)):=by
  refine List.mem_iff_getElem?.mpr ⟨i,?_⟩
  rw [NN]
  refine ⟨by rw [JI];exact pz,?_⟩
  rw [S.el,Jt,Jh,hx?]
  rfl
 obtain ⟨r,r1,r2⟩:=S.tb.rch _ zq
 simp only at r1 r2
 rcases LO r u with h1 | h1 | h1
 ·obtain ⟨i',x',e1,e2,e3⟩:=hv r h1
  rw [r1] at e1
  have:=DX S.tb.ris e1 pz
  subst this
  rw [hx?] at e2
  injection e2 with e2
  exact e3 (by rw [e2])
 ·subst h1;rw [r1] at hu;exact hu (vF pz)
 ·exact hu (r2 u h1)
end
end ST
end
section
namespace ST
open PySem PySem.Spec PySem.SetTable
section
variable {prog:Jp} {w:JQ} {K:Type} [DecidableEq K] {knd:M5 prog w K} {A:JY} {E:IP->IM->Prop} {s:IM} {led:Bool} {h:Heap} {a:Addr} {o:Obj} {es:Array (Int×IP)} {ep:Nat} {t:SetTable} {xs:List (K×Addr)}
theorem vG {t:SetTable} {hs:List Int} (T:Tb t hs) (f:Nat->Int) (h:Int) {d s:Nat} (he:(pth t.mask (bits h) (s+d)).j∉t.place.toList) (hf:d < 10*turns t.mask) :
    ∃u,s<=u/\u<=s+d/\(∀v,s<=v->v < u->∃i,t.place[i]?=some (pth t.mask (bits h) v).j/\f i≠h) /\
      ((pth t.mask (bits h) u).j∉t.place.toList/\t.probe f h (pth t.mask (bits h) s)=some (.empty (pth t.mask (bits h) u).j none) \/
       ∃i,t.place[i]?=some (pth t.mask (bits h) u).j/\f i=h/\u < s+d/\t.probe f h (pth t.mask (bits h) s)=some (.candidate (pth t.mask (bits h) u).j i (pth t.mask (bits h) (u+1)))):=
  nt T d s (10*turns t.mask) he hf
theorem iD (SK:kO knd) (S:SetIs knd led s.heap a o es ep t xs) {k:K} {b:Addr} (hr:knd.room A) (hk:knd.is s.heap k b) {Q:SetFound->IM->Prop}
  (q1:∀u,(pth t.mask (bits (knd.hash k)) u).j∉t.place.toList->(∀v,v < u->(pth t.mask (bits (knd.hash k)) v).j∈t.place.toList)->k∉xs.map (·.1)->Q (.free (pth t.mask (bits (knd.hash k)) u).j false) s)
  (q2:k∈xs.map (·.1)->Q (.there none) s) :
  ∀(d s0 fuel:Nat) (st:Option Probe),st.getD (t.probeStart (knd.hash k))=pth t.mask (bits (knd.hash k)) s0->(pth t.mask (bits (knd.hash k)) (s0+d)).j∉t.place.toList->d < 10*turns t.mask->d < fuel ->
   (∀v,v < s0->∃(i:Nat) (x:K×Addr),t.place[i]?=some (pth t.mask (bits (knd.hash k)) v).j/\xs[i]?=some x/\x.1≠k) ->
   JB (JD prog w) A (Pw a (.ref b) (knd.hash k) true fuel st) Q E s
 | d,s0,0,st,_,_,_,hf,_=>absurd hf (Kn _)
 | d,s0,fuel+1,st,hst,he,h10,hf,hv=>by
  unfold Pw
  refine II (Lq S.ob S.da S.fits ?_)
  dsimp only
  rw [S.odd]
  simp only [Jk,if_false]
  have fneq:∀i,(fun (i:Nat)=>(es[i]?.map (·.1)).getD 0) i=(es[i]?.map (·.1)).getD 0:=fun i=>rfl
  obtain ⟨u,u1,u2,u3,u4⟩:=vG S.tb (fun (i:Nat)=>(es[i]?.map (·.1)).getD 0) (knd.hash k) he h10
  rw [hst]
  have seen:∀v,v < u->∃(i:Nat) (x:K×Addr),t.place[i]?=some (pth t.mask (bits (knd.hash k)) v).j/\xs[i]?=some x/\x.1≠k:=fun v hvu=>by
   rcases Mb v s0 with h | h
   ·exact hv v h
   ·obtain ⟨i,e1,e2⟩:=u3 v h hvu
    obtain ⟨x,x1,x2⟩:=S.get e1
    refine ⟨i,x,e1,x1,fun z=>e2 ?_⟩
    show (es[i]?.map (·.1)).getD 0=_
    rw [x2,<- z]
    rfl
  rcases u4 with ⟨n1,n2⟩ | ⟨i,c1,c2,c3,c4⟩
  ·erw [n2]
   dsimp only
   refine IK ?_
   exact q1 u n1 (fun v hvu=>let ⟨i,x,e1,_⟩:=seen v hvu;vF e1) (S.absent n1 seen)
  ·erw [c4]
   dsimp only
   obtain ⟨x,x1,x2⟩:=S.get c1
   have xi:=S.is x (Jy x1)
   have c2:(es[i]?.map (·.1)).getD 0=knd.hash k:=c2
   have slt:t.slot (pth t.mask (bits (knd.hash k)) u).j=.live i:=rY S.tb.ris c1
   have sm:t.sameMemory t.moves t.mask=some true:=by unfold SetTable.sameMemory;simp
   have next:x.1≠k->JB (JD prog w) A (Pw a (.ref b) (knd.hash k) true fuel (some (pth t.mask (bits (knd.hash k)) (u+1)))) Q E s:=fun hx=>by
    refine iD SK S hr hk q1 q2 (s0+d-(u+1)) (u+1) fuel _ rfl ?_ (by lia) (by lia) (fun v hvu=>?_)
    ·rw [show u+1+(s0+d-(u+1))=s0+d by lia];exact he
    ·rcases Mb v u with h | h
     ·exact seen v h
     ·have:v=u:=by lia
      subst this
      exact ⟨i,x,c1,x1,hx⟩
   rw [x2]
   dsimp only [ny]
   split
   ·refine II (vE SK hk ?_ _ fun y hy=>?_)
    ·simp only [Jk,if_false]
     refine II (J5 (knd.eqBool hr xi hk ?_))
     refine II (Lq S.ob S.da S.fits ?_)
     by_cases hx:x.1=k
     ·rw [decide_eq_true hx]
      simp only [Px,if_true]
      exact IK (q2 (hx▸List.mem_map.mpr ⟨x,Jy x1,rfl⟩))
     ·rw [decide_eq_false hx]
      simp only [Bool.and_false,Jk,if_false]
      rw [sm]
      dsimp only
      rw [if_pos rfl,slt]
      dsimp only
      rw [x2]
      dsimp only [ny]
      refine II (OM ?_)
      refine II (IK ?_)
      simp only [if_true]
      exact next hx
    ·obtain ⟨e,he',rfl⟩:=List.mem_map.mp hy
     have he2:e∈es.toList:=by
      have:e∈Array.filter (fun x=>x.fst==knd.hash k) es:=by simpa using he'
      exact (Array.mem_filter.mp this).1.val
     rw [S.el] at he2
     obtain ⟨z,hz,rfl⟩:=List.mem_map.mp he2
     exact ⟨z.1,z.2,rfl,S.is z hz⟩
   ·refine II (J5 (knd.eqBool hr xi hk ?_))
    refine II (Lq S.ob S.da S.fits ?_)
    by_cases hx:x.1=k
    ·rw [decide_eq_true hx]
     simp only [Px,if_true]
     exact IK (q2 (hx▸List.mem_map.mpr ⟨x,Jy x1,rfl⟩))
    ·rw [decide_eq_false hx]
     simp only [Bool.and_false,Jk,if_false]
     rw [sm]
     dsimp only
     rw [if_pos rfl,slt]
     dsimp only
     rw [x2]
     dsimp only [ny]
     refine II (OM ?_)
     refine II (IK ?_)
     simp only [if_true]
     exact next hx
end
end ST
end
section
namespace ST
open PySem PySem.Spec PySem.SetTable
theorem nA (n:Nat):∀(fuel size:Nat),(∃k,size=2 ^ k)->n < size*2 ^ fuel->(∃k,sizeAbove.go n fuel size=2 ^ k)/\n < sizeAbove.go n fuel size/\(sizeAbove.go n fuel size=size\/sizeAbove.go n fuel size<=2*n)
 | 0,size,hk,h=>by
  unfold sizeAbove.go
  exact ⟨hk,by simpa using h,.inl rfl⟩
 | fuel+1,size,hk,h=>by
  unfold sizeAbove.go
  by_cases hs:size<=n
  ·rw [if_pos hs]
   obtain ⟨k,hk⟩:=hk
   obtain ⟨a1,a2,a3⟩:=nA n fuel (size*2) ⟨k+1,by rw [hk,Ma]⟩ (by rw [Ma] at h;rw [Nat.mul_assoc,Nat.mul_comm 2];exact h)
   exact ⟨a1,a2,.inr (by lia)⟩
  ·rw [if_neg hs]
   exact ⟨hk,by lia,.inl rfl⟩
theorem oS {n:Nat} (h:n < 2 ^ 60):(∃k,sizeAbove n=2 ^ k)/\n < sizeAbove n/\(sizeAbove n=8\/sizeAbove n<=2*n):=
 nA n 64 8 ⟨3,rfl⟩ (Js h (by decide))
section
variable {prog:Jp} {w:JQ} {K:Type} [DecidableEq K] {knd:M5 prog w K} {A:JY} {E:IP->IM->Prop} {s:IM} {led:Bool} {h:Heap} {a:Addr} {o:Obj} {es:Array (Int×IP)} {ep:Nat} {t:SetTable} {xs:List (K×Addr)}
theorem stored {h:Heap} {a:Addr} {o:Obj} {es es':Array (Int×IP)} {ep:Nat} {t t':SetTable} (ho:h.get? a=some o) (hd:o.data=.set es ep t):(h.update a (P7 es' t')).get? a=some { o with data:=.set es' (ep+1) t' }:=by
 have:=MG (P7 es' t') ho (by rw [putSet_of es' t' hd];rfl)
 rw [putSet_of es' t' hd] at this;exact this
theorem Bh (SK:kO knd) {h:Heap} {a:Addr} {o:Obj} {es:Array (Int×IP)} {ep:Nat} {t:SetTable} (f:Obj->Obj) (ho:h.get? a=some o) (hd:o.data=.set es ep t) {k:K} {b:Addr} (hk:knd.is h k b):knd.is (h.update a f) k b:=
 SK.keep hk fun c oc items n hc hs=>by
  have:c≠a:=fun e=>by subst e;rw [ho] at hc;injection hc with hc;rw [<- hc,hd] at hs;cases hs
  exact (K6 _ _ this.symm).trans hc
theorem dB {α:Type} (xs:List α):∀(l:List Nat),(∀i∈l,i < xs.length)->∀{β:Type} (f:α->β),((l.filterMap (xs[·]?)).map f)=l.filterMap ((xs.map f)[·]?)
 | [],_,_,f=>rfl
 | i::l,h,β,f=>by
  have hi:=h i IQ
  rw [Ks,Ks]
  rw [IL hi,Jh,IL hi]
  simp only [Mc,Jd]
  rw [dB xs l (fun i hi=>h i (IZ _ hi)) f]
theorem qy {α:Type} (xs:List α):∀(l:List Nat),(∀i∈l,i < xs.length)->(l.filterMap (xs[·]?)).length=l.length
 | [],_=>rfl
 | i::l,h=>by
  have hi:=h i IQ
  rw [Ks,IL hi]
  simp only [JZ]
  rw [qy xs l fun i hi=>h i (IZ _ hi)]
theorem nB (hs:List Int):∀(l:List Nat),(∀i∈l,i < hs.length)->l.filterMap (hs[·]?)=l.map fun i=>hs.toArray.getD i 0
 | [],_=>rfl
 | i::l,h=>by
  have hi:=h i IQ
  rw [Ks,IL hi,Jd,nB hs l fun i hi=>h i (IZ _ hi)]
  simp [L9,hi]
theorem DY {α:Type} (xs:List α):(JS xs.length).filterMap (xs[·]?)=xs:=by
 refine Lo fun i=>?_
 rw [show (JS xs.length).filterMap (xs[·]?)=xs from ?_]
 induction xs with
 | nil=>rfl
 | cons x xs ih=>
  rw [JZ,List.range_succ_eq_map,Ks]
  simp only [Oc,Pj]
  congr 1
theorem vH {α:Type} {xs:List α} {l:List Nat} (h:l.Perm (JS xs.length)):(l.filterMap (xs[·]?)).Perm xs:=by
 have:=h.filterMap (xs[·]?)
 rwa [DY] at this
theorem Hh (SK:kO knd) (ho:s.heap.get? a=some o) (hex:o.ExactSet) (hd:o.data=.set es ep t) (el:es.toList=xs.map (ny knd)) (tb:Tb t (es.toList.map (·.1))) (lt:es.size<=t.mask) (hp:t.plain=true) (hled:t.led=led) (his:∀x∈xs,knd.is s.heap x.1 x.2) (hnd:(xs.map (·.1)).Nodup)
  (h0:0 < es.size) (h1:es.size<=1001) {Q:Unit->IM->Prop} (q:∀h' o' es' ep' t' xs',L5 a s.heap h'->SetIs knd led h' a o' es' ep' t' xs'->xs'.Perm xs->Q () { s with heap:=h' }):JB (JD prog w) A (setRelay a (grown es.size)) Q E s:=by
 have sz:es.size=xs.length:=by rw [<- Jl,el,IR]
 have psz:t.place.size=es.size:=by
  have:=tb.len
  rw [IR] at this
  simpa using this
 have fits:t.fits es.size=true:=by
  unfold SetTable.fits Pv
  rw [tb.nd]
  simp only [JF,beq_iff_eq,decide_eq_true_eq,Ol]
  lia
 have gr:grown es.size=es.size*4:=by unfold grown;rw [if_neg (by lia)]
 obtain ⟨⟨k,a1⟩,a2,a3⟩:=oS (n:=grown es.size) (Nat.lt_of_le_of_lt (show grown es.size<=4004 by lia) (by decide))
 have hk:sizeAbove (grown es.size)-1+1=2 ^ k:=by lia
 unfold setRelay
 refine II (Lq ho hd fits ?_)
 dsimp only
 rw [if_neg (by rw [J7];lia)]
 have hsz:(es.map (·.1)).size=es.size:=by simp
 obtain ⟨t',ord,e1,e2,e3,e4,e5,e6,e7⟩:=zk hk t.finger (t.movedTo (sizeAbove (grown es.size)-1)) t.led t.plain (es.map (·.1)) (by rw [hsz];lia)
 rw [hsz] at e6
 have mem:∀i∈ord.toList,i < es.size:=fun i hi=>List.mem_range.mp (e6.mem_iff.mp hi)
 have eo:(ord.filterMap (es[·]?)).toList=ord.toList.filterMap (es.toList[·]?):=by
  rw [Array.toList_filterMap]
  congr 1
  funext i
  simp
 have elx:(ord.filterMap (es[·]?)).toList=(ord.toList.filterMap (xs[·]?)).map (ny knd):=by
  rw [eo,el,dB xs _ fun i hi=>by rw [<- sz];exact mem i hi]
 have esz:(ord.filterMap (es[·]?)).size=es.size:=by
  rw [<- Jl,eo,qy _ _ fun i hi=>by simpa using mem i hi,e6.length_eq,Kj]
 have er:t.relaid (es.map (·.1)) (grown es.size)=some (t',ord):=e1
 have hh:(ord.filterMap (es[·]?)).toList.map (·.1)=ord.toList.map fun i=>(es.map (·.1)).getD i 0:=by
  rw [eo,dB es.toList _ fun i hi=>by simpa using mem i hi]
  rw [nB _ _ fun i hi=>by simpa using mem i hi]
  congr 1
  funext i
  congr 1
  apply Array.ext'
  simp
 have pm:(ord.toList.filterMap (xs[·]?)).Perm xs:=vH (by rw [<- sz];exact e6)
 have st:=stored (es':=ord.filterMap (es[·]?)) (t':=t') ho hd
 have fin:JB (JD prog w) A (storeSet a (ord.filterMap (es[·]?)) t') Q E s:=by
  refine P8 ho hd ?_ (by rw [esz,J7];lia)
  refine q _ _ _ _ _ _ (Km _ _ _) ⟨st,hex,rfl,elx,by rw [hh];exact e7,by rw [esz,e2];lia,by rw [esz,e2];lia,by rw [e4];exact hp,by rw [e3];exact hled,fun x hx=>Bh SK _ ho hd (his x (pm.mem_iff.mp hx)),?_⟩ pm
  exact (pm.map _).nodup_iff.mpr hnd
 rw [er]
 refine II ?_
 have hne:((ord.filterMap (es[·]?)).size != es.size)=false:=by rw [esz];exact bne_self_eq_false _
 show JB (JD prog w) A (if ((ord.filterMap (es[·]?)).size != es.size)=true then (do unsupported "internal:set-table-lost-an-element";pure (ord.filterMap (es[·]?),t')) else pure (ord.filterMap (es[·]?),t')) _ E s
 rw [hne,if_neg IT]
 exact IK fin
end
end ST
end
section
namespace ST
open PySem PySem.Spec PySem.SetTable
section
variable {prog:Jp} {w:JQ} {K:Type} [DecidableEq K] {knd:M5 prog w K} {A:JY} {E:IP->IM->Prop} {s:IM} {led:Bool} {h:Heap} {a:Addr} {o:Obj} {es:Array (Int×IP)} {ep:Nat} {t:SetTable} {xs:List (K×Addr)}
def fu (xs:List (K×Addr)) (k:K) (b:Addr):List (K×Addr):=if k∈xs.map (·.1) then xs else xs++[(k,b)]
theorem oT (SK:kO knd) (S:SetIs knd led s.heap a o es ep t xs) {k:K} {b:Addr} (hr:knd.room A) (hk:knd.is s.heap k b) (hl:xs.length<=1000) {Q:Bool->IM->Prop}
  (q:∀r h' o' es' ep' t' xs',L5 a s.heap h'->SetIs knd led h' a o' es' ep' t' xs'->xs'.Perm (fu xs k b)->Q r { s with heap:=h' }):JB (JD prog w) A (setAddHashed a (.ref b) (knd.hash k)) Q E s:=by
 have sz:=S.size
 have big:=S.big
 unfold setAddHashed setAddHashedIn
 refine J5 (II (Lq S.ob S.da S.fits ?_))
 dsimp only
 rw [show byScan (.ref b) es=false from rfl,if_neg IT]
 unfold setSearch
 obtain ⟨kk,hkk⟩:=S.tb.pow
 have few:=S.few
 obtain ⟨y,y1,y2⟩:=oR (mask:=t.mask) (g:=t.place.toList) (by have:=S.psize;simp;lia)
 obtain ⟨d,d1,d2⟩:=zf (b:=bits (knd.hash k)) hkk (qv _) y1
 refine II (iD SK S hr hk (fun u u1 u2 u3=>?_) (fun hm=>?_) d 0 100000 none rfl (by rw [L7,d2];exact y2) (by unfold turns;lia) (by lia) (fun v hv=>absurd hv (Kn _)))
 ·dsimp only
  refine II (Lq S.ob S.da S.fits ?_)
  dsimp only
  rw [DV S.tb.nd]
  dsimp only
  have T1:=S.tb.put (h:=knd.hash k) u1 u2
  generalize hp:below t.place (pth t.mask (bits (knd.hash k)) u).j=p at *
  rw [if_pos S.pl]
  refine II (SK.byv hk ?_)
  simp only [if_true]
  have e1:(insertAt es p (knd.hash k,Jz b)).toList=es.toList.take p++(knd.hash k,.ref b)::es.toList.drop p:=dA _ _ _
  have sz1:(insertAt es p (knd.hash k,Jz b)).size=es.size+1:=by rw [<- Jl,e1,iR];simp
  have el1:(insertAt es p (knd.hash k,Jz b)).toList=(xs.take p++(k,b)::xs.drop p).map (ny knd):=by
   rw [e1,S.el,Jc,Jd,List.map_take,List.map_drop];rfl
  have hs1:(insertAt es p (knd.hash k,Jz b)).toList.map (·.1)=(es.toList.map (·.1)).take p++knd.hash k::(es.toList.map (·.1)).drop p:=by
   rw [e1,Jc,Jd,List.map_take,List.map_drop]
  have pm1:(xs.take p++(k,b)::xs.drop p).Perm (fu xs k b):=by
   unfold fu
   rw [if_neg u3]
   have h1:(xs.take p++(k,b)::xs.drop p).Perm ((k,b)::(xs.take p++xs.drop p)):=List.perm_middle
   rw [Ju] at h1
   exact h1.trans (List.perm_append_singleton (k,b) xs).symm
  have nd1:((xs.take p++(k,b)::xs.drop p).map (·.1)).Nodup:=by
   refine (pm1.map _).nodup_iff.mpr ?_
   unfold fu
   rw [if_neg u3,Jc,Lr]
   exact ⟨S.nd,by simp,fun x hx z hz e=>u3 (by simp at hz;rw [<- hz,<- e];exact hx)⟩
  have is1:∀x∈xs.take p++(k,b)::xs.drop p,knd.is s.heap x.1 x.2:=fun x hx=>by
   rcases gF.mp hx with rfl | hx
   ·exact hk
   ·exact S.is x hx
  refine II (P8 S.ob S.da ?_ (by rw [sz1,J7];lia))
  have st:=stored (es':=insertAt es p (knd.hash k,Jz b)) (t':={ t with place:=insertAt t.place p (pth t.mask (bits (knd.hash k)) u).j }) S.ob S.da
  have ps1:(insertAt t.place p (pth t.mask (bits (knd.hash k)) u).j).size=es.size+1:=by
   rw [<- Jl,dA,iR];have:=S.psize;simp;lia
  have is2:∀x∈xs.take p++(k,b)::xs.drop p,knd.is (s.heap.update a (P7 (insertAt es p (knd.hash k,Jz b)) { t with place:=insertAt t.place p (pth t.mask (bits (knd.hash k)) u).j })) x.1 x.2:=fun x hx=>Bh SK _ S.ob S.da (is1 x hx)
  simp only [Bool.not_false,Bool.true_and]
  by_cases hf:({ t with place:=insertAt t.place p (pth t.mask (bits (knd.hash k)) u).j }:SetTable).tooFull=true
  ·rw [if_pos hf]
   refine II ?_
   rw [<- sz1]
   refine Hh (s:={ s with heap:=s.heap.update a (P7 (insertAt es p (knd.hash k,Jz b)) { t with place:=insertAt t.place p (pth t.mask (bits (knd.hash k)) u).j }) }) SK st S.ex rfl el1 (by rw [hs1];exact T1) (by rw [sz1];show es.size+1<=t.mask;lia) S.pl S.ld is2 nd1 (by rw [sz1];lia) (by rw [sz1];lia) fun h' o' es' ep' t' xs' sb S' pm'=>?_
   exact IK (q true h' o' es' ep' t' xs' ((Km _ _ _).trans sb) S' (pm'.trans pm1))
  ·rw [if_neg hf]
   refine IK (q true _ _ _ _ _ _ (Km _ _ _) ⟨st,S.ex,rfl,el1,by rw [hs1];exact T1,?_,?_,S.pl,S.ld,is2,nd1⟩ pm1)
   ·unfold SetTable.tooFull Pv at hf
    simp only [decide_eq_true_eq,ps1,S.tb.nd,Ol] at hf
    rw [sz1]
    show (es.size+1)*5 < t.mask*3
    lia
   ·rw [sz1]
    show t.mask+1<=_
    lia
 ·dsimp only
  refine IK ?_
  have:=q false s.heap o es ep t xs (Heap.SameBut.refl _ _) S (by unfold fu;rw [if_pos hm])
  exact this
end
end ST
end
section
namespace ST
open PySem PySem.Spec PySem.SetTable PyProof.Rows
section
variable {prog:Jp} {w:JQ}
theorem zo (n:Nat) {A:JY} {E:IP->IM->Prop} {s:IM} {i:Int} {tk:Tok} {Q:Bool->IM->Prop} (q:Q false s):JB (JD prog w) A (LQ n (.int i tk)) Q E s:=by
 cases n <;> exact IK q
theorem zp (n:Nat) {A:JY} {E:IP->IM->Prop} {s:IM} {i:Int} {tk:Tok} {Q:Bool->IM->Prop} (q:Q true s):JB (JD prog w) A (Od n (.int i tk)) Q E s:=by
 cases n <;> exact IK q
theorem items_int:∀{ks:List Int} {vs:List IP},ItemsAre (LF prog w) ks vs->∀v∈vs,∃i tk,v=.int i tk
 | _,_,.nil,v,h=>absurd h Ko
 | _,_,.cons (k:=k) (v:=u) h1 hr,v,h=>by
  rcases List.mem_cons.mp h with rfl | h
  ·have:N3 k v=true:=h1
   obtain ⟨t,e⟩:=PD this
   exact ⟨k,t,e⟩
  ·exact items_int hr v h
end
end ST
end
section
namespace ST
open PySem PySem.Spec PySem.SetTable PyProof.Rows L2
def kP (w:JQ):Bool:=!(w.params.followText "set-order")
section
variable {prog:Jp} {w:JQ} {A:JY} {E:IP->IM->Prop} {s:IM}
def qz (led:Bool):Obj:={ cls:=.type "set",dict:=none,data:=.set #[] 0 (.fresh 0 0 led) }
end
end ST
end
section
namespace VL
open PySem L2
section
variable {K:IJ} {X:Cx} {m:Bool} {e:Expr} {te:TE} {va:VT} {pos p2:Pos} {S:List Sl} {Q:VR->List Sl->Prop} {vl vh:VO}
def Hi (va:VT) (vl vh:VO):VT:=fun S Q=>va S fun r S1=>vl S1 fun lo S2=>vh S2 fun hi S3=>∃ds,get S3 r=some (.tup ds)/\flats ds=true/\¬ (HT.sIx ds.length 0 lo=0/\HT.sIx ds.length ds.length hi=ds.length)/\Q (.d (.tup (cutD ds lo hi))) S3
theorem DZ {lo hi:Option Expr} {tl th:TO} (hK:X.K=K) (h:VE K X false e te va) (hl:VOe K X lo tl vl) (hh:VOe K X hi th vh):VE K X m (.Subscript e (.Slice lo hi none p2) pos) (tSl (E8 K) te tl th) (Hi va vl vh):=
 ⟨by subst hK;exact mF B8 h.pe hl.pe hh.pe,fun H0 Z U H S Q C k t hc=>h.snd H0 Z U H S _ _ k t fun v H1 r S1 k1 st1 rr t1=>hl.snd H0 Z U H1 S1 _ _ k1 t1 fun lo H2 S2 k2 st2 t2=>hh.snd H0 Z U H2 S2 _ _ k2 t2 fun hi H3 S3 k3 st3 zq=>by
  obtain ⟨ds,e,f,hw,q⟩:=zq
  obtain ⟨a,vs,rfl,hq,rs⟩:=((rr.step st2).step st3).elemsT k3 e
  refine ⟨a,vs,rfl,hq,by rw [rs.length];exact hw,fun p hp=>?_⟩
  have g:=aV (o:=.tup (j4 vs lo hi)) hp
  have ff:flats (cutD ds lo hi)=true:=by unfold cutD;exact ju _ (jt _ f)
  exact hc _ _ (.d (.tup (cutD ds lo hi))) S3 (k3.grow g) (((st1.trans st2).trans st3).trans (.grow g)) (Rep.tup (k3.nm hp) (.inl aJ) (Reps.flat ((mX rs lo hi).mono (fun a n e=>⟨n,g a e⟩) fun _ x=>x) ff)) q⟩
def Hj (vl vh:VO) (Q:VR->List Sl->Prop):VR->List Sl->Prop:=fun r S1=>vl S1 fun lo S2=>vh S2 fun hi S3=>∃ds,get S3 r=some (.tup ds)/\flats ds=true/\¬ (HT.sIx ds.length 0 lo=0/\HT.sIx ds.length ds.length hi=ds.length)/\Q (.d (.tup (cutD ds lo hi))) S3
theorem Hk (h:va S (Hj vl vh Q)):Hi va vl vh S Q:=h
end
end VL
end
section
namespace L2
open PySem PySem.Spec PyProof.Rows
theorem Inv.turnedL {X:Cx} {s:IM} {h':Heap} {t':Nat} {fp:List Addr} (I:Inv X pins U H s) (k:∀b o,b∉fp->s.heap.get? b=some o->h'.get? b=some o) (hf:∀b∈fp,iG X pins H b) :
  Inv X pins U H { s with heap:=h',toks:=t' }:=by
 have ne:∀b u,H b=some u->b∉fp:=fun b u q z=>by rw [(hf b z).1] at q;cases q
 refine I.step (g':=s.gens) (d':=s.drawn) (ch:=fp) (fun b hb=>?_) (fun b o _ _ hc q _=>k b o hc q) (fun b o _ _ hc q _=>⟨o.slots,k b o hc q⟩) (fun _ _ _ _ n=>n)
  (fun b o hc q=>⟨o,k b o hc q⟩) (fun _ _ q=>q) (fun _ _ _ q=>q) (fun b ps q=>⟨#[],by rw [q];simp⟩) (fun m hm=>?_) (fun b u q=>?_) I.bare
 ·obtain ⟨e0,e1,_,e3,e4,e5⟩:=hf b hb
  exact ⟨e3,e1,e4,e5⟩
 ·obtain ⟨o,es,ep,ho,r⟩:=hm
  exact ⟨o,es,ep,k _ o (fun z=>(hf _ z).2.1 rfl) ho,r⟩
 ·refine (I.hok b u q).stay (fun c v hc z=>k c v ?_ z) (fun _ z=>z) fun _ _ z=>z
  rcases hc with y | y
  ·rw [y];exact ne b u q
  ·exact ne c _ y
def Itz (K:IJ) (l1 l2:Addr):It:=
 ⟨fun i H=>∃xs ys x y,SqL K H l1 xs/\SqL K H l2 ys/\xs[i]?=some x/\ys[i]?=some y,fun i H x H'=>∃p,H p=none/\x=.ref p/\∀xs ys,SqL K H l1 xs->SqL K H l2 ys->∃y z,xs[i]?=some y/\ys[i]?=some z/\H'=upd H p (.tup [y,z]),
  fun i H=>∃xs ys,SqL K H l1 xs/\SqL K H l2 ys/\(xs.length<=i\/ys.length<=i)⟩
theorem vI {P:Jp} {w:JQ} {elts:List Expr} {x1} {tp:Pos} (z TI TO i1 i2 l1 l2:Addr) (D:ZipApart z TI TO i1 i2 l1 l2) :
  Turn P w K (.Tuple elts x1 tp) (Itz K l1 l2) [z,TI,TO,i1,i2] z (fun i h=>IsZip h z TI TO .none/\IsPair h TI (.ref i1) (.ref i2)/\(∃a b,IsPair h TO a b)/\h.IsListIter i1 l1 i/\h.IsListIter i2 l2 i) where
 mem:=by simp
 obj:=fun i h zq b hb=>by
  obtain ⟨hz,hTI,⟨a,c,hTO⟩,⟨o1,q1,c1,d1⟩,⟨o2,q2,c2,d2⟩⟩:=zq
  simp only [KA,Ko,or_false] at hb
  rcases hb with rfl | rfl | rfl | rfl | rfl
  ·exact ⟨_,hz,fun v e=>by
    have e':N6 _=M9 v:=e
    cases e'⟩
  ·exact ⟨_,hTI,fun v e=>by
    have e':QF _ _=M9 v:=e
    cases e'⟩
  ·exact ⟨_,hTO,fun v e=>by
    have e':QF _ _=M9 v:=e
    cases e'⟩
  ·exact ⟨o1,q1,fun v e=>by rw [d1] at e;cases e⟩
  ·exact ⟨o2,q2,fun v e=>by rw [d2] at e;cases e⟩
 keep:=fun i h h' zq k=>by
  obtain ⟨hz,hTI,⟨a,c,hTO⟩,s1,s2⟩:=zq
  exact ⟨k z (by simp) _ hz,k TI (by simp) _ hTI,⟨a,c,k TO (by simp) _ hTO⟩,s1.at fun o q=>k i1 (by simp) o q,s2.at fun o q=>k i2 (by simp) o q⟩
 item:=by
  intro X hP hw hK hc i pins s U H E I hf zq hg
  subst hP hw hK
  obtain ⟨hz,hTI,⟨a,c,hTO⟩,s1,s2⟩:=zq
  obtain ⟨xs,ys,x,y,hq1,hq2,hx,hy⟩:=hg
  obtain ⟨its1,rv1,p1,hz1⟩:=I.list hq1
  obtain ⟨its2,rv2,p2,hz2⟩:=I.list hq2
  obtain ⟨u1,hu1,ru1⟩:=rv1.get hx
  obtain ⟨u2,hu2,ru2⟩:=rv2.get hy
  refine wpAny_pyNext_zip_item D hz hTI hTO s1 s2 p1.isList p2.isList (x:=u1) (y:=u2) (by simpa using hu1) (by simpa using hu2) fun h' a1 a2 a3 a4 a5 a6 a7=>⟨_,rfl,wpAny_letOwnedTupleGo_zip (s:={ s with heap:=h' }) a1 fun h2 b1 b2=>?_⟩
  have kb:∀b o,b≠z->h'.get? b=some o->h2.get? b=some o:=fun b o hb q=>(b2.2 b hb).trans q
  have I2:Inv X pins U H { s with heap:=h2,toks:=s.toks }:=I.turnedL (fp:=[z,TI,TO,i1,i2]) (fun b o nb q=>by
   simp only [KA,Ko,or_false,not_or] at nb
   exact kb b o nb.1 (a7 b o nb.1 nb.2.2.1 nb.2.2.2.1 nb.2.2.2.2 q)) hf
  have np:H s.heap.objs.size=none:=I.hok.fresh (IS _)
  obtain ⟨_,f1,_,f3,f4,f5⟩:=I.fpOk (H':=H) (b:=s.heap.objs.size) (IS _) np
  have nn:∀{b o},s.heap.get? b=some o->s.heap.objs.size≠b:=fun q=>Qb (Jg q)
  have hTI':IsPair h2 TI (.ref i1) (.ref i2):=kb _ _ D.TIz (a7 _ _ D.TIz D.TITO D.TIi1 D.TIi2 hTI)
  refine ⟨.ref s.heap.objs.size,upd H s.heap.objs.size (.tup [x,y]),I2.track np I.sz f1 f4 f5 ⟨by rw [J7];exact Jn rfl,[u1,u2],.cons ru1 (.cons ru2 .nil),⟨_,kb _ _ (nn hz) a5,rfl,_,rfl⟩⟩,rfl,
   ⟨_,np,rfl,fun zs ws h1 h2=>⟨x,y,by rw [I.list_inj h1 hq1];exact hx,by rw [I.list_inj h2 hq2];exact hy,rfl⟩⟩,
   ⟨b1,hTI',⟨_,_,kb _ _ D.TOz a2⟩,a3.at fun o q=>kb i1 o D.i1z q,a4.at fun o q=>kb i2 o D.i2z q⟩,fun b hb=>?_⟩
  have hbn:=(hf b hb).1
  obtain ⟨ob,hob⟩:∃o,s.heap.get? b=some o:=by
   obtain ⟨o1,q1,_⟩:=id s1
   obtain ⟨o2,q2,_⟩:=id s2
   simp only [KA,Ko,or_false] at hb
   rcases hb with rfl | rfl | rfl | rfl | rfl
   ·exact ⟨_,hz⟩
   ·exact ⟨_,hTI⟩
   ·exact ⟨_,hTO⟩
   ·exact ⟨_,q1⟩
   ·exact ⟨_,q2⟩
  rw [aL (LS (nn hob))]
  exact hbn
 done:=by
  intro X hP hw hK hc i pins s U H E I hf zq hg
  subst hP hw hK
  obtain ⟨hz,hTI,⟨a,c,hTO⟩,s1,s2⟩:=zq
  obtain ⟨xs,ys,hq1,hq2,hx⟩:=hg
  obtain ⟨its1,rv1,p1,hz1⟩:=I.list hq1
  obtain ⟨its2,rv2,p2,hz2⟩:=I.list hq2
  have e1:=rv1.length
  have e2:=rv2.length
  refine wpAny_pyNext_zip_end (I.ok.hd hc) D hz hTI hTO s1 s2 p1.isList p2.isList ?_ fun h' hk=>⟨rfl,I.turnedL (t':=s.toks) (fp:=[z,TI,TO,i1,i2]) (fun b o nb q=>by
   simp only [KA,Ko,or_false,not_or] at nb
   exact hk b o nb.1 nb.2.2.1 nb.2.2.2.1 nb.2.2.2.2 q) hf⟩
  rcases hx with hx | hx
  ·exact .inl (K7 (by simp;lia))
  ·exact .inr (K7 (by simp;lia))
 self:=fun _ _ _ _ _ zq h=>wpAny_pyIter_zip zq.1 h
section
variable {X:Cx}
def Hl (K:IJ) (ta:TA):TI:=fun U H R=>ta U H fun vs H1=>∃l1 l2,vs=[.ref l1,.ref l2]/\(∃xs,SqL K H1 l1 xs)/\(∃xs,SqL K H1 l2 xs)/\R (Itz K l1 l2) H1
theorem D0 {a b:Expr} {ta:TA} {p pos tp:Pos} {elts:List Expr} {x1} (hg:Gl X "zip") (hm:X.mg "zip"=none) (ha:PA X [a,b] ta) (hs:Jf [a,b] X.env=(false,eval a X.env)::Jf [b] X.env:=by rfl) (hpl:(K8 pos (Jf [b] X.env)).any (·.1)=false:=by rfl):PI X (.Tuple elts x1 tp) (.Call (.Name "zip" p) [a,b] [] pos) (Hl X.K ta):=by
 intro pins s U H R I h
 refine Call_ (fC I hg hm boot_zip (Kx (thn (ha pos pins s U H _ I h) fun us s1 zr1=>?_) hs hpl))
 obtain ⟨vs,H1,I1,r1,q1⟩:=zr1
 obtain ⟨l1,l2,e,⟨xs,hq1⟩,⟨ys,hq2⟩,q⟩:=q1
 subst e
 obtain ⟨u1,u2,rfl,ru1,ru2⟩:=vals2 r1
 cases ru1;cases ru2
 obtain ⟨its1,rv1,pl1,hz1⟩:=I1.list hq1
 obtain ⟨its2,rv2,pl2,hz2⟩:=I1.list hq2
 refine call_zip_2 pl1.isList pl2.isList fun h' g1 g2 g3 g4 g5 g6 g7=>?_
 have I2:Inv X pins U H1 { s1 with heap:=h' }:=I1.kept (t':=s1.toks) g7
 have lt1:l1 < s1.heap.objs.size:=by obtain ⟨o,e,_⟩:=pl1.isList;exact Jg e
 have lt2:l2 < s1.heap.objs.size:=by obtain ⟨o,e,_⟩:=pl2.isList;exact Jg e
 have ap:ZipApart (s1.heap.objs.size+4) (s1.heap.objs.size+2) (s1.heap.objs.size+3) s1.heap.objs.size (s1.heap.objs.size+1) l1 l2:=by
  constructor <;> (intro e;have e:(_:Nat)=_:=e;lia)
 refine wpAny_pyIter_zip (s:={ s1 with heap:=h' }) g1 ⟨s1.heap.objs.size+4,[s1.heap.objs.size+4,s1.heap.objs.size+2,s1.heap.objs.size+3,s1.heap.objs.size,s1.heap.objs.size+1],_,Itz X.K l1 l2,H1,rfl,I2,vI _ _ _ _ _ l1 l2 ap,⟨g1,g2,⟨_,_,g3⟩,g4,g5⟩,fun b hb=>?_,q⟩
 have hb':s1.heap.objs.size<=b:=by
  simp only [KA,Ko,or_false] at hb
  rcases hb with rfl | rfl | rfl | rfl | rfl
  all_goals first | exact Nat.le_add_right _ _ | exact IS _
 exact I1.fpOk hb' (I1.hok.fresh hb')
end
end L2
namespace VL
open PySem L2
section
variable {K:IJ} {X:Cx} {a b:Expr} {tr:TA} {vr:VTA} {S:List Sl} {QN:List D->List Sl->Prop} {p pos tp:Pos}
def zpD (ds es:List D):List D:=(ds.zip es).map fun x=>.tup [x.1,x.2]
theorem zr (ds es:List D):(zpD ds es).length=min ds.length es.length:=by simp [zpD]
theorem D1 {ds es:List D} {i:Nat} {d e:D} (h:ds[i]?=some d) (h':es[i]?=some e):(zpD ds es)[i]?=some (.tup [d,e]):=by
 unfold zpD
 rw [Jh,(NN (z:=(d,e))).mpr ⟨h,h'⟩]
 rfl
def Hm (vr:VTA):VTN:=fun S Q=>vr S fun rs S1=>∃ds es,rs=[.d (.lst ds),.d (.lst es)]/\Q (zpD ds es) S1
theorem D2 {elts:List Expr} {x1} (hK:X.K=K) (hg:Gl X "zip") (hm:X.mg "zip"=none) (ha:VA K X false [a,b] tr vr) (hs:Jf [a,b] X.env=(false,eval a X.env)::Jf [b] X.env:=by rfl) (hpl:(K8 pos (Jf [b] X.env)).any (·.1)=false:=by rfl) :
  VI K X (.Tuple elts x1 tp) (.Call (.Name "zip" p) [a,b] [] pos) (Hl K tr) (Hm vr):=⟨by subst hK;exact D0 hg hm ha.pe hs hpl,fun H0 Z U H S Q C k t hc=>
 ha.snd H0 Z U H S _ _ k t fun vs H1 rs S1 k1 st1 rrs zq1=>by
  obtain ⟨ds,es,e,q⟩:=zq1
  subst e
  cases rrs with
  | @cons v1 _ _ _ rv1 rr=>
  obtain ⟨v2,rfl,rv2⟩:=rr.one
  have rv1:Rep K _ _ H1 v1 (.lst ds):=rv1
  have rv2:Rep K _ _ H1 v2 (.lst es):=rv2
  obtain ⟨l1,xs,rfl,hq1,_⟩:=rv1.sqL
  obtain ⟨l2,ys,rfl,hq2,_⟩:=rv2.sqL
  refine ⟨l1,l2,rfl,⟨xs,hq1⟩,⟨ys,hq2⟩,hc _ (zpD ds es) H1 S1 k1 st1 (fun U2 S2 H2 nm st2 i=>?_) q⟩
  obtain ⟨_,xs',e,hx2,r1⟩:=(rv1.stp st2).sqL
  cases e
  obtain ⟨_,ys',e,hy2,r2⟩:=(rv2.stp st2).sqL
  cases e
  rw [zr]
  refine ⟨fun hi=>?_,fun x H3 hy hi=>?_,fun hi=>⟨xs',ys',hx2,hy2,by rw [r1.length,r2.length];lia⟩⟩
  ·obtain ⟨x,h1,_⟩:=r1.getD (IL (show i < ds.length by lia))
   obtain ⟨y,h2,_⟩:=r2.getD (IL (show i < es.length by lia))
   exact ⟨xs',ys',x,y,hx2,hy2,h1,h2⟩
  ·obtain ⟨p,hp,rfl,hy⟩:=hy
   obtain ⟨y,z,h2,h3,rfl⟩:=hy xs' ys' hx2 hy2
   obtain ⟨d,h4,h5⟩:=r1.get h2
   obtain ⟨d',h6,h7⟩:=r2.get h3
   have g:=aV (o:=.tup [y,z]) hp
   exact ⟨g,_,D1 h4 h6,.tup (nm p hp) (.inl aJ) (.cons (h5.mono (fun b n z=>⟨n,g b z⟩) fun _ _=>trivial) (.cons (h7.mono (fun b n z=>⟨n,g b z⟩) fun _ _=>trivial) .nil))⟩⟩
@[irreducible] def zt (QN:List D->List Sl->Prop):List VR->List Sl->Prop:=fun rs S1=>∃ds es,rs=[.d (.lst ds),.d (.lst es)]/\QN (zpD ds es) S1
theorem Hn (h:vr S (zt QN)):Hm vr S QN:=by unfold zt at h;exact h
theorem D3 {ds es:List D} (h:QN (zpD ds es) S):zt QN [.d (.lst ds),.d (.lst es)] S:=by unfold zt;exact ⟨ds,es,rfl,h⟩
end
end VL
end
section
namespace KT
open PySem PySem.Spec L2 SeqAt PySem.W
section
variable {prog:Jp} {w:JQ}
abbrev inn (prog:Jp) (w:JQ):M5 prog w (List Int):=MF (LF prog w)
def Inn (prog:Jp) (w:JQ) (h:Heap) (ks:List Int) (v:IP):Prop:=∃b,v=.ref b/\(inn prog w).is h ks b
def jG (prog:Jp) (w:JQ) (h:Heap) (kss:List (List Int)) (a:Addr):Prop:=∃items,h.IsTuple a items/\Paired (Inn prog w h) kss items.toList
theorem Paired.uniq {α β:Type} {F:α->β->Prop} (hF:∀a a' b,F a b->F a' b->a=a'):∀{x y:List α} {v:List β},Paired F x v->Paired F y v->x=y
 | _,_,_,.nil,.nil=>rfl
 | _,_,_,.cons a t,.cons b u=>by rw [hF _ _ _ a b,Paired.uniq hF t u]
theorem Paired.sizes {α β:Type} {F:α->β->Prop}:∀{x:List α} {v:List β},Paired F x v->x.length=v.length
 | _,_,.nil=>rfl
 | _,_,.cons _ t=>by rw [JZ,JZ,Paired.sizes t]
theorem Paired.nth {α β:Type} {F:α->β->Prop}:∀{x:List α} {v:List β},Paired F x v->∀(j:Nat) (b:β),v[j]?=some b->∃a,x[j]?=some a/\F a b
 | _,_,.nil,j,b,h=>by simp at h
 | _,_,.cons (a:=a) r t,0,b,h=>⟨_,rfl,by cases h;exact r⟩
 | _,_,.cons r t,j+1,b,h=>Paired.nth t j b h
theorem jG.one {h:Heap} {a:Addr} {x y:List (List Int)} (hx:jG prog w h x a) (hy:jG prog w h y a):x=y:=by
 obtain ⟨i1,⟨o1,g1,_,n1,d1⟩,p1⟩:=hx
 obtain ⟨i2,⟨o2,g2,_,n2,d2⟩,p2⟩:=hy
 rw [g1] at g2
 cases g2
 rw [d1] at d2
 cases d2
 refine Paired.uniq (fun k k' v z z'=>?_) p1 p2
 obtain ⟨b,rfl,q⟩:=z
 obtain ⟨b',e,q'⟩:=z'
 cases e
 exact (inn prog w).inj q q'
theorem jG.stays {h h':Heap} {a d:Addr} {x:List (List Int)} {o:Obj} {es:Array Ll} {ep:Nat} (hx:jG prog w h x a) (ho:h.get? d=some o) (hd:o.data=.dict es ep) (hs:L5 d h h'):jG prog w h' x a:=by
 obtain ⟨its,⟨oa,ga,ca,n,da⟩,p⟩:=hx
 have hne:a≠d:=fun z=>by
  subst z
  rw [ga] at ho
  cases ho
  rw [da] at hd
  cases hd
 exact ⟨its,⟨oa,(hs.2 a hne).trans ga,ca,n,da⟩,Paired.mapP p fun k v z=>let ⟨b,e,q⟩:=z;⟨b,e,(inn prog w).keeps q ho hd hs⟩⟩
def vJ (prog:Jp) (w:JQ) (kss:List (List Int)):Int:=Qy (Lg (kss.map (inn prog w).hash))
def cost (kss:List (List Int)):Nat:=(kss.map fun ks=>ks.length+1).sum
theorem zu {A:JY} {E:IP->IM->Prop} (hu:A.units < Lu):∀(kss:List (List Int)) (vs:List IP) (b:Array Int) (s:IM) (Q:Array Int->IM->Prop),Paired (Inn prog w s.heap) kss vs ->
  (∀b',b'.toList=b.toList++kss.map (inn prog w).hash->Q b' { s with toks:=s.toks+cost kss })->JB (JD prog w) A (forIn vs b fun x r=>do let h <- pyHash x;pure PUnit.unit;pure (Me (r.push h))) Q E s:=by
 intro kss
 induction kss with
 | nil=>
  intro vs b s Q p q
  cases p
  exact IK (q b (by simp))
 | cons ks kss ih=>
  intro vs b s Q p q
  cases p with
  | cons r t=>
   obtain ⟨a,rfl,hk⟩:=r
   rw [OB]
   refine II (II ((inn prog w).pyHash hu hk (II (IK (IK ?_)))))
   refine ih _ _ { s with toks:=s.toks+(ks.length+1) } Q t fun b' e=>?_
   have:=q b' (by rw [e];simp)
   simpa [cost,Mg] using this
theorem zv {A:JY} {E:IP->IM->Prop} {s:IM} {kss:List (List Int)} {a:Addr} {Q:Int->IM->Prop} (hu:A.units+1 < Lu) (hx:jG prog w s.heap kss a) (h:Q (vJ prog w kss) { s with toks:=s.toks+(cost kss+1) }) :
  JB (JD prog w) A (pyHash (.ref a)) Q E s:=by
 obtain ⟨its,⟨o,g,c,n,d⟩,p⟩:=hx
 refine pyHash_slot (T:="tuple") ⟨o,g,c⟩ F.slot_tuple_hash F.entry_tuple_hash (F.args_tuple_hash_1 _) (beq_builtin_none _) (.inr (by lia)) ?_
 show JB _ _ (Nm (.ref a) >>= _) _ _ s
 refine II (wpAny_tupleItemsOf g d ?_)
 refine II ?_
 rw [<- Ld]
 refine zu (by simpa using hu) kss its.toList #[] s _ p fun b' e=>?_
 show JB _ _ (retInt (Lg b'.toList)) _ _ _
 rw [e]
 exact II (Qp (IK ⟨_,_,rfl,by simpa [vJ,Mg] using h⟩))
theorem rZ {prog':Jp} {w':JQ} {ks:List Int} {vs:List IP} (h:ItemsAre (LF prog w) ks vs):ItemsAre (LF prog' w') ks vs:=by
 induction h with
 | nil=>exact .nil
 | cons q _ ih=>exact .cons q ih
theorem qA {prog':Jp} {w':JQ} {h:Heap} {ks:List Int} {b:Addr} (q:(inn prog w).is h ks b):(inn prog' w').is h ks b:=
 let ⟨o,its,n,g,c,d,i⟩:=q;⟨o,its,n,g,c,d,rZ i⟩
theorem zw {A:JY} {E:IP->IM->Prop} {s:IM} {x y:List (List Int)} {a b:Addr} {Q:Bool->IM->Prop} (hu:A.units+1 < Lu) (hx:jG prog w s.heap x a) (hy:jG prog w s.heap y b) (h:Q (decide (x=y)) s) :
  JB (JD prog w) A (eqBool (.ref a) (.ref b)) Q E s:=by
 by_cases hab:a=b
 ·subst hab
  rw [decide_eq_true (hx.one hy)] at h
  exact EqAt.same _ prog w E Q h
 ·obtain ⟨i1,p1,q1⟩:=hx
  obtain ⟨i2,p2,q2⟩:=hy
  have s1:x.length=i1.size:=(Paired.sizes q1).trans Jl
  have s2:y.length=i2.size:=(Paired.sizes q2).trans Jl
  have z:=RcAt.tuples (A:=A) (s:=s) (e:=fun j=>decide (x[j]?=y[j]?)) p1 p2 (by lia) fun j h1 h2 prog' w' E' Q' hq=>by
   obtain ⟨k1,e1,b1,v1,r1⟩:=Paired.nth q1 j i1[j] (by rw [JI];exact Jw h1)
   obtain ⟨k2,e2,b2,v2,r2⟩:=Paired.nth q2 j i2[j] (by rw [JI];exact Jw h2)
   rw [v1,v2]
   refine (inn prog' w').eqBool (A:=A.in1) (show A.in1.units < Lu by simpa using hu) (qA r1) (qA r2) ?_
   have:decide (x[j]?=y[j]?)=decide (k1=k2):=by rw [e1,e2];exact decide_eq_decide.mpr (by simp)
   rw [<- this]
   exact hq
  refine EqAt.of_refs hab z prog w E Q ?_
  have e:((JS (min i1.size i2.size)).all (fun j=>decide (x[j]?=y[j]?))&&i1.size==i2.size)=decide (x=y):=by
   rw [Ky,JF,LZ,decide_eq_true_eq,beq_iff_eq]
   constructor
   ·rintro ⟨f,g⟩
    refine Lo fun j=>?_
    by_cases hj:j < x.length
    ·exact of_decide_eq_true (f j (List.mem_range.mpr (by lia)))
    ·rw [ON (by lia),ON (by lia)]
   ·rintro rfl
    exact ⟨fun j _=>decide_eq_true rfl,by lia⟩
  rw [e]
  exact h
theorem vK {A:JY} {E:IP->IM->Prop} {s:IM} {its:Array IP} {a:Addr} {Q:Bool->IM->Prop} (n:Nat) (ht:s.heap.IsTuple a its) (hq:∀v∈its.toList,∀Q':Bool->IM->Prop,Q' true s->JB (JD prog w) A (Py n v) Q' E s) (h:Q true s) :
  JB (JD prog w) A (Py (n+1) (.ref a)) Q E s:=by
 obtain ⟨o,g,c,m,d⟩:=ht
 have ty:Shared.TypeIs s (.ref a) "tuple":=⟨o,g,c⟩
 unfold Py
 refine II (OO ty F.slot_tuple_eq.lookup ?_)
 show JB _ _ (isInstance (.ref a) (.type "tuple") >>= _) _ _ s
 refine II (Oj ty isSubtype_tuple_tuple ?_)
 simp only [Lx,Jk,if_false]
 refine II (MD g d (II ?_))
 show JB _ _ (forIn its _ _) _ _ s
 rw [<- Ld]
 generalize its.toList=l at hq
 induction l with
 | nil=>exact IK (IK h)
 | cons v l ih=>
  rw [OB]
  refine II (II (hq v IQ _ ?_))
  simp only [Lx,Jk,if_false]
  exact IK (ih fun u hu=>hq u (IZ _ hu))
theorem D4 {A:JY} {E:IP->IM->Prop} {s:IM} {ks:List Int} {a:Addr} {Q:Bool->IM->Prop} (n:Nat) (hk:(inn prog w).is s.heap ks a) (h:Q true s):JB (JD prog w) A (Py (n+1) (.ref a)) Q E s:=by
 obtain ⟨o,its,m,g,c,d,i⟩:=hk
 refine vK n ⟨o,g,c,m,d⟩ (fun v hv Q' q=>?_) h
 rw [eqIsQuiet_byValue n (i.byValue v hv)]
 exact IK q
theorem D5 {A:JY} {E:IP->IM->Prop} {s:IM} {x:List (List Int)} {a:Addr} {Q:Bool->IM->Prop} (hx:jG prog w s.heap x a) (h:Q true s):JB (JD prog w) A (Py 8 (.ref a)) Q E s:=by
 obtain ⟨its,p,q⟩:=hx
 refine vK 7 p (fun v hv Q' q'=>?_) h
 obtain ⟨j,hj⟩:=OR hv
 obtain ⟨k,_,b,rfl,r⟩:=Paired.nth q j v hj
 exact D4 6 r q'
def tt (prog:Jp) (w:JQ):M5 prog w (List (List Int)) where
 is:=jG prog w
 hash:=vJ prog w
 draws:=fun kss=>cost kss+1
 room:=fun A=>A.units+1 < Lu
 inj:=fun hx hy=>hx.one hy
 keeps:=fun x ho hd hs=>x.stays ho hd hs
 pyHash:=fun hu hk h=>zv hu hk h
 eqBool:=fun hu hx hy h=>zw hu hx hy h
 quiet:=fun hk h=>D5 hk h
end
end KT
end
section
namespace L2
open PySem PySem.Spec PyProof.Rows KT
abbrev T2:=List (List Int)
abbrev E2:=List (T2×Addr×V)
def t2H (k:T2):Int:=Qy (Lg (k.map tH))
def Ho (x:T2×Addr×IP):Ll:=⟨t2H x.1,.ref x.2.1,x.2.2⟩
abbrev EV2:E2->List (T2×Addr×IP)->Prop:=Paired fun p q=>p.1=q.1/\p.2.1=q.2.1/\RelV p.2.2 q.2.2
def jH (a:Addr) (es:E2) (h:Heap):Prop:=
 es.length<=JA/\(a==KW)=false/\(es.map (·.1)).Nodup/\∃xs,EV2 es xs/\∃o ds ep,h.get? a=some o/\o.ExactDict/\o.data=.dict ds ep/\ds.toList=xs.map Ho
def dm (a:Addr) (ob:Obj) (es:E2):HO:=.ext fun h=>jH a es h/\h.get? a=some ob
theorem jH.ok {P:Jp} {w:JQ} {h:Heap} {a:Addr} {ob:Obj} {es:E2} (d:jH a es h) (q:h.get? a=some ob):bt P w H h a (dm a ob es):=
 ⟨⟨d,q⟩,⟨ob,q⟩,fun _ _ zt1 k=>by obtain ⟨⟨z,m,nd,xs,ev,o,ds,ep,e,r⟩,q⟩:=zt1;exact ⟨⟨z,m,nd,xs,ev,o,ds,ep,k o e,r⟩,k ob q⟩⟩
section
variable {X:Cx} {pins:List (Addr×Obj)} {U:St} {H:Hp} {s:IM}
theorem qB {a:Addr} {ob:Obj} {es:E2} (I:Inv X pins U H s) (e:H a=some (dm a ob es)):jH a es s.heap:=
 ((show bt X.prog X.w H s.heap a (.ext fun h=>jH a es h/\h.get? a=some ob) from I.hok a _ e).1).1
def jI (K:IJ) (H:Hp) (b:Addr) (k:T2):Prop:=∃bs:List Addr,SqT K H b (bs.map V.ref)/\Paired (fun ms c=>SqT K H c (ms.map V.int)) k bs
theorem kQ (I:Inv X pins U H s):∀{k:T2} {bs:List Addr} {us:List IP},Paired (fun ms c=>SqT X.K H c (ms.map V.int)) k bs->Vals (bs.map V.ref) us->Paired (Inn X.prog X.w s.heap) k us
 | _,_,_,.nil,r=>by rw [JW] at r;cases r;exact .nil
 | _,_,_,.cons h t,r=>by
  rw [Jd] at r
  cases r with
  | cons h1 t1=>cases h1;exact .cons ⟨_,rfl,Dg I h⟩ (kQ I t t1)
theorem e8 {b:Addr} {k:T2} (I:Inv X pins U H s) (h:jI X.K H b k):(tt X.prog X.w).is s.heap k b:=by
 obtain ⟨bs,hb,hp⟩:=h
 obtain ⟨its,r,ht,_⟩:=I.tuple hb
 exact ⟨its.toArray,ht,by simpa using kQ I hp r⟩
def fc (K:IJ) (H:Hp) (es:E2):Prop:=∀x∈es,jI K H x.2.1 x.1
theorem EV2.keys {es:E2} {xs:List (T2×Addr×IP)} (r:EV2 es xs):es.map (·.1)=xs.map (·.1):=by
 induction r with
 | nil=>rfl
 | cons h t ih=>rw [Jd,Jd,ih,h.1]
theorem EV2.mem {es:E2} {xs:List (T2×Addr×IP)} (r:EV2 es xs):∀x∈xs,∃e∈es,e.1=x.1/\e.2.1=x.2.1:=by
 induction r with
 | nil=>intro x h;exact nomatch h
 | @cons p q ps qs h t ih=>
  intro x hx
  rcases List.mem_cons.mp hx with rfl | hx
  ·exact ⟨p,IQ,h.1,h.2.1⟩
  ·obtain ⟨e,h1,h2⟩:=ih x hx
   exact ⟨e,IZ _ h1,h2⟩
theorem jJ {a:Addr} {ob:Obj} {es:E2} (I:Inv X pins U H s) (e:H a=some (dm a ob es)) (k:fc X.K H es):es.length<=JA/\(a==KW)=false/\(es.map (·.1)).Nodup /\
  ∃xs,EV2 es xs/\s.heap.DictOfH (tt X.prog X.w) a xs:=by
 obtain ⟨z,m,nd,xs,ev,o,ds,ep,h1,h2,h3,h4⟩:=qB I e
 refine ⟨z,m,nd,xs,ev,o,ds,ep,h1,h2,h3,h4,fun x hx=>?_,by rw [<- ev.keys];exact nd⟩
 obtain ⟨e,he,e1,e2⟩:=ev.mem x hx
 rw [<- e1,<- e2]
 exact e8 I (k e he)
def at2 (es:E2) (k:T2):Option V:=(es.find? fun x=>decide (x.1=k)).map (·.2.2)
theorem EV2.at_ {es:E2} {xs:List (T2×Addr×IP)} (r:EV2 es xs) (k:T2):RelO (at2 es k) ((NH xs k).map (·.2)):=by
 induction r with
 | nil=>exact LM
 | @cons p q ps qs h t ih=>
  obtain ⟨h1,_,h2⟩:=h
  by_cases e:p.1=k
  ·have e':q.1=k:=h1.symm.trans e
   have a:at2 (p::ps) k=some p.2.2:=by simp [at2,JH,e]
   have b:NH (q::qs) k=some q.2:=by simp [NH,JH,e']
   rw [a,b];exact h2
  ·have e':¬ q.1=k:=fun z=>e (h1.trans z)
   have a:at2 (p::ps) k=at2 ps k:=by simp [at2,JH,e]
   have b:NH (q::qs) k=NH qs k:=by simp [NH,JH,e']
   rw [a,b];exact ih
theorem nE {es:E2} {k:T2}:(at2 es k).isSome=decide (k∈es.map (·.1)):=by
 induction es with
 | nil=>rfl
 | cons p ps ih=>
  by_cases e:p.1=k
  ·simp [at2,JH,e]
  ·have a:at2 (p::ps) k=at2 ps k:=by simp [at2,JH,e]
   rw [a,ih]
   have:¬ k=p.1:=fun z=>e z.symm
   simp [this]
theorem iS {A:JY} (hu:A.units+64 < Lu):(tt X.prog X.w).room A.in1:=by
 show A.in1.units+1 < Lu
 simp;lia
def Hq (K:IJ) (neg:Bool):R2:=fun y x H Q=>∃b a ms es,y=.ref b/\x=.ref a/\jI K H b ms/\(∃ob,H a=some (dm a ob es))/\fc K H es/\Q (.bl (if neg then !decide (ms∈es.map (·.1)) else decide (ms∈es.map (·.1)))) H
end
section
variable {X:Cx}
theorem D6 (hu:X.A.units+64 < Lu):OpR X (Kz .In) (Hq X.K false):=by
 rintro pins s U H x y v u Q I rx ry ⟨b,a,ms,es,e1,e2,h1,⟨ob,h2⟩,h3,q⟩
 subst e1;subst e2
 cases rx;cases ry
 obtain ⟨z,m,nd,xs,ev,dd⟩:=jJ I h2 h3
 refine wpAny_in_heap (iS hu) (e8 I h1) m dd ?_
 have e:=eZ (ev.at_ ms)
 rw [Mu,nE] at e
 rw [<- e]
 exact ⟨.bl _,H,I.tok _,rfl,q⟩
def put2 (es:E2) (k:T2) (b:Addr) (v:V):E2:=if k∈es.map (·.1) then es.map (fun x=>if x.1=k then (x.1,x.2.1,v) else x) else es++[(k,b,v)]
theorem vL (es:E2) (k:T2) (b:Addr) (v:V):(put2 es k b v).length<=es.length+1:=by
 unfold put2;split <;> simp
theorem EV2.repl {es:E2} {xs:List (T2×Addr×IP)} (r:EV2 es xs) (k:T2) {u:IP} (rv:RelV v u):EV2 (es.map fun x=>if x.1=k then (x.1,x.2.1,v) else x) (xs.map (putAt k u)):=by
 induction r with
 | nil=>exact .nil
 | @cons p q ps qs h t ih=>
  rw [Jd,Jd]
  refine .cons ?_ ih
  obtain ⟨h1,h2,h3⟩:=h
  unfold putAt
  by_cases e:p.1=k
  ·rw [if_pos e,if_pos (h1.symm.trans e)];exact ⟨h1,h2,rv⟩
  ·rw [if_neg e,if_neg (fun z=>e (h1.trans z))];exact ⟨h1,h2,h3⟩
theorem EV2.put {es:E2} {xs:List (T2×Addr×IP)} (r:EV2 es xs) (k:T2) {b:Addr} {u:IP} (rv:RelV v u):EV2 (put2 es k b v) (storedH xs k b u):=by
 have e:decide (k∈es.map (·.1))=(NH xs k).isSome:=by
  have:=eZ (r.at_ k)
  rw [Mu,nE] at this
  exact this
 unfold put2 storedH
 by_cases q:(NH xs k).isSome=true
 ·rw [if_pos q,if_pos (of_decide_eq_true (e.trans q))];exact r.repl k rv
 ·rw [if_neg q,if_neg (fun z=>q (e.symm.trans (decide_eq_true z)))];exact Qq r ⟨rfl,rfl,rv⟩
theorem D8 {s:IM} {a b:Addr} {ob:Obj} {ms:T2} {es:E2} {r:IP} {A:JY} {E:IP->IM->Prop} {Q:Unit->IM->Prop} (hu:A.units+64 < Lu) (I:Inv X pins U H s) (h1:jI X.K H b ms) (h2:H a=some (dm a ob es)) (h3:fc X.K H es) (hl:es.length < JA) (rv:RelV v r)
  (h:∀ob s',Inv X pins U (upd H a (dm a ob (put2 es ms b v))) s'->Q () s'):JB (JD X.prog X.w) A (QC (.ref a) (.ref b) r) Q E s:=by
 obtain ⟨z,m,nd,xs,ev,dd⟩:=jJ I h2 h3
 refine Pq (hsz:=by rw [<- Kw ev];exact z) (iS hu) (e8 I h1) dd fun h' dd' hs=>?_
 obtain ⟨q,ds,ep,hq,g2,g3,g4,_,g5⟩:=dd'
 refine h q _ (I.write (x:=a) (e:=a) (by rw [h2];exact LM) (.inl rfl) (fun b q hb z=>(hs.2 b hb).trans z) ⟨q,hq⟩ (jH.ok ⟨?_,m,?_,_,ev.put ms rv,q,ds,ep,hq,g2,g3,g4⟩ hq))
 ·have:=vL es ms b v;lia
 ·rw [(ev.put ms rv).keys];exact g5
variable {o i value:Expr} {pos pos':Pos} {td ty tv:TE}
def Bi (K:IJ) (td ty tv:TE):TS:=fun D U H=>tv U H fun v H1=>td U H1 fun x H2=>ty U H2 fun y H3=>∃a b ms es,x=.ref a/\y=.ref b/\jI K H3 b ms/\(∃ob,H3 a=some (dm a ob es))/\fc K H3 es/\es.length < JA /\
 ∀ob,D.nx U (upd H3 a (dm a ob (put2 es ms b v)))
theorem zx (hu:X.A.units+64 < Lu) (ho:PE X o td) (hi:PE X i ty) (hv:PE X value tv) (hs:LW value (some (.Subscript o i pos')) pos.line X.env=pure false) :
  PS X (.Assign [.Subscript o i pos'] value pos) (Bi X.K td ty tv):=by
 intro pins s U H D I h
 refine Ot (thn (hv pins s U H _ I h) fun r s1 ⟨v,H1,I1,rv,q1⟩=>thn (ho pins s1 U H1 _ I1 q1) fun u s2 ⟨x,H2,I2,rx,q2⟩=>thn (hi pins s2 U H2 _ I2 q2) fun iv s3 zr1=>?_) hs
 obtain ⟨y,H3,I3,ry,a,b,ms,es,ex,ey,h1,⟨ob,h2⟩,h3,hl,q3⟩:=zr1
 subst ex;subst ey
 obtain rfl:u=Jz a:=rx
 obtain rfl:iv=Jz b:=ry
 exact D8 (by lia) I3 h1 h2 h3 hl rv fun ob s4 I4=>⟨U,_,I4,q3 ob⟩
def Bj:TE:=fun _ H Q=>∀p ob,H p=none->Q (.ref p) (upd H p (dm p ob []))
theorem zy:PE X (.Dict [] [] pos) Bj:=fun pins s U H Q I h=>
 wpAny_Dict_empty ⟨.ref s.heap.objs.size,_,I.laid (a:=s.heap.objs.size) (o:=dm s.heap.objs.size _ []) (t':=s.toks) (fun _ _ q=>IN _ q) (IS _)
  (jH.ok ⟨Kk _,beq_eq_false_iff_ne.mpr (LS (JG (lI I))),Lz,[],.nil,_,#[],0,Je _ rfl,⟨rfl,rfl,rfl⟩,rfl,rfl⟩ (Je _ rfl)),rfl,h _ _ (I.hok.fresh (IS _))⟩
def vM (K:IJ):V->V->Hp->VK->Prop:=fun x y H Q=>∃b a ms es v,y=.ref b/\x=.ref a/\jI K H b ms/\(∃ob,H a=some (dm a ob es))/\fc K H es/\at2 es ms=some v/\Q v H
theorem vN (hu:X.A.units+64 < Lu):EX X (vM X.K):=by
 rintro pins s U H o i ov iv Q I r1 r2 ⟨b,a,ms,es,v,ey,ex,h1,⟨ob,h2⟩,h3,hv,q⟩
 subst ex;subst ey
 cases r1;cases r2
 obtain ⟨z,m,nd,xs,ev,dd⟩:=jJ I h2 h3
 have r:=ev.at_ ms
 rw [hv] at r
 cases h5:NH xs ms with
 | none=>rw [h5] at r;exact r.elim
 | some p=>
  rw [h5] at r
  exact Pt (iS hu) (e8 I h1) dd h5 ⟨v,H,I.tok _,r,q⟩
theorem vO {X:Cx} (hu:X.A.units+64 < Lu):IxR X (vM X.K):=by
 intro value slice pins s U H x y v u Q I rx ry h hs
 have g:=vN hu pins s U H x y v u Q I rx ry h
 obtain ⟨b,a,ms,es,z,ey,ex,h1,⟨ob,h2⟩,_⟩:=h
 subst ex
 cases rx
 obtain ⟨_,_,_,_,_,o,_,_,z1,z2,_⟩:=qB I h2
 exact Pm ⟨_,z1,z2.1⟩ slot_dict_getitem.lookup g hs
end
end L2
namespace VL
open PySem L2 KT
def kT2 (k:T2):D:=.tup (k.map kT)
abbrev KV2:=List (T2×D)
def IF (ks:List T2) (vs:List D):Fk where
 ok:=fun K H0 N H a=>∃es:E2,(∃ob,H a=some (dm a ob es))/\es.map (·.1)=ks/\Reps K N AnyF H (es.map fun x=>V.ref x.2.1) (ks.map kT2)/\Reps K N AnyF H (es.map (·.2.2)) vs
 ism:=by rintro K H0 N H a ⟨es,⟨ob,h⟩,_⟩;rw [h];trivial
 mono:=by
  rintro K H0 N N' H H' a hm he ⟨es,⟨ob,h⟩,e,r1,r2⟩
  exact ⟨es,⟨ob,he.trans h⟩,e,r1.mono hm fun _ x=>x,r2.mono hm fun _ x=>x⟩
def od2 (kvs:KV2):Sl:=.obj (IF (kvs.map (·.1)) (kvs.map (·.2)))
def eP (kvs:KV2) (k:T2) (d:D):KV2:=if k∈kvs.map (·.1) then kvs.map (fun x=>if x.1=k then (x.1,d) else x) else kvs++[(k,d)]
def fB (kvs:KV2) (k:T2):Option D:=(kvs.find? fun x=>decide (x.1=k)).map (·.2)
section
variable {K:IJ} {N:AP} {F:FP} {H:Hp}
theorem kR:∀{k:T2} {vs:List L2.V},Reps K N F H vs (k.map kT)->∃bs:List Addr,vs=bs.map L2.V.ref/\Paired (fun ms c=>SqT K H c (ms.map L2.V.int)) k bs
 | [],_,.nil=>⟨[],rfl,.nil⟩
 | ms::k,_,.cons h t=>by
  obtain ⟨a,vs,rfl,hq,rr⟩:=Rep.sqT (show Rep K N F H _ (.tup (ms.map D.int)) from h)
  cases Reps.toInts rr
  obtain ⟨bs,rfl,p⟩:=kR t
  exact ⟨a::bs,rfl,.cons hq p⟩
theorem Rep.key2 {v:L2.V} {k:T2} (h:Rep K N F H v (kT2 k)):∃b,v=.ref b/\jI K H b k:=by
 obtain ⟨a,vs,rfl,hq,rr⟩:=Rep.sqT (show Rep K N F H v (.tup (k.map kT)) from h)
 obtain ⟨bs,rfl,p⟩:=kR rr
 exact ⟨a,rfl,bs,hq,p⟩
theorem dY:∀{es:E2},Reps K N F H (es.map fun x=>.ref x.2.1) ((es.map (·.1)).map kT2)->fc K H es
 | [],_=>fun _ h=>nomatch h
 | e::es,r=>by
  cases r with
  | cons h t=>
   intro x hx
   rcases List.mem_cons.mp hx with rfl | hx
   ·obtain ⟨b,e1,hq⟩:=Rep.key2 h
    cases e1
    exact hq
   ·exact dY t x hx
theorem nF {k:T2}:∀{es:E2} {kvs:KV2},es.map (·.1)=kvs.map (·.1)->Reps K N F H (es.map (·.2.2)) (kvs.map (·.2)) ->
  (at2 es k=none/\fB kvs k=none)\/∃v d,at2 es k=some v/\fB kvs k=some d/\Rep K N F H v d
 | [],[],_,_=>.inl ⟨rfl,rfl⟩
 | [],_::_,h,_=>by cases h
 | _::_,[],h,_=>by cases h
 | e::es,p::ps,h,.cons r t=>by
  have h1:e.1=p.1:=(MY h).1
  by_cases z:p.1=k
  ·exact .inr ⟨e.2.2,p.2,by simp [at2,h1,z],by simp [fB,z],r⟩
  ·rcases nF (k:=k) (MY h).2 t with ⟨a,b⟩ | ⟨v,d,a,b,r⟩
   ·exact .inl ⟨by simpa [at2,JH,h1,z] using a,by simpa [fB,JH,z] using b⟩
   ·exact .inr ⟨v,d,by simpa [at2,JH,h1,z] using a,by simpa [fB,JH,z] using b,r⟩
theorem jK {v:L2.V} {k:T2} (hv:Rep K N F H v d):∀{es:E2} {kvs:KV2},es.map (·.1)=kvs.map (·.1)->Reps K N F H (es.map (·.2.2)) (kvs.map (·.2)) ->
  Reps K N F H ((es.map fun x=>if x.1=k then (x.1,x.2.1,v) else x).map (·.2.2)) ((kvs.map fun x=>if x.1=k then (x.1,d) else x).map (·.2))
 | [],[],_,_=>.nil
 | e::es,p::kvs,ek,r=>by
  simp only [Jd,OD] at ek
  cases r with
  | cons h t=>
   simp only [Jd]
   refine .cons ?_ (jK hv ek.2 t)
   by_cases hk:e.1=k
   ·rw [if_pos hk,if_pos (ek.1.symm.trans hk)];exact hv
   ·rw [if_neg hk,if_neg (fun z=>hk (ek.1.trans z))];exact h
 | [],_::_,ek,_=>by simp at ek
 | _::_,[],ek,_=>by simp at ek
theorem nG (es:E2) (k:T2) (v:L2.V):(es.map fun x=>if x.1=k then (x.1,x.2.1,v) else x).map (·.1)=es.map (·.1):=by
 rw [Jt]
 refine JL fun x _=>?_
 simp only [LP];split <;> rfl
theorem nH (es:E2) (k:T2) (v:L2.V):(es.map fun x=>if x.1=k then (x.1,x.2.1,v) else x).map (fun x=>L2.V.ref x.2.1)=es.map fun x=>L2.V.ref x.2.1:=by
 rw [Jt]
 refine JL fun x _=>?_
 simp only [LP];split <;> rfl
theorem nI (kvs:KV2) (k:T2) (d:D):(kvs.map fun x=>if x.1=k then (x.1,d) else x).map (·.1)=kvs.map (·.1):=by
 rw [Jt]
 refine JL fun x _=>?_
 simp only [LP];split <;> rfl
theorem vP {v:L2.V} {k:T2} {b:Addr} (hv:Rep K N F H v d) (hb:Rep K N F H (.ref b) (kT2 k)) {es:E2} {kvs:KV2} (ek:es.map (·.1)=kvs.map (·.1))
  (rk:Reps K N F H (es.map fun x=>L2.V.ref x.2.1) ((kvs.map (·.1)).map kT2)) (r:Reps K N F H (es.map (·.2.2)) (kvs.map (·.2))) :
  (put2 es k b v).map (·.1)=(eP kvs k d).map (·.1)/\Reps K N F H ((put2 es k b v).map fun x=>L2.V.ref x.2.1) (((eP kvs k d).map (·.1)).map kT2)/\Reps K N F H ((put2 es k b v).map (·.2.2)) ((eP kvs k d).map (·.2)):=by
 unfold put2 eP
 by_cases hk:k∈es.map (·.1)
 ·rw [if_pos hk,if_pos (by rw [<- ek];exact hk),nG,nI,nH]
  exact ⟨ek,rk,jK hv ek r⟩
 ·rw [if_neg hk,if_neg (by rw [<- ek];exact hk)]
  simp only [Jc,Jd,JW]
  exact ⟨by rw [ek],Reps.append rk (.cons hb .nil),Reps.append r (.cons hv .nil)⟩
end
section
variable {K:IJ} {X:Cx} {m:Bool} {e o ie:Expr} {te ti:TE} {va vi:VT} {pos posS:Pos}
def Bk (i:Nat):VTS:=fun V S=>i < S.length/\V.nx (S.set i (od2 []))
theorem zz {x:Str} {pos' pd:Pos} (i:Nat) (ps:∀te,PE X (.Dict [] [] pd) te->PS X (.Assign [.Name x pos'] (.Dict [] [] pd) pos) (dD te (bJ i))):VS K X (.Assign [.Name x pos'] (.Dict [] [] pd) pos) (dD Bj (bJ i)) (Bk i):=
 ⟨ps _ zy,fun H0 Z U H S V E k t l=>fun p ob hp=>by
  obtain ⟨hi,q⟩:=t
  obtain ⟨k2,st2⟩:=k.setNew (s:=od2 []) hi hp (aV hp) ⟨p,rfl,k.dom p hp,[],⟨ob,aJ⟩,rfl,.nil,.nil⟩ rfl
  exact l.nx _ _ _ k2 st2 q⟩
theorem lP {H0 H:Hp} {y:L2.V} {k:T2} (h:fq K (FM H0 false) Z U S H y r) (e:get S r=some (kT2 k)):∃b,y=.ref b/\jI K H b k/\Rep K (NM Z U S) AnyF H (.ref b) (kT2 k):=by
 cases r with
 | d z=>
  cases e
  obtain ⟨b,rfl,hq⟩:=Rep.key2 (show Rep K _ _ H y (kT2 k) from h)
  exact ⟨b,rfl,hq,Rep.mono (fun _ n _=>⟨n,rfl⟩) (fun _ _=>trivial) h⟩
 | own j=>
  have e:getO S[j]?=some (kT2 k):=e
  cases es:S[j]? with
  | none=>rw [es] at e;cases e
  | some s=>rw [es] at e;cases s <;> cases e
def Hr (i:Nat) (vi:VT):VTT:=fun S Q=>vi S fun rk S1=>∃kvs ms,S1[i]?=some (od2 kvs)/\get S1 rk=some (kT2 ms)/\Q (decide (ms∈kvs.map (·.1))) S1
theorem D9 (i:Nat) (hK:X.K=K) (hu:X.A.units+64 < Lu) (ho:PE X o (cF i)) (hi:VE K X false ie ti vi) (hm:LL .In o=false:=by rfl):VTe K X (.Compare ie [.In] [o] pos) (pK (tOp (Hq K false) ti (cF i))) (Hr i vi):=
 ⟨by subst hK;exact pL (D6 hu) hi.pe ho hm,fun H0 Z U H S Q C k t hc=>by
  refine hi.snd H0 Z U H S _ _ k t fun y H2 rk S2 k2 st2 rr2 zr1=>?_
  obtain ⟨kvs,ms,e1,ek,q⟩:=zr1
  obtain ⟨o2,g2,p,e2,h3,es,h4,h5,h6,h7⟩:=k2.ownAt e1
  subst e2
  obtain ⟨b,rfl,hq,rb⟩:=lP rr2 ek
  refine ⟨.ref p,g2,b,p,ms,es,rfl,rfl,hq,h4,dY (by rw [h5];exact h6),?_⟩
  rw [h5]
  exact ⟨_,rfl,hc _ H2 S2 k2 st2 q⟩⟩
def Hs (i:Nat) (vi:VT):VT:=fun S Q=>(∃kvs,S[i]?=some (od2 kvs))/\vi S fun rk S1=>∃kvs ms d,S1[i]?=some (od2 kvs)/\get S1 rk=some (kT2 ms)/\fB kvs ms=some d/\Q (.d d) S1
theorem Ea (i:Nat) (hK:X.K=K) (hu:X.A.units+64 < Lu) (ho:PE X o (cF i)) (hi:VE K X false ie ti vi) (hs:cY ie):VE K X false (.Subscript o ie pos) (tOp (vM K) (cF i) ti) (Hs i vi):=
 ⟨by subst hK;exact mG (vO hu) ho hi.pe hs,fun H0 Z U H S Q C k zq hc=>by
  obtain ⟨⟨kvs0,e0⟩,t⟩:=zq
  obtain ⟨o1,g1,p0,e0',_⟩:=k.ownAt e0
  subst e0'
  refine ⟨.ref p0,g1,hi.snd H0 Z U H S _ _ k t fun y H2 rk S2 k2 st2 rr2 zr1=>?_⟩
  obtain ⟨kvs,ms,d,e1,ek,ed,q⟩:=zr1
  obtain ⟨o2,g2,p,e2,h3,es,h4,h5,h6,h7⟩:=k2.ownAt e1
  subst e2
  rw [g1] at g2;cases g2
  obtain ⟨b,rfl,hq,rb⟩:=lP rr2 ek
  rcases nF (k:=ms) h5 h7 with ⟨_,z2⟩ | ⟨v,d',z1,z2,r⟩
  ·rw [ed] at z2;cases z2
  ·rw [ed] at z2;cases z2
   exact ⟨b,p0,ms,es,v,rfl,rfl,hq,h4,dY (by rw [h5];exact h6),z1,hc _ H2 (.d d) S2 k2 st2 (show Rep K _ _ _ v d from r.mono (fun _ n _=>⟨n,rfl⟩) fun _ _=>FM.any) q⟩⟩
def Bl (i:Nat) (ve vi:VT):VTS:=fun V S=>ve S fun r S1=>(∃kvs,S1[i]?=some (od2 kvs))/\vi S1 fun ri S2=>∃d ms kvs,r=.d d/\get S2 ri=some (kT2 ms)/\S2[i]?=some (od2 kvs)/\kvs.length<=1000000/\V.nx (S2.set i (od2 (eP kvs ms d)))
theorem zA (i:Nat) (hK:X.K=K) (hu:X.A.units+64 < Lu) (ho:PE X o (cF i)) (h:VE K X false e te va) (hi:VE K X false ie ti vi) (hs:LW e (some (.Subscript o ie posS)) pos.line X.env=pure false:=by rfl) :
  VS K X (.Assign [.Subscript o ie posS] e pos) (Bi K (cF i) ti te) (Bl i va vi):=⟨by subst hK;exact zx hu ho hi.pe h.pe hs,fun H0 Z U H S V E k t l=>by
 refine h.snd H0 Z U H S _ _ k t fun x H1 r S1 k1 st1 rr zr1=>?_
 obtain ⟨⟨kvs0,e0⟩,q⟩:=zr1
 obtain ⟨o1,g1,p,e0',_⟩:=k1.ownAt e0
 subst e0'
 refine ⟨.ref p,g1,hi.snd H0 Z U H1 S1 _ _ k1 q fun y H2 ri S2 k2 st2 rr2 zr1=>?_⟩
 obtain ⟨d,ms,kvs,er,ek,e1,hl,q2⟩:=zr1
 subst er
 obtain ⟨o2,g2,p',e2,h3,es,⟨ob,h2⟩,h4,h5,h6⟩:=k2.ownAt e1
 subst e2
 rw [g1] at g2;cases g2
 have rx:Rep K (NM Z U S2) AnyF H2 x d:=(Rep.step (show Rep K (NM Z U S1) (FM H0 false) H1 x d from rr) st2).mono (fun _ n _=>⟨n,rfl⟩) fun _ _=>trivial
 obtain ⟨b,rfl,hq,rb⟩:=lP rr2 ek
 refine ⟨p,b,ms,es,rfl,rfl,hq,⟨ob,h2⟩,dY (by rw [h4];exact h5),?_,?_⟩
 ·have:es.length=kvs.length:=by have:=congrArg K4 h4;simpa using this
  rw [J7];lia
 ·intro obn
  have na:NM Z U S2 p->False:=fun n=>n (.inl ⟨i,_,e1,rfl,g1⟩)
  have hm':∀c,NM Z U S2 c->H2 c≠none->NM Z U S2 c/\upd H2 p (dm p obn (put2 es ms b x)) c=H2 c:=fun c n _=>⟨n,aL fun z=>na (by rw [<- z];exact n)⟩
  obtain ⟨z1,z2,z3⟩:=vP (k:=ms) (b:=b) (Rep.mono hm' (fun _ x=>x) rx) (Rep.mono hm' (fun _ x=>x) rb) h4 (h5.mono hm' fun _ x=>x) (h6.mono hm' fun _ x=>x)
  obtain ⟨k3,st3⟩:=k2.chgD (s:=od2 (eP kvs ms d)) (o:=dm p obn (put2 es ms b x)) e1 rfl g1 rfl ⟨p,rfl,h3,_,⟨obn,aJ⟩,z1,z2,z3⟩
  exact l.nx _ _ _ k3 ((st1.trans st2).trans st3) q2⟩
variable {S:List Sl} {V:ba} {QT:Bool->List Sl->Prop} {Q:VR->List Sl->Prop}
def Ht (i:Nat) (Q:Bool->List Sl->Prop):VR->List Sl->Prop:=fun rk S1=>∃kvs ms,S1[i]?=some (od2 kvs)/\get S1 rk=some (kT2 ms)/\Q (decide (ms∈kvs.map (·.1))) S1
theorem Hu {i:Nat} (h:vi S (Ht i QT)):Hr i vi S QT:=h
theorem Eb {i:Nat} {kvs:KV2} {ms:T2} {rk:VR} (e1:S[i]?=some (od2 kvs)) (e2:get S rk=some (kT2 ms)) (h:QT (decide (ms∈kvs.map (·.1))) S):Ht i QT rk S:=⟨kvs,ms,e1,e2,h⟩
def Hv (i:Nat) (Q:VR->List Sl->Prop):VR->List Sl->Prop:=fun rk S1=>∃kvs ms d,S1[i]?=some (od2 kvs)/\get S1 rk=some (kT2 ms)/\fB kvs ms=some d/\Q (.d d) S1
theorem Hw {i:Nat} {kvs:KV2} (e:S[i]?=some (od2 kvs)) (h:vi S (Hv i Q)):Hs i vi S Q:=⟨⟨kvs,e⟩,h⟩
theorem Ec {i:Nat} {kvs:KV2} {ms:T2} {rk:VR} (e1:S[i]?=some (od2 kvs)) (e2:get S rk=some (kT2 ms)) (e3:fB kvs ms=some d) (h:Q (.d d) S):Hv i Q rk S:=⟨kvs,ms,d,e1,e2,e3,h⟩
def Bm (i:Nat) (vi:VT) (V:ba):VR->List Sl->Prop:=fun r S1=>(∃kvs,S1[i]?=some (od2 kvs))/\vi S1 fun ri S2=>∃d ms kvs,r=.d d/\get S2 ri=some (kT2 ms)/\S2[i]?=some (od2 kvs)/\kvs.length<=1000000/\V.nx (S2.set i (od2 (eP kvs ms d)))
def vQ (i:Nat) (d:D) (V:ba):VR->List Sl->Prop:=fun ri S2=>∃d' ms kvs,VR.d d=.d d'/\get S2 ri=some (kT2 ms)/\S2[i]?=some (od2 kvs)/\kvs.length<=1000000/\V.nx (S2.set i (od2 (eP kvs ms d')))
theorem Ed {i:Nat} (h:va S (Bm i vi V)):Bl i va vi V S:=h
theorem zB {i:Nat} {kvs:KV2} (e:S[i]?=some (od2 kvs)) (h:vi S (vQ i d V)):Bm i vi V (.d d) S:=⟨⟨kvs,e⟩,h⟩
theorem vR {i:Nat} {kvs:KV2} {ms:T2} {rk:VR} (e1:get S rk=some (kT2 ms)) (e2:S[i]?=some (od2 kvs)) (hl:kvs.length<=1000000) (h:V.nx (S.set i (od2 (eP kvs ms d)))):vQ i d V rk S:=⟨d,ms,kvs,rfl,e1,e2,hl,h⟩
theorem Ee {i:Nat} (hi:PU (i+1) S.length=true) (h:V.nx (S.set i (od2 []))):Bk i V S:=⟨Jn hi,h⟩
end
end VL
end
section
namespace ST
open PySem PySem.Spec PySem.SetTable PyProof.Rows KT
section
variable {prog:Jp} {w:JQ}
theorem Ef (n:Nat) {A:JY} {E:IP->IM->Prop} {s:IM} {k:List Int} {a:Addr} {Q:Bool->IM->Prop} (hk:(inn prog w).is s.heap k a) (q:Q false s):JB (JD prog w) A (LQ (n+1) (.ref a)) Q E s:=by
 have hT:=P9 (s:=s) hk
 obtain ⟨o,items,m,ho,hc,hd,hi⟩:=hk
 unfold LQ
 refine II (Qd hT ?_)
 dsimp only
 rw [if_pos (show (("tuple":String)=="tuple")=true from rfl)]
 refine II (IK ?_)
 simp only [Lx,Jk,if_false]
 refine II (MD ho hd (II ?_))
 rw [<- Ld]
 refine LY _ (fun rest r t=>r.1=none/\t=s/\∀v∈rest,∃i tk,v=LD i tk) _ (fun v rest r t z=>?_) (fun r t z=>?_) _ _ ⟨rfl,rfl,items_int hi⟩
 ·obtain ⟨hr,rfl,hall⟩:=z
  obtain ⟨i,tk,rfl⟩:=hall v IQ
  refine II (zo _ ?_)
  simp only [Jk,if_false]
  exact IK ⟨rfl,rfl,fun u hu=>hall u (IZ _ hu)⟩
 ·obtain ⟨r1,r2⟩:=r
  obtain ⟨hr,rfl,_⟩:=z
  simp only at hr
  subst hr
  exact IK q
theorem Eg (n:Nat) {A:JY} {E:IP->IM->Prop} {s:IM} {k:List Int} {a:Addr} {Q:Bool->IM->Prop} (hk:(inn prog w).is s.heap k a) (q:Q true s):JB (JD prog w) A (Od (n+1) (.ref a)) Q E s:=by
 have hT:=P9 (s:=s) hk
 obtain ⟨o,items,m,ho,hc,hd,hi⟩:=hk
 unfold Od
 refine II (OO hT F.slot_tuple_hash.lookup ?_)
 show JB _ _ (seqItems? (.ref a) >>= _) _ _ _
 refine II (MD ho hd ?_)
 simp only [Oi]
 refine II ?_
 rw [<- Ld]
 refine LY _ (fun rest r t=>r.1=none/\t=s/\∀v∈rest,∃i tk,v=LD i tk) _ (fun v rest r t z=>?_) (fun r t z=>?_) _ _ ⟨rfl,rfl,items_int hi⟩
 ·obtain ⟨hr,rfl,hall⟩:=z
  obtain ⟨i,tk,rfl⟩:=hall v IQ
  refine II (zp _ ?_)
  simp only [Lx,Jk,if_false]
  exact IK ⟨rfl,rfl,fun u hu=>hall u (IZ _ hu)⟩
 ·obtain ⟨r1,r2⟩:=r
  obtain ⟨hr,rfl,_⟩:=z
  simp only at hr
  subst hr
  exact IK q
theorem lQ {h:Heap}:∀{kss:List (List Int)} {vs:List IP},Paired (Inn prog w h) kss vs->∀v∈vs,∃k b,v=.ref b/\(inn prog w).is h k b
 | _,_,.nil,v,h=>absurd h Ko
 | _,_,.cons r t,v,h=>by
  rcases List.mem_cons.mp h with rfl | h
  ·obtain ⟨b,e,q⟩:=r;exact ⟨_,b,e,q⟩
  ·exact lQ t v h
theorem IG:kO (tt prog w) where
 own:=fun {A E s k a Q} hk q=>by
  obtain ⟨items,⟨o,ho,hc,n,hd⟩,hi⟩:=hk
  unfold LQ
  refine II (Qd (T:="tuple") ⟨o,ho,hc⟩ ?_)
  dsimp only
  rw [if_pos (show (("tuple":String)=="tuple")=true from rfl)]
  refine II (IK ?_)
  simp only [Lx,Jk,if_false]
  refine II (MD ho hd (II ?_))
  rw [<- Ld]
  refine LY _ (fun rest r t=>r.1=none/\t=s/\∀v∈rest,∃k b,v=.ref b/\(inn prog w).is s.heap k b) _ (fun v rest r t z=>?_) (fun r t z=>?_) _ _ ⟨rfl,rfl,lQ hi⟩
  ·obtain ⟨hr,rfl,hall⟩:=z
   obtain ⟨k,b,rfl,hb⟩:=hall v IQ
   refine II (Ef _ hb ?_)
   simp only [Jk,if_false]
   exact IK ⟨rfl,rfl,fun u hu=>hall u (IZ _ hu)⟩
  ·obtain ⟨r1,r2⟩:=r
   obtain ⟨hr,rfl,_⟩:=z
   simp only at hr
   subst hr
   exact IK q
 byv:=fun {A E s k a Q} hk q=>by
  obtain ⟨items,⟨o,ho,hc,n,hd⟩,hi⟩:=hk
  unfold Od
  refine II (OO (T:="tuple") ⟨o,ho,hc⟩ F.slot_tuple_hash.lookup ?_)
  show JB _ _ (seqItems? (.ref a) >>= _) _ _ _
  refine II (MD ho hd ?_)
  simp only [Oi]
  refine II ?_
  rw [<- Ld]
  refine LY _ (fun rest r t=>r.1=none/\t=s/\∀v∈rest,∃k b,v=.ref b/\(inn prog w).is s.heap k b) _ (fun v rest r t z=>?_) (fun r t z=>?_) _ _ ⟨rfl,rfl,lQ hi⟩
  ·obtain ⟨hr,rfl,hall⟩:=z
   obtain ⟨k,b,rfl,hb⟩:=hall v IQ
   refine II (Eg _ hb ?_)
   simp only [Lx,Jk,if_false]
   exact IK ⟨rfl,rfl,fun u hu=>hall u (IZ _ hu)⟩
  ·obtain ⟨r1,r2⟩:=r
   obtain ⟨hr,rfl,_⟩:=z
   simp only at hr
   subst hr
   exact IK q
 keep:=fun {h h' k a} hk f=>by
  obtain ⟨items,⟨o,ho,hc,n,hd⟩,hi⟩:=hk
  refine ⟨items,⟨o,f a o items n ho hd,hc,n,hd⟩,L2.Paired.mapP hi fun k v z=>?_⟩
  obtain ⟨b,e,o2,it2,n2,g1,g2,g3,g4⟩:=z
  exact ⟨b,e,o2,it2,n2,f b o2 it2 n2 g1 g3,g2,g3,g4⟩
end
end ST
end
section
namespace L2
open PySem PySem.Spec PyProof.Rows PySem.W ST KT
def Hx (x:T2×Addr):Int×IP:=(t2H x.1,.ref x.2)
def SeP2 (w:JQ) (a:Addr) (xs:List (T2×Addr)) (h:Heap):Prop:=∃o es ep t,SetW (kP w) h a o es ep t/\t.mask+1<=8*(es.size+1)/\es.toList=xs.map Hx/\(xs.map (·.1)).Nodup/\xs.length<=1000
def vS (w:JQ) (a:Addr) (xs:List (T2×Addr)):HO:=.ext (SeP2 w a xs)
theorem SeP2.ok {P:Jp} {w w':JQ} {h:Heap} {a:Addr} {xs:List (T2×Addr)} (d:SeP2 w' a xs h):bt P w H h a (vS w' a xs):=
 ⟨d,let ⟨o,_,_,_,S,_⟩:=d;⟨o,S.ob⟩,fun h1 h2 zt1 k=>by obtain ⟨o,es,ep,t,S,r⟩:=zt1;exact ⟨o,es,ep,t,⟨k o S.ob,S.ex,S.da,S.tb,S.few,S.pl,S.ld⟩,r⟩⟩
theorem SeP2.at {w:JQ} {a:Addr} {xs:List (T2×Addr)} {h h':Heap} (d:SeP2 w a xs h) (e:h'.get? a=h.get? a):SeP2 w a xs h':=by
 obtain ⟨o,es,ep,t,S,r⟩:=d
 exact ⟨o,es,ep,t,⟨e.trans S.ob,S.ex,S.da,S.tb,S.few,S.pl,S.ld⟩,r⟩
theorem SeP2.nocell {w:JQ} {D:Addr} {xs:List (T2×Addr)} {h:Heap} {o:Obj} (d:SeP2 w D xs h) (e:h.get? D=some o):∀v,o.data≠.cell v:=fun v z=>by
 obtain ⟨o',es,ep,t,S,_⟩:=d
 rw [S.ob] at e;cases e
 rw [S.da] at z;cases z
theorem vT {w:JQ} {a:Addr} {h:Heap} (e:h.get? a=some (qz (kP w))):SeP2 w a [] h:=
 ⟨_,#[],0,_,⟨e,⟨rfl,rfl,rfl⟩,rfl,Tb.fresh _ _ _,show 0*5 < 7*3 by decide,rfl,rfl⟩,show 7+1<=8*(0+1) by decide,rfl,Lz,Kk _⟩
def oU (K:IJ) (H:Hp) (xs:List (T2×Addr)):Prop:=∀x∈xs,jI K H x.2 x.1
section
variable {X:Cx}
theorem Eh {s:IM} {a:Addr} {xs:List (T2×Addr)} (I:Inv X pins U H s) (d:SeP2 X.w a xs s.heap) (k:oU X.K H xs):∃o es ep t,SetIs (tt X.prog X.w) (kP X.w) s.heap a o es ep t xs:=by
 obtain ⟨o,es,ep,t,S,b,e,nd,_⟩:=d
 exact ⟨o,es,ep,t,S.ob,S.ex,S.da,e,S.tb,S.few,b,S.pl,S.ld,fun x hx=>e8 I (k x hx),nd⟩
theorem vU {prog:Jp} {w:JQ} {A:JY} {E:IP->IM->Prop} {s:IM} {a b:Addr} {k:T2} {led:Bool} {o:Obj} {es:Array (Int×IP)} {ep:Nat} {t:SetTable} {xs:List (T2×Addr)} {Q:IP->IM->Prop} (S:SetIs (tt prog w) led s.heap a o es ep t xs) (hr:(tt prog w).room A.in1) (hk:(tt prog w).is s.heap k b) (hl:xs.length<=1000)
  (q:∀h' o' es' ep' t' xs',L5 a s.heap h'->SetIs (tt prog w) led h' a o' es' ep' t' xs'->xs'.Perm (fu xs k b)->Q .none { s with heap:=h',toks:=s.toks+(tt prog w).draws k }):JB (JD prog w) A (call (.builtin "set.add") [.ref a,.ref b]) Q E s:=by
 have ty:s.TypeIs (.ref a) "set":=⟨_,S.ob,S.ex.1⟩
 refine J8 F.slot_set_add ty F.entry_set_add ?_ (F.args_set_add_2 _ _)
 show JB _ A.in1 (setAdd a (.ref b) >>= fun _=>ret JR) _ _ s
 refine II (J5 (II ((tt prog w).pyHash hr hk ?_)))
 have S':SetIs (tt prog w) led ({ s with toks:=s.toks+(tt prog w).draws k }:IM).heap a o es ep t xs:=S
 exact oT IG S' hr hk hl fun r h' o' es' ep' t' xs' sb S2 p=>IK ⟨_,rfl,q h' o' es' ep' t' xs' sb S2 p⟩
theorem zC {prog:Jp} {w:JQ} {A:JY} {E:IP->IM->Prop} {s:IM} {Q:IP->IM->Prop} (h:Q (.ref s.heap.objs.size) { s with heap:=s.heap.push (qz (kP w)) }):JB (JD prog w) A (newSet (.type "set")) Q E s:=by
 unfold newSet
 refine II (II (wpAny_askSetting (IK ?_)))
 simp only [newObj]
 exact II (wpAny_alloc (IK h))
def vV (K:IJ) (w:JQ) (wi:TI) (n:Nat) (ix:List Nat) (g:TG) (tc:TT) (te:TE):TE:=fun U H Q=>wi U H fun J H1=>∃W:Nat->Nat->List (T2×Addr)->Hp->Prop,(∃m,W 0 m [] H1)/\∀i m es H2,W i m es H2 ->
 (J.stop i H2/\∀D,H2 D=none->Q (.ref D) (upd H2 D (vS w D es))) \/
 (J.go i H2/\es.length < 1000/\∃Nx:List (T2×Addr)->Hp->Prop,(∀es' H',Nx es' H'->∃m',m' < m/\W (i+1) m' es' H') /\
  ∀x H3,J.yld i H2 x H3->g x (capt n ix U) H3 fun U2 H4=>tc U2 H4 fun b H5=>if b=true then te U2 H5 fun y H6=>∃b k,y=.ref b/\jI K H6 b k/\oU K H6 es/\∀xs',xs'.Perm (fu es k b)->Nx xs' H6 else Nx es H5)
theorem lR (ex target iter:Expr) (ifs:List Expr) (scope:MO) (pos:Pos) (it acc:IP) (env:Env) :
  QI (.SetComp ex [⟨target,iter,ifs,0⟩] scope pos) 0 it acc env=(do
   Mp iter.pos
   match <- Of it with
   | none=>pure (.done .next)
   | some v=>
    M8 target it v
    Oe target env v
    let mut ok:=true
    for c in ifs do
     if ok then ok <- Qh c env (eval c env)
    if ok then
     (do let v <- eval ex env;Mp ex.pos;let _ <- call (.builtin "set.add") [acc,v])
    again (.compLoop (.SetComp ex [⟨target,iter,ifs,0⟩] scope pos) 0 it acc env)):=by rfl
theorem j8 {prog:Jp} {w:JQ} {A:JY} {R:Result->IM->Prop} {s:IM} {ex target iter ifs rest scope pos it acc env}
  (h0:L0 (JD prog w) A (.compLoop (.SetComp ex (⟨target,iter,ifs,0⟩::rest) scope pos) 0 it acc env) R s)
  (h:JB (JD prog w) A (Qu it) (fun it' s'=>L0 (JD prog w) A (.compLoop (.SetComp ex (⟨target,iter,ifs,0⟩::rest) scope pos) 0 it' acc env) R s')
   (notedBy (JD prog w) A env fun x s'=>R (.error x) s') s) :
  L0 (JD prog w) A (.compStart (.SetComp ex (⟨target,iter,ifs,0⟩::rest) scope pos) 0 it acc env) R s:=by
 refine codeAny_of_tree ?_
 show JB _ A ((compStart (.SetComp ex (⟨target,iter,ifs,0⟩::rest) scope pos) 0 it acc env).onRaise (fun x=>do Qm x env;Mp theWindowsPlace)) _ _ s
 refine wpAny_notedAt ?_
 unfold compStart
 show JB _ A (ask >>= _) _ _ s
 refine II (wpAny_askSetting (wpAny_ite ?_))
 split
 ·first
   | exact II (IK (IK ⟨rfl,h0⟩))
   | exact IK ⟨rfl,h0⟩
 ·refine II (La ?_)
  show JB _ _ (Mp iter.pos >>= _) _ _ s
  exact II (KR (II (J9 h (fun it' s' z=>IK ⟨rfl,z⟩) fun _ _ x=>x)))
theorem vW {ex target iter:Expr} {ifs:List Expr} {scope:MO} {pos:Pos} {tg cs:List Str} {wi:TI} {g:TG} {tc:TT} {te:TE} (hu:X.A.units+64 < Lu) (S:bC X scope tg cs ix) (hcalm:X.calm=true) (kg:cS tg.length ix g)
    (hi:PI X target iter wi) (hg:∀C fp s H,PG (aA X scope (tg++cs) C fp s H) target g) (hc:∀C fp s H,PTs (aA X scope (tg++cs) C fp s H) ifs tc) (hk:∀C fp s H,PE (aA X scope (tg++cs) C fp s H) ex te)
    (hs:∀x,Kh iter X.env x=pure x:=by intro _;rfl):PE X (.SetComp ex [⟨target,iter,ifs,0⟩] scope pos) (vV X.K X.w wi tg.length ix g tc te):=by
  intro pins s U H Q I h
  rw [arm_eval_SetComp]
  refine L6 (use:=none) (cl:=cn X.env scope.names []) rfl hs (fF fun n hn=>I.ok.has n (S.out n hn)) S.kind S.names ?_
  refine J9 (hi pins s U H _ I h) (fun v s1 h1=>J9 h1 (fun itv s2 h2=>?_) fun _ _ e=>e) fun _ _ e=>e
  obtain ⟨it,fp,tn,J,H2,rfl,I2,T,st2,f2,W,⟨m0,w0⟩,turn⟩:=h2
  refine zC (MS S.nocell (by intro y hy;simp at hy) (fun h1 hns1 hsb1=>?_) S.kind)
  dsimp only at hns1 hsb1 ⊢
  generalize hP:s2.heap.push (qz (kP X.w))=P2 at hns1 hsb1 ⊢
  have hCs:P2.objs.size=s2.heap.objs.size+1:=by rw [<- hP,MB]
  have hDC:s2.heap.objs.size≠P2.objs.size:=by rw [hCs];exact JG (Oh _)
  have hCle:s2.heap.objs.size<=P2.objs.size:=by rw [hCs];exact Mt _
  generalize hCg:P2.objs.size=C at *
  have old:∀b o,s2.heap.get? b=some o->h1.get? b=some o:=fun b o e=>hsb1.extBut b o (JG (Js (Jg e) hCle)) (IN _ (hP▸IN _ e))
  generalize hDg:s2.heap.objs.size=D at *
  have hD0:h1.get? D=some (qz (kP X.w)):=hsb1.extBut _ _ hDC (IN _ (hP▸hDg▸Je _ rfl))
  have nC:H2 C=none:=I2.hok.fresh (by rw [hDg];exact hCle)
  have nD:H2 D=none:=I2.hok.fresh (by rw [hDg];exact IS _)
  have fo:∀b∈fp,∃o,s2.heap.get? b=some o:=fun b hb=>let ⟨o,e,_⟩:=T.obj _ _ st2 b hb;⟨o,e⟩
  have Dfp:D∉fp:=fun z=>by
    obtain ⟨o,e⟩:=fo D z
    have:=Jg e
    rw [hDg] at this
    exact absurd this (Kp _)
  have Dfs:D∉frs X.stack:=fun z=>by
    rcases List.mem_cons.mp (I2.stkSub D z) with e | e
    · have:=I2.lt
      rw [<- e,hDg] at this
      exact absurd this (Kp _)
    · exact I2.nofs (by rw [hDg];exact IS _) e
  have DcY:∀x c,(cn X.env scope.names []).lookup x=some c->c≠D:=fun x c e=>by
    rcases eh (Ke e) with h | h
    · cases h
    · exact (I2.fpOk (H':=H2) (b:=D) (by rw [hDg];exact IS _) nD).2.2.2.2.1 x c h
  -- the block's context
  have Yok:∀s4:IM,s4={ s2 with heap:=h1,toks:=s2.toks+([]:List (Str×IP)).length }->Inv (aA X scope (tg++cs) C fp s2 H2) [] (capt tg.length ix U) H2 s4:=by
    rintro s4 rfl
    exact jb S I2 f2 fo (by rw [hDg];exact hCle) old (by simpa using hns1) rfl I2.bare nC
  -- the loop
  have loop:∀s4:IM,s4={ s2 with heap:=h1,toks:=s2.toks+([]:List (Str×IP)).length } ->
      L0 (JD X.prog X.w) X.A (.compLoop (.SetComp ex [⟨target,iter,ifs,0⟩] scope pos) 0 (.ref it) (.ref D) (MW scope (cn X.env scope.names []) C X.env)) (QH (JD X.prog X.w) X.A X.xe none (EP X pins U Q) (.ref D) C) s4:=by
    intro s4 e4
    refine Qf rfl (fun n s'=>∃i es o H',Inv (aA X scope (tg++cs) C fp s2 H2) [] (capt tg.length ix U) H' s'/\tn i s'.heap/\(∀b∈fp,H' b=none)/\H' D=none/\s'.heap.get? D=some o/\SeP2 X.w D es s'.heap/\W i n es H')
      ?_ m0 ⟨0,[],_,H2,Yok s4 e4,?_,fun b hb=>(f2 b hb).1,nD,by rw [e4];exact hD0,vT (by rw [e4];exact hD0),w0⟩
    · rintro n s5 ⟨i,es,o,H5,I5,st5,fr5,d5,o5,v5,w5⟩
      show JB _ X.A ((QI (.SetComp ex [⟨target,iter,ifs,0⟩] scope pos) 0 (.ref it) (.ref D) (MW scope (cn X.env scope.names []) C X.env)).onRaise (fun x=>do Qm x (MW scope (cn X.env scope.names []) C X.env);OC x)) _ _ s5
      refine Qn ?_
      rw [lR]
      have pin0:Inv (aA X scope (tg++cs) C fp s2 H2) [(D,o)] (capt tg.length ix U) H5 s5:=I5.pins_of fun p hp=>by
        have e:p=(D,o):=by simpa using hp
        subst e
        exact ⟨o5,d5,hDC,Dfs,v5.nocell o5⟩
      have fpY:∀{H':Hp},(∀b∈fp,H' b=none)->∀b∈fp,iG (aA X scope (tg++cs) C fp s2 H2) [(D,o)] H' b:=fun hn b hb=>
        ⟨hn b hb,(I5.ok.exf b hb).1,fun z=>I5.ok.exfs b hb z,.inl hb,(I5.ok.exf b hb).2,fun p hp z=>by
          have hp:p∈([]:List (Addr×Obj))++[(D,o)]:=hp
          have e:p=(D,o):=by simpa using hp
          subst e
          have z:D=b:=z
          exact Dfp (z▸hb)⟩
      refine II (KR (II ?_))
      rcases turn i n es H5 w5 with ⟨stop,qn⟩ | ⟨go,hz,Nx,hN,step⟩
      · refine thn (T.done (aA X scope (tg++cs) C fp s2 H2) rfl rfl rfl hcalm i _ s5 _ H5 _ pin0 (fpY fr5) st5 stop) fun r s6 zr1=>?_
        obtain ⟨hr,I6⟩:=zr1
        subst hr
        refine IK ?_
        obtain ⟨mC,hnsC,_⟩:=id I6.loc
        refine ⟨mC,hnsC,fun h' sb=>?_⟩
        have IX:Inv X pins U H5 s6:=I2.call' (ch:=fp) I6.os I6.base I6.hok I6.bare fun b hb=>let ⟨_,a1,_,a3,a4,a5⟩:=f2 b hb;⟨a3,a1,a4,a5⟩
        obtain ⟨_,c1,_,c3,c4,c5⟩:=I2.fpOk (H':=H5) (b:=C) (by rw [hDg];exact hCle) I6.free
        have IX2:Inv X pins U H5 { s6 with heap:=h' }:=IX.turned (t':=s6.toks) (fun b o hb e=>(sb.2 b hb).trans e) I6.free c1 c3 c4 c5
        obtain ⟨_,b1,_,b3,b4,b5⟩:=I2.fpOk (H':=H5) (b:=D) (by rw [hDg];exact IS _) d5
        have gD:h'.get? D=some o:=(sb.2 D hDC).trans (I6.pin (D,o) (IU _ IQ)).1
        exact ⟨.ref D,upd H5 D (vS X.w D es),IX2.track d5 (by rw [<- hDg];exact I2.sz) b1 b4 b5 ((v5.at (gD.trans o5.symm)).ok),rfl,qn D d5⟩
      · refine thn (T.item (aA X scope (tg++cs) C fp s2 H2) rfl rfl rfl hcalm i _ s5 _ H5 _ pin0 (fpY fr5) st5 go) fun r s6 zr1=>?_
        obtain ⟨u,hr,h6⟩:=zr1
        subst hr
        refine II (thn h6 fun _ s7 zr1=>?_)
        obtain ⟨x,H7,I7,r7,y7,st7,fr7⟩:=zr1
        have I7':=I7.pinned (fpY fr7) (T.obj _ _ st7)
        -- the next turn
        have again:∀{U2:St} {H8:Hp} {s8:IM} {es':List (T2×Addr)} {o':Obj},Inv (aA X scope (tg++cs) C fp s2 H2) [] U2 H8 s8->(U2.length=(capt tg.length ix U).length/\∀(i:Nat) (v:V),(capt tg.length ix U)[i]?=some (some v)->U2[i]?=some (some v)) ->
            (∀b∈fp,∀o,s7.heap.get? b=some o->s8.heap.get? b=some o)->(∀b∈fp,H8 b=none)->H8 D=none->s8.heap.get? D=some o'->SeP2 X.w D es' s8.heap->Nx es' H8 ->
            ∃m,m < n/\∃i es o H',Inv (aA X scope (tg++cs) C fp s2 H2) [] (capt tg.length ix U) H' s8/\tn i s8.heap/\(∀b∈fp,H' b=none)/\H' D=none/\s8.heap.get? D=some o/\SeP2 X.w D es s8.heap/\W i m es H':=by
          intro U2 H8 s8 es' o' I8 kp fk fn dn dg vv nx
          obtain ⟨m',hm,w8⟩:=hN es' H8 nx
          exact ⟨m',hm,i+1,es',o',H8,I8.weak kp.1.symm kp.2,T.keep _ _ _ st7 fk,fn,dn,dg,vv,w8⟩
        refine II (J9 (hg C fp s2 H2 _ s7 _ H7 x u _ I7' r7 (kg x U H7 _ (step x H7 y7))) (fun _ s8 zr1=>?_) fun _ _ z=>z.elim)
        obtain ⟨U8,H8,I8,kp8,q8⟩:=zr1
        refine II (J9 (hc C fp s2 H2 _ s8 U8 H8 _ I8 q8) (fun ok s9 zr1=>?_) fun _ _ z=>z.elim)
        obtain ⟨H9,I9,q9⟩:=zr1
        have pinsOf:∀{U':St} {H':Hp} {s':IM},Inv (aA X scope (tg++cs) C fp s2 H2) ([(D,o)]++fD fp s7.heap) U' H' s' ->
            (∀b∈fp,∀o,s7.heap.get? b=some o->s'.heap.get? b=some o)/\(∀b∈fp,H' b=none)/\H' D=none/\s'.heap.get? D=some o:=by
          intro U' H' s' I'
          refine ⟨fun b hb o e=>(I'.pin (b,o) (IU _ (IU _ (bP hb e)))).1,fun b hb=>?_,(I'.pin (D,o) (IU _ (J3 _ IQ))).2.1,(I'.pin (D,o) (IU _ (J3 _ IQ))).1⟩
          obtain ⟨o,e,d⟩:=T.obj _ _ st7 b hb
          exact (I'.pin (b,o) (IU _ (IU _ (bP hb e)))).2.1
        cases ok with
        | false=>
          obtain ⟨p1,p2,p3,p4⟩:=pinsOf I9
          exact IK ⟨rfl,again (I9.pins_of fun p hp=>nomatch hp) kp8 p1 p2 p3 p4 (v5.at (p4.trans o5.symm)) q9⟩
        | true=>
          have q9:te U8 H9 fun y H6=>∃b k,y=.ref b/\jI X.K H6 b k/\oU X.K H6 es/\∀xs',xs'.Perm (fu es k b)->Nx xs' H6:=q9
          refine II (II (J9 (hk C fp s2 H2 _ s9 U8 H9 _ I9 q9) (fun kv s10 zr1=>?_) fun _ _ z=>z.elim))
          obtain ⟨y,H10,I10,ry,b,ms,ey,sq,ka,nx⟩:=zr1
          subst ey
          cases ry
          obtain ⟨p1,p2,p3,p4⟩:=pinsOf I10
          have P10:SeP2 X.w D es s10.heap:=v5.at (p4.trans o5.symm)
          obtain ⟨so,ses,sep,st,SS⟩:=Eh (X:=aA X scope (tg++cs) C fp s2 H2) I10 P10 ka
          refine II (KR (II (vU SS (iS hu) (e8 (X:=aA X scope (tg++cs) C fp s2 H2) I10 sq) (by lia) fun h' o' es' ep' t' xs' hs' S' pm=>?_)))
          have I12:Inv (aA X scope (tg++cs) C fp s2 H2) [] U8 H10 s10:=I10.pins_of fun p hp=>nomatch hp
          have I13:Inv (aA X scope (tg++cs) C fp s2 H2) [] U8 H10 { s10 with heap:=h',toks:=s10.toks+(tt X.prog X.w).draws ms }:=
            I12.turned (fun b o hb e=>(hs'.2 b hb).trans e) p3 hDC (.inr (by show s2.heap.objs.size<=D;rw [hDg];exact IS _)) DcY (fun p hp=>nomatch hp)
          have zl:xs'.length<=1000:=by
            have e1:=pm.length_eq
            have e2:(fu es ms b).length<=es.length+1:=by unfold fu;split <;> simp
            lia
          refine IK (IK ⟨rfl,again I13 kp8 (fun b hb o e=>(hs'.2 b (fun z:b=D=>Dfp (z▸hb))).trans (p1 b hb o e)) p2 p3 S'.ob ⟨o',es',ep',t',S'.tab,S'.big,S'.el,S'.nd,zl⟩ (nx xs' pm)⟩)
    · rw [e4];exact T.keep _ _ _ st2 fun b _ o e=>old b o e
  exact j8 (loop _ rfl) (T.self _ 0 _ _ _ (T.keep _ _ _ st2 fun b _ o e=>old b o e) (loop _ rfl))
end
end L2
end
section
namespace L2
open PySem PySem.Spec PyProof.Rows PySem.W ST KT
def vX (X:Cx):List V->Hp->VK->Prop:=fun xs H Q=>∃a zs,xs=[.ref a]/\H a=some (vS X.w a zs)/\Q (.int zs.length) H
theorem oV {X:Cx}:b7 X (.builtin "len") (vX X):=by
 rintro pins s U H xs us Q I r ⟨a,zs,e,ha,q⟩
 subst e
 obtain ⟨u,rfl,rx⟩:=vals1 r
 cases rx
 obtain ⟨o,es,ep,t,S,_,e1,e2,e3⟩:=(show bt X.prog X.w H s.heap a (.ext (SeP2 X.w a zs)) from I.hok a _ ha).1
 have sz:es.size=zs.length:=by rw [<- Jl,e1,IR]
 rw [<- sz] at q
 refine call_len_set S.ob S.ex S.da S.fits (by lia) ⟨.int es.size,H,I.tok _,⟨_,rfl⟩,q⟩
end L2
namespace VL
open PySem L2 KT ST
def oW (cs:List T2) (k:T2):List T2:=if k∈cs then cs else cs++[k]
theorem sd {es xs':List (T2×Addr)} {cs:List T2} {k:T2} {b:Addr} (pe:(es.map (·.1)).Perm cs) (pm:xs'.Perm (fu es k b)):(xs'.map (·.1)).Perm (oW cs k):=by
 refine (pm.map _).trans ?_
 unfold fu oW
 by_cases h:k∈es.map (·.1)
 ·rw [if_pos h,if_pos (pe.mem_iff.mp h)];exact pe
 ·rw [if_neg h,if_neg (fun z=>h (pe.mem_iff.mpr z)),Jc]
  exact pe.append (O4 _)
theorem vY {es xs':List (T2×Addr)} {k:T2} {b:Addr} (pm:xs'.Perm (fu es k b)) {x:T2×Addr} (h:x∈xs'):x∈es\/x=(k,b):=by
 have h:=pm.mem_iff.mp h
 unfold fu at h
 split at h
 ·exact .inl h
 ·rcases List.mem_append.mp h with h | h
  ·exact .inl h
  ·exact .inr (List.mem_singleton.mp h)
theorem vZ {es xs':List (T2×Addr)} {k:T2} {b:Addr} (pm:xs'.Perm (fu es k b)):xs'.length<=es.length+1:=by
 rw [pm.length_eq]
 unfold fu
 split <;> simp
section
variable {K:IJ} {X:Cx} {m:Bool} {ex iter:Expr} {pos pos0 p1:Pos}
def v9 (vi:VTN) (n:Nat) (ix:List Nat) (vg:VG) (vt:VTT) (ve:VT):VT:=fun S Q=>vi S fun ds S1=>ds.length<=1000/\∃Iv:Nat->List T2->List Sl->Prop,Iv 0 [] S1 /\
 (∀i d cs S2,ds[i]?=some d->Iv i cs S2->vg d (bz n ix S2) fun S3=>vt S3 fun b S4=>if b=true then ve S4 fun r S5=>∃k,r=.d (kT2 k)/\Iv (i+1) (oW cs k) (backS n ix S2 S5) else Iv (i+1) cs (backS n ix S2 S4)) /\
 ∀cs S2,Iv ds.length cs S2->Q (.d (.int cs.length)) S2
theorem wa {ifs:List Expr} {scope:MO} {tg cs:List Str} {target:Expr} {wi:TI} {vi:VTN} {g:TG} {vg:VG} {tc:TT} {vt:VTT} {te:TE} {ve:VT} (hK:X.K=K) (hu:X.A.units+64 < Lu) (hg1:Gl X "len") (hm1:X.mg "len"=none) (Sc:bC X scope tg cs ix) (hcalm:X.calm=true) (kg:cS tg.length ix g) (hnd:ix.Nodup)
    (hi:VI K X target iter wi vi) (hg:∀C fp s H,VGe K (aA X scope (tg++cs) C fp s H) target g vg) (hc:∀C fp s H,VTs K (aA X scope (tg++cs) C fp s H) ifs tc vt) (hk:∀C fp s H,VE K (aA X scope (tg++cs) C fp s H) false ex te ve)
    (hs:∀x,Kh iter X.env x=pure x:=by intro _;rfl):VE K X m (.Call (.Name "len" p1) [.SetComp ex [⟨target,iter,ifs,0⟩] scope pos] [] pos0) (tCB (vX X) (i6 (vV K X.w wi tg.length ix g tc te) mD)) (v9 vi tg.length ix vg vt ve):=by
  have sg:SndG K g vg:=(hg 0 [] X.s₀ (fun _=>none)).snd
  have sc:SndT K tc vt:=(hc 0 [] X.s₀ (fun _=>none)).snd
  have se:SndE K false te ve:=(hk 0 [] X.s₀ (fun _=>none)).snd
  refine ⟨by subst hK;exact fS oV hg1 hm1 ck (cX (vW hu Sc hcalm kg hi.pi (fun C fp s H=>(hg C fp s H).pg) (fun C fp s H=>(hc C fp s H).pe) (fun C fp s H=>(hk C fp s H).pe) hs) gT),fun H0 Z U H S Q C k t hq=>?_⟩
  refine hi.snd H0 Z U H S _ _ k t fun J ds H1 S1 k1 st1 gd zr1=>?_
  obtain ⟨hl,Iv,i0,hs,hd⟩:=zr1
  refine ⟨fun i m es H=>m=ds.length-i/\i<=ds.length/\es.length<=i/\∃S2 cs,OK K H0 Z U H S2/\Step Z U S1 H1 U S2 H/\(∀x∈es,Rep K (NM Z U S2) AnyF H (.ref x.2) (kT2 x.1))/\(es.map (·.1)).Perm cs/\Iv i cs S2,
    ⟨ds.length,by simp,Kk _,IS _,S1,[],k1,.refl,fun x hx=>absurd hx Ko,.refl _,i0⟩,?_⟩
  rintro i m es H2 ⟨rfl,hi,hy,S2,cs,k2,st2,ca,pe,p⟩
  obtain ⟨g1,g2,g3⟩:=gd U S2 H2 (fun _=>k2.nm) st2.1 i
  by_cases hlt:i < ds.length
  · refine .inr ⟨g1 hlt,by lia,fun es' H'=>es'.length<=i+1/\∃S' cs',OK K H0 Z U H' S'/\Step Z U S1 H1 U S' H'/\(∀x∈es',Rep K (NM Z U S') AnyF H' (.ref x.2) (kT2 x.1))/\(es'.map (·.1)).Perm cs'/\Iv (i+1) cs' S',
      fun es' H' zt1=>by obtain ⟨p1,p2⟩:=zt1;exact ⟨ds.length-(i+1),by lia,rfl,hlt,p1,p2⟩,fun x H3 y=>?_⟩
    obtain ⟨hgr,d,hd',rd⟩:=g2 x H3 y hlt
    replace k2:=k2.grow hgr
    replace st2:=st2.trans (.grow hgr)
    replace ca:∀x∈es,Rep K (NM Z U S2) AnyF H3 (.ref x.2) (kT2 x.1):=fun x hx=>(ca x hx).mono (fun a n e=>⟨n,hgr a e⟩) fun _ x=>x
    have kc:=k2.capt (n:=tg.length) hnd
    have rd':Rep K (NM (Zin Z ix U S2) (L2.capt tg.length ix U) (bz tg.length ix S2)) AnyF H3 x d:=rd.mono (fun a n _=>⟨fun z=>n (jk.mp z),rfl⟩) fun _ x=>x
    have h1:=sg H0 _ _ H3 _ x d _ (fun U4 H4=>∃S4,OK K H0 (Zin Z ix U S2) U4 H4 S4/\Step (Zin Z ix U S2) (L2.capt tg.length ix U) (bz tg.length ix S2) H3 U4 S4 H4/\vt S4 fun b S5=>if b=true then ve S5 fun r S6=>∃k,r=.d (kT2 k)/\Iv (i+1) (oW cs k) (backS tg.length ix S2 S6) else Iv (i+1) cs (backS tg.length ix S2 S5)) kc rd' (hs i d cs S2 hd' p) (fun U4 H4 S4 k4 st4 q4=>⟨S4,k4,st4,q4⟩)
    have h2:=kg x U H3 _ h1
    refine (hg 0 [] X.s₀ (fun _=>none)).mono _ _ _ _ _ ?_ h2
    rintro U4 H4 ⟨⟨hl4,hσ4⟩,S4,k4,st4,q4⟩
    refine sc H0 _ U4 H4 S4 _ _ k4 q4 fun bb H5 S5 k5 st5 q5=>?_
    cases bb with
    | false=>
      rw [if_neg IT] at q5 ⊢
      obtain ⟨kb,sb,nb⟩:=k2.back k5 (st4.trans st5) hσ4
      exact ⟨by lia,_,cs,kb,st2.trans sb,fun x hx=>(ca x hx).step sb,pe,q5⟩
    | true=>
      rw [if_pos rfl] at q5 ⊢
      refine se H0 _ U4 H5 S5 _ _ k5 q5 fun yy H6 ry S6 k6 st6 rry zr1=>?_
      obtain ⟨kk,er,q6⟩:=zr1
      subst er
      have rb:Rep K (NM (Zin Z ix U S2) U4 S6) (FM H0 false) H6 yy (kT2 kk):=rry
      obtain ⟨b,rfl,hq2⟩:=Rep.key2 rb
      obtain ⟨kb,sb,nb⟩:=k2.back k6 ((st4.trans st5).trans st6) hσ4
      have ca':∀x∈es,Rep K (NM Z U (backS tg.length ix S2 S6)) AnyF H6 (.ref x.2) (kT2 x.1):=fun x hx=>(ca x hx).step sb
      have rb':Rep K (NM Z U (backS tg.length ix S2 S6)) AnyF H6 (.ref b) (kT2 kk):=Rep.mono (fun a n _=>⟨nb a n,rfl⟩) (fun _ _=>trivial) rb
      refine ⟨b,kk,rfl,hq2,fun x hx=>?_,fun xs' pm=>⟨?_,_,oW cs kk,kb,st2.trans sb,fun x hx=>?_,sd pe pm,q6⟩⟩
      · obtain ⟨c,e,q⟩:=Rep.key2 (ca' x hx)
        cases e
        exact q
      · have:=vZ pm
        lia
      · rcases vY pm hx with hx | rfl
        · exact ca' x hx
        · exact rb'
  · have e:i=ds.length:=by lia
    refine .inl ⟨g3 e,fun l hp=>?_⟩
    have ge:=aV (o:=vS X.w l es) hp
    have el:es.length=cs.length:=by rw [<- pe.length_eq,IR]
    refine ⟨l,es,rfl,aJ,hq _ _ (.d (.int es.length)) S2 (k2.grow ge) ((st1.trans st2).trans (.grow ge)) (Rep.int _) ?_⟩
    rw [el]
    exact hd cs S2 (by rw [<- e];exact p)
variable {S:List Sl} {Q:VR->List Sl->Prop} {vi:VTN} {vg:VG} {vt:VTT} {ve:VT} {n:Nat} {ix:List Nat}
def Ei (n:Nat) (ix:List Nat) (vg:VG) (vt:VTT) (ve:VT) (Q:VR->List Sl->Prop):List D->List Sl->Prop:=fun ds S1=>ds.length<=1000/\∃Iv:Nat->List T2->List Sl->Prop,Iv 0 [] S1 /\
 (∀i d cs S2,ds[i]?=some d->Iv i cs S2->vg d (bz n ix S2) fun S3=>vt S3 fun b S4=>if b=true then ve S4 fun r S5=>∃k,r=.d (kT2 k)/\Iv (i+1) (oW cs k) (backS n ix S2 S5) else Iv (i+1) cs (backS n ix S2 S4)) /\
 ∀cs S2,Iv ds.length cs S2->Q (.d (.int cs.length)) S2
theorem zD (h:vi S (Ei n ix vg vt ve Q)):v9 vi n ix vg vt ve S Q:=h
end
end VL
end
section
namespace L2
open PySem PySem.Spec PyProof.Rows PySem.W
theorem kS {prog:Jp} {w:JQ} {A:JY} {R:Result->IM->Prop} {I:Addr} {fp wr:List Addr} {n:Nat} {P:Nat->IP->Prop} {St:Nat->Heap->Prop} (W:Walks prog w A.in1 I fp wr n P St) (tr:Nat->Bool) (J:Heap->Prop)
  (hJ:∀h h',(∀b o,b∉wr->h.get? b=some o->h'.get? b=some o)->J h->J h')
  (htr:∀i v (s:IM) (Q:Bool->IM->Prop) (E:IP->IM->Prop),P i v->J s.heap->(∀tk,Q (tr i) { s with toks:=tk })->JB (JD prog w) A.in1 (QJ v) Q E s):∀(k i:Nat) (s:IM),n-i=k->i<=n->St i s.heap->J s.heap ->
  (∀h' tk,(∀b o,b∉wr->s.heap.get? b=some o->h'.get? b=some o)->R (.ok (.ret (.bool (((JS n).drop i).all tr)))) { s with heap:=h',toks:=tk }) ->
  L0 (JD prog w) A (.builtin "all.loop" ⟨[.ref I],[]⟩) R s
 | 0,i,s,hk,hi,hst,hj,hR=>by
  obtain rfl:i=n:=by lia
  have fin:=hR
  simp only [KG (show (JS i).length<=i by rw [Kj];exact IS _),List.all_nil] at fin
  exact OF F.entry_all_loop (by rw [OZ F.plain_all_loop _];exact II (m:=Of (.ref I)) (W.done s _ _ hst fun h' tk g=>II (La (IK (fin h' tk g)))))
 | k+1,i,s,hk,hi,hst,hj,hR=>by
  have lt:i < n:=by lia
  have fin:=hR
  simp only [show (JS n).drop i=i::(JS n).drop (i+1) by rw [KI (by rw [Kj];exact lt),NC],Pz] at fin
  refine OF F.entry_all_loop ?_;rw [OZ F.plain_all_loop _]
  refine II (m:=Of (.ref I)) (W.item i s _ _ lt hst fun v h1 t1 hv st1 g1=>II (J5 (htr i v _ _ _ hv (hJ _ h1 g1 hj) fun t2=>II (wpAny_letGo ?_))))
  cases e:tr i <;> simp only [e,Bool.true_and,Bool.false_and] at fin
  ·exact II (La (IK (fin h1 t2 g1)))
  ·exact IK ⟨plainId_quiet F.plain_all_loop _,kS W tr J hJ htr k (i+1) _ (by lia) lt st1 (hJ _ h1 g1 hj) fun h2 t3 g2=>fin h2 t3 fun b o nb q=>g2 b o nb (g1 b o nb q)⟩
def Bn (K:IJ):List V->Hp->VK->Prop:=fun xs H Q=>∃(l:Addr) (ls:List Addr) (vss:List (List V)),xs=[.ref l]/\SqL K H l (ls.map V.ref)/\Paired (fun a vs=>SqL K H a vs) ls vss/\Q (.bl (vss.all fun v=>!v.isEmpty)) H
theorem jL {X:Cx} {s:IM} (I:Inv X pins U H s):∀{ls:List Addr} {vss:List (List V)},Paired (fun a vs=>SqL X.K H a vs) ls vss->∀(i:Nat) (a:Addr),ls[i]?=some a->∃(vs:List V) (its:Array IP),vss[i]?=some vs/\s.heap.IsList a its/\its.size=vs.length/\vs.length<=JA
 | _,_,.nil,i,a,h=>by simp at h
 | _,_,.cons h t,0,a,e=>by
  simp at e
  subst e
  obtain ⟨us,rv,pl,hz⟩:=I.list h
  exact ⟨_,us.toArray,rfl,pl.isList,by simp [rv.length],hz⟩
 | _,_,.cons h t,i+1,a,e=>by
  simp only [Kq] at e ⊢
  exact jL I t i a e
theorem wb {X:Cx} (hc:X.calm=true):b7 X (.builtin "all") (Bn X.K):=by
 rintro pins s U H xs us Q I r ⟨l,ls,vss,e,hq,hp,q⟩
 subst e
 obtain ⟨u,rfl,rx⟩:=Vals.one r
 cases rx
 obtain ⟨vs,rv,pl,_⟩:=I.list hq
 cases gW rv
 have hlen:ls.length=vss.length:=Kw hp
 have hl:=pl.isList
 have hlt:l < s.heap.objs.size:=by obtain ⟨_,e,_⟩:=hl;exact Jg e
 refine call_function_tree F.kind_all F.plain_all F.entry_all (F.args_all1 _) ?_
 unfold Builtin.«all»
 refine II (m:=oneArg "all" _) (IK ?_)
 refine II (PK hl ?_)
 have W:=Walks.list (prog:=X.prog) (w:=X.w) (A:=X.A.in1) (I.ok.hd hc) s.heap.objs.size l (JG hlt) (ls.map Jz).toArray
 refine IK ⟨plainId_quiet F.plain_all_loop _,kS W (fun i=>((vss[i]?).map fun v:List V=>!v.isEmpty).getD true) (fun h:Heap=>∀(i:Nat) (a:Addr),ls[i]?=some a->∃(vs:List V) (its:Array IP),vss[i]?=some vs/\h.IsList a its/\its.size=vs.length/\vs.length<=JA) ?_ ?_ (ls.map Jz).toArray.size 0 _ rfl (Kk _) ⟨⟨_,Je _ rfl,rfl,rfl⟩,hl.push _⟩ ?_ fun h' tk hk=>?_⟩
 ·intro h h' hk hJ i a e
  obtain ⟨v,its,e1,⟨o,h1,h2⟩,e3,e4⟩:=hJ i a e
  obtain ⟨_,_,_,⟨o',h1',_⟩,_⟩:=jL I hp i a e
  exact ⟨v,its,e1,⟨o,hk a o (fun z=>by rw [List.mem_singleton.mp z] at h1';exact Kp _ (Jg h1')) h1,h2⟩,e3,e4⟩
 ·intro i v s' Q' E' hP hj hQ
  rw [List.getElem?_toArray,Jh] at hP
  cases ha:ls[i]? with
  | none=>rw [ha] at hP;cases hP
  | some a=>
   rw [ha] at hP
   cases hP
   obtain ⟨vs,its,e1,e2,e3,e4⟩:=hj i a ha
   refine NS e2 (by rw [e3];rw [J7] at e4;lia) ?_
   have:=hQ (s'.toks+1+1)
   rw [e1] at this
   have e5:its.isEmpty=vs.isEmpty:=by
    unfold Array.isEmpty
    rw [e3]
    cases vs <;> rfl
   rw [e5]
   exact this
 ·intro i a e
  obtain ⟨vs,its,e1,e2,e3,e4⟩:=jL I hp i a e
  exact ⟨vs,its,e1,e2.push _,e3,e4⟩
 ·have ek:∀b x,s.heap.get? b=some x->h'.get? b=some x:=LSm.kept_iter hk
  have eb:(((JS (ls.map Jz).toArray.size).drop 0).all fun i=>((vss[i]?).map fun v:List V=>!v.isEmpty).getD true)=vss.all fun v=>!v.isEmpty:=by
   rw [Jb,IR,hlen,NJ,Ky,LZ,LZ]
   constructor
   ·intro h v hv
    obtain ⟨i,hi,rfl⟩:=K5 hv
    have:=h i (List.mem_range.mpr hi)
    rw [IL hi] at this
    exact this
   ·intro h i hi
    rw [IL (List.mem_range.mp hi)]
    exact h _ (List.getElem_mem _)
  rw [eb]
  exact ⟨.bl _,H,I.kept (t':=tk) ek,rfl,q⟩
end L2
namespace VL
open PySem L2
section
variable {K:IJ} {X:Cx} {m:Bool} {e:Expr} {te:TE} {va:VT} {pos p2:Pos} {vl vh:VO}
theorem nJ {N:AP}:∀{vs:List V} {dss:List (List D)},Reps K N F H vs (dss.map D.lst)->∃ls vss,vs=ls.map V.ref/\Paired (fun a vs=>SqL K H a vs) ls vss/\(vss.all fun v=>!v.isEmpty)=dss.all fun d=>!d.isEmpty
 | _,[],.nil=>⟨[],[],rfl,.nil,rfl⟩
 | _,ds::r,.cons h t=>by
  obtain ⟨ls,vss,rfl,h2,h3⟩:=nJ t
  obtain ⟨a,vs,rfl,hq,rr⟩:=Rep.sqL h
  refine ⟨a::ls,vs::vss,rfl,.cons hq h2,?_⟩
  rw [Pz,Pz,h3]
  have:=rr.length
  congr 1
  cases vs <;> cases ds <;> first | rfl | simp at this
def Hy:List D->(D->Prop)->Prop:=fun ds q=>∃dss:List (List D),ds=[.lst (dss.map .lst)]/\q (.bl (dss.all fun d=>!d.isEmpty))
theorem wd:fA K (Bn K) Hy:=by
 rintro xs H ds q C r ⟨dss,rfl,h⟩ hc
 obtain ⟨v,rfl,rv⟩:=rep1 r
 obtain ⟨a,vs,rfl,hq,rr⟩:=rv.sqL
 obtain ⟨ls,vss,rfl,hp,e⟩:=nJ rr
 refine ⟨a,ls,vss,rfl,hq,hp,?_⟩
 rw [e]
 exact hc _ _ h fun _ _=>.bl _
def Hz (va:VT) (vl vh:VO):VT:=fun S Q=>va S fun r S1=>vl S1 fun lo S2=>vh S2 fun hi S3=>∃ds,get S3 r=some (.lst ds)/\Q (.d (.lst (cutD ds lo hi))) S3
theorem oX {lo hi:Option Expr} {tl th:TO} (hK:X.K=K) (h:VE K X false e te va) (hl:VOe K X lo tl vl) (hh:VOe K X hi th vh):VE K X false (.Subscript e (.Slice lo hi none p2) pos) (tSl (Fe K) te tl th) (Hz va vl vh):=
 ⟨by subst hK;exact mF xH h.pe hl.pe hh.pe,fun H0 Z U H S Q C k t hc=>h.snd H0 Z U H S _ _ k t fun v H1 r S1 k1 st1 rr t1=>hl.snd H0 Z U H1 S1 _ _ k1 t1 fun lo H2 S2 k2 st2 t2=>hh.snd H0 Z U H2 S2 _ _ k2 t2 fun hi H3 S3 k3 st3 zq1=>by
  obtain ⟨ds,e,q⟩:=zq1
  obtain ⟨a,vs,rfl,hq,rs⟩:=((rr.step st2).step st3).elems k3 e
  refine ⟨a,vs,rfl,hq,fun p hp=>?_⟩
  have g:=aV (o:=.lst (j4 vs lo hi)) hp
  exact hc (.ref p) _ (.d (.lst (cutD ds lo hi))) S3 (k3.grow g) (((st1.trans st2).trans st3).trans (.grow g)) (show Rep K _ _ _ _ _ from .lst (k3.nm hp) FM.any aJ ((mX rs lo hi).mono (fun b n e=>⟨n,g b e⟩) fun _ _=>FM.any)) q⟩
end
end VL
end
section
namespace VL
open PySem L2
section
variable {K:IJ} {N N':AP} {F F':FP} {H:Hp}
mutual
theorem Rep.both (h1:∀a,N a->F (some a)->F' (some a)) (h2:F none->F' none) {v:V} {d:D}:Rep K N F H v d->Rep K N F' H v d
 | .int i=>.int i
 | .bl i=>.bl i
 | .non=>.non
 | .str i=>.str i
 | .ty i=>.ty i
 | .tup n h r=>.tup n h (Reps.both h1 h2 r)
 | .tupK h r=>.tupK h (Reps.both h1 h2 r)
 | .lst n f h r=>.lst n (h1 _ n f) h (Reps.both h1 h2 r)
 | .lstF n f h r=>.lstF n (h2 f) h (Reps.both h1 h2 r)
 | .lstK f h r=>.lstK (h2 f) h (Reps.both h1 h2 r)
 | .dic n f h e rk r=>.dic n (h1 _ n f) h e (Reps.both h1 h2 rk) (Reps.both h1 h2 r)
 | .exc n h e=>.exc n h e
 | .oth (k:=k) h=>.oth (k.both (fun a n _ f=>h1 a n f) h2 h)
 | .dib n f h e g rk r=>.dib n (h1 _ n f) h e g (Reps.both h1 h2 rk) (Reps.both h1 h2 r)
theorem Reps.both (h1:∀a,N a->F (some a)->F' (some a)) (h2:F none->F' none) {vs:List V} {ds:List D}:Reps K N F H vs ds->Reps K N F' H vs ds
 | .nil=>.nil
 | .cons h t=>.cons (Rep.both h1 h2 h) (Reps.both h1 h2 t)
end
end
def spG (K:IJ) (p:List D->(D->Prop)->Prop):Sp:=fun vs H Q _=>∃ds R,∃H0:Hp,(∀a,H a=none->H0 a=none)/\Reps K Any (Fr H0) H vs ds/\p ds R/\∀d v H',R d->(∀a,H a≠none->H' a=H a)->Rep K Any (Fr H0) H' v d->Q v H'
section
variable {P:Jp} {w:JQ} {K:IJ} {mg:Str->Option IP} {base:Heap}
theorem sf {N:List Str} {vs:List L2.V} {H H0:Hp} (hd:∀a,H a=none->H0 a=none) (r:Reps K Any (Fr H0) H vs ds):OK K H0 (fun _=>False) (start N vs) H (dX N.length ds) where
 len:=by simp [L2.start,dX,r.length]
 dom:=hd
 zl:=fun _ z=>z.elim
 nz:=fun i s a h m _=>by rw [bI _ _ i s h] at m;cases m
 inj:=fun i j a s t h1 h2 m1=>by rw [bI _ _ i s h1] at m1;cases m1
 at_:=fun i o s h1 h2=>by
  rcases h9 h2 with rfl | ⟨d,rfl,e⟩
  ·trivial
  ·obtain ⟨v,e1,e2⟩:=r.getD e
   rw [eF e1] at h1
   cases h1
   exact ⟨v,rfl,e2.mono (fun a _ _=>⟨fun z=>(bI _ _).mo.mp z,rfl⟩) fun o x=>x⟩
theorem HA {x:Str} {st:Stmt} {N ps:List Str} {k:Nat} (S:Src K mg x st) (sc:aE N ps (aj st))
  (hb:∀(kV doc pm:IP) (an:Option Addr) (cdv ct:IP) (us:List IP),us.length=ps.length->N7 (KC x x (cj st) (bw st) (aj st) .none kV doc pm an cdv ct) ⟨us,[]⟩=pure (ps.zip us))
  (len:∀ds R,p ds R->ds.length=ps.length)
  (hbody:∀(f:Addr) (cdv:IP) (A:JY) (outer:List Env) (s:IM) (H:Hp) (E:XK),cg k (A.deeper (L3 x (aj st) s.heap.objs.size f cdv)) ->
   ∃ts t,VSs K (i7 CX0 P w K mg base N x (aj st) f cdv A outer s H E).nox (bw st) ts t/\∀ds R,p ds R->t { nx:=fun _=>R .non,rt:=fun d _=>R d } (dX N.length ds)):Has P w K mg base (k+1) x ps (spG K p):=by
 refine S.has sc hb (fun vs H Q E zq1=>by obtain ⟨ds,R,H0,_,r,h,_⟩:=zq1;rw [r.length];exact len ds R h) fun f cdv A outer s H vs Q E hr ⟨ds,R,H0,hd,r,h,fin⟩=>?_
 obtain ⟨ts,t,vs',q⟩:=hbody f cdv A outer s H E hr
 have k0:=sf (N:=N) hd r
 have il:=bI N.length ds
 exact ⟨ts,vs'.ps,vs'.snd _ _ _ H _ _ _ k0 (q ds R h) ⟨fun U' H' S' k' st q=>fin .non .non H' q (il.grow st) .non,fun U' H' S' k' st q=>q.elim,fun U' H' S' k' st q=>q.elim,fun v d U' H' S' k' st rr q=>fin d v H' q (il.grow st) (rr.mono (fun _ _ _=>⟨trivial,rfl⟩) fun _ x=>x)⟩⟩
end
section
variable {K:IJ} {X:Cx} {m:Bool} {e:Expr} {es:List Expr} {tr:TA} {vr:VTA} {x:Str} {p0 pos:Pos} {j k:Nat} {ps:List Str} {S:List Sl} {Q:VR->List Sl->Prop}
def HB (p:List D->(D->Prop)->Prop) (vr:VTA):VT:=fun S Q=>vr S fun rs S1=>∃ds,allD rs=some ds/\p ds fun d=>Q (.d d) S1
open Classical in
theorem Ej (E:Has X.prog X.w X.K X.mg X.base k x ps (spG K p)) (hr:cg j X.A) (ha:VA K X true (e::es) tr vr)
  (hk:k<=j:=by decide) (hg:Gl X x:=by rfl) (hdb:(x==("__debug__":Str))=false:=by decide) (he:Jf (e::es) X.env=(false,eval e X.env)::Jf es X.env:=by rfl)
  (hpl:(K8 pos (Jf es X.env)).any (·.1)=false:=by rfl):VE K X m (.Call (.Name x p0) (e::es) [] pos) (iz (spG K p) [] E0 tr) (HB p vr):=⟨kn E hr ha.pe hk hg hdb he hpl,fun H0 Z U H S Q C k t hc=>
 ha.snd H0 Z U H S _ _ k t fun vs H1 rs S1 k1 st1 rrs zq1=>by
  obtain ⟨ds,e,q⟩:=zq1
  have ha:∀a,Fr (fun a=>if H0 a=none/\NM Z U S1 a then none else some (.lst [])) (some a)↔H0 a=none/\NM Z U S1 a:=fun a=>by
   constructor
   ·rintro ⟨b,e,f⟩
    cases e
    by_cases h:H0 a=none/\NM Z U S1 a
    ·exact h
    ·simp only [if_neg h] at f;cases f
   ·intro h
    exact ⟨a,rfl,if_pos h⟩
  have ra:Reps K Any (Fr (fun a=>if H0 a=none/\NM Z U S1 a then none else some (.lst []))) H1 (vs++[]) ds:=by
   rw [KL]
   refine ((rrs.allD e).both (F':=Fr (fun a=>if H0 a=none/\NM Z U S1 a then none else some (.lst []))) (fun a n f=>?_) (fun f=>?_)).mono (fun _ _ _=>⟨trivial,rfl⟩) fun _ x=>x
   ·obtain ⟨b,e,f⟩:=f rfl
    cases e
    exact (ha a).mpr ⟨f,n⟩
   ·obtain ⟨b,e,_⟩:=f rfl
    cases e
  refine ⟨ds,_,_,fun a z=>if_pos ⟨k1.dom a z,k1.nm z⟩,ra,q,fun d v H' q g r=>?_⟩
  refine hc v H' (.d d) S1 (k1.grow g) (st1.trans (.grow g)) (show Rep K _ _ H' v d from ?_) q
  refine (Rep.avoid (N':=NM Z U S1) (fun a z=>?_) (fun a f=>((ha a).mp f).2) r).mono (fun _ n _=>⟨n,rfl⟩) (fun o f _=>?_)
  ·have e:=k1.mo (Classical.not_not.mp z)
   rw [g a e.ne];exact e
  ·obtain ⟨b,e,_⟩:=id f
   subst e
   exact ⟨b,rfl,((ha b).mp f).1⟩⟩
@[irreducible] def zE (p:List D->(D->Prop)->Prop) (Q:VR->List Sl->Prop):List VR->List Sl->Prop:=fun rs S1=>∃ds,allD rs=some ds/\p ds fun d=>Q (.d d) S1
theorem HC (h:vr S (zE p Q)):HB p vr S Q:=by unfold zE at h;exact h
theorem Ek (e:allD rs=some ds) (h:p ds fun d=>Q (.d d) S):zE p Q rs S:=by unfold zE;exact ⟨ds,e,h⟩
end
end VL
end
section
namespace L2
open PySem PySem.Spec PyProof.Rows PySem.W
section
variable {X:Cx} {a:Expr} {ta:TE} {pos:Pos}
def Bo (K:IJ) (ta:TE):TE:=fun U H Q=>ta U H fun x H1=>∃b vs,x=.ref b/\SqL K H1 b vs/\Q (.bl vs.isEmpty) H1
theorem zF (ha:PE X a ta):PE X (.UnaryOp .Not a pos) (Bo X.K ta):=by
 intro pins s U H Q I h
 refine UnaryOp_ (thn (ha pins s U H _ I h) fun v s1 zr1=>?_)
 obtain ⟨x,H1,I1,r1,q1⟩:=zr1
 obtain ⟨b,vs,rfl,hq,q⟩:=q1
 cases r1
 obtain ⟨us,rv,pl,hz⟩:=I1.list hq
 have e1:=rv.length
 refine not_of (NS pl.isList (by rw [Jb];rw [J7] at hz;lia) ⟨.bl vs.isEmpty,H1,I1.tok _,?_,q⟩)
 show NO _=NO _
 congr 1
 rw [Bool.not_not,List.isEmpty_toArray]
 cases vs <;> cases us <;> first | rfl | simp at e1
end
end L2
namespace VL
open PySem L2
section
variable {K:IJ} {X:Cx} {m:Bool} {a:Expr} {ta:TE} {va:VT} {pos:Pos} {S:List Sl} {Q:VR->List Sl->Prop}
def Bp (va:VT):VT:=fun S Q=>va S fun r S1=>∃ds,get S1 r=some (.lst ds)/\Q (.d (.bl ds.isEmpty)) S1
theorem zG (hK:X.K=K) (ha:VE K X false a ta va):VE K X m (.UnaryOp .Not a pos) (Bo K ta) (Bp va):=⟨by subst hK;exact zF ha.pe,fun H0 Z U H S Q C k t hc=>ha.snd H0 Z U H S _ _ k t fun v H1 r S1 k1 st1 rr zq1=>by
 obtain ⟨ds,e,q⟩:=zq1
 obtain ⟨b,vs,rfl,hq,rs⟩:=rr.elems k1 e
 have e1:=rs.length
 have e2:vs.isEmpty=ds.isEmpty:=by cases vs <;> cases ds <;> first | rfl | simp at e1
 exact ⟨b,vs,rfl,hq,hc _ H1 (.d (.bl vs.isEmpty)) S1 k1 st1 (Rep.bl _) (by rw [e2];exact q)⟩⟩
@[irreducible] def qC (Q:VR->List Sl->Prop):VR->List Sl->Prop:=fun r S1=>∃ds,get S1 r=some (.lst ds)/\Q (.d (.bl ds.isEmpty)) S1
theorem El (h:va S (qC Q)):Bp va S Q:=by unfold qC at h;exact h
theorem zH (e:get S r=some (.lst ds)) (h:Q (.d (.bl ds.isEmpty)) S):qC Q r S:=by unfold qC;exact ⟨ds,e,h⟩
@[irreducible] def nK (vh:VO) (r:VR) (lo:Option Int) (Q:VR->List Sl->Prop):Option Int->List Sl->Prop:=fun hi S3=>∃ds,get S3 r=some (.lst ds)/\Q (.d (.lst (cutD ds lo hi))) S3
@[irreducible] def nL (vh:VO) (r:VR) (Q:VR->List Sl->Prop):Option Int->List Sl->Prop:=fun lo S2=>vh S2 (nK vh r lo Q)
@[irreducible] def zI (vl vh:VO) (Q:VR->List Sl->Prop):VR->List Sl->Prop:=fun r S1=>vl S1 (nL vh r Q)
theorem HD {vl vh:VO} (h:va S (zI vl vh Q)):Hz va vl vh S Q:=by unfold zI nL nK at h;exact h
theorem Em {vl vh:VO} (h:vl S (nL vh r Q)):zI vl vh Q r S:=by unfold zI;exact h
theorem zJ {vh:VO} {lo:Option Int} (h:vh S (nK vh r lo Q)):nL vh r Q lo S:=by unfold nL;exact h
theorem zK {vh:VO} {lo hi:Option Int} (e:get S r=some (.lst ds)) (h:Q (.d (.lst (cutD ds lo hi))) S):nK vh r lo Q hi S:=by unfold nK;exact ⟨ds,e,h⟩
end
end VL
end
section
namespace VL
open PySem L2
section
variable {K:IJ} {X:Cx} {stm:Stmt} {ts:TS} {t:VTS}
def Bq (i:Nat) (t:VTS):VTS:=fun V S=>∃ds,S[i]?=some (.own ds)/\t V (S.set i (.fre (.lst ds)))
theorem zL (i:Nat) (h:VS K X stm ts t):VS K X stm ts (Bq i t):=⟨h.ps,fun H0 Z U H S V E k zq1 l=>by
 obtain ⟨ds,e,t⟩:=zq1
 obtain ⟨k',st⟩:=k.wk (uh e)
 have hi:i < S.length:=(List.getElem?_eq_some_iff.mp e).1
 obtain ⟨o,g1,a,vs,rfl,g2,g3,g4⟩:=k.ownAt e
 have na:NM Z U (S.set i (.val (.lst ds))) a:=fun z=>by
  rcases z with ⟨j,s,z1,z2,z3⟩ | z
  ·by_cases hj:j=i
   ·subst hj
    rw [JJ hi] at z1
    cases z1
    cases z2
   ·rw [JO (LS hj)] at z1
    exact hj (k.inj j i a s _ z1 e z2 rfl z3 g1)
  ·exact k.nz i _ a e rfl g1 z
 have hσ:U.set i (some (L2.V.ref a))=U:=Lo fun n=>by
  rw [P5]
  split
  ·rename_i q
   subst q
   rw [g1,if_pos (List.getElem?_eq_some_iff.mp g1).1]
  ·rfl
 obtain ⟨k2,st2⟩:=k'.setFre (i:=i) (v:=.ref a) (d:=.lst ds) (by rw [Na];exact hi) (.lst na ⟨a,rfl,g3⟩ g2 (g4.step st))
 rw [hσ,List.set_set] at k2 st2
 exact h.snd H0 Z U H _ V E k2 t (l.step (st.trans st2))⟩
theorem En {i:Nat} {V:ba} (e:S[i]?=some (.own ds)) (h:t V (S.set i (.fre (.lst ds)))):Bq i t V S:=⟨ds,e,h⟩
end
section
variable {K:IJ} {X:Cx} {e tg:Expr} {te:TE} {va:VT} {pos:Pos} {i j:Nat}
@[irreducible] def nM (i j:Nat) (V:ba):VR->List Sl->Prop:=fun r S1=>∃d1 d2,r=.d (.tup [d1,d2])/\i < S1.length/\j < S1.length/\V.nx ((S1.set i (.fre d1)).set j (.fre d2))
def Br (i j:Nat) (va:VT):VTS:=fun V S=>va S (nM i j V)
theorem zM {vg:VG} (h:VE K X true e te va) (hg:VGe K X tg (sQ K 2 (iy (bJ i) (iy (bJ j) sO))) vg) (hs:MT [tg] e pos.line X.env=pure false:=by rfl) (hw:MU [tg] e X.env=pure none:=by rfl)
  (h1:(K9 [tg] X.env).map (·.2)=[Oe tg X.env]:=by rfl):VS K X (.Assign [tg] e pos) (dD te (sQ K 2 (iy (bJ i) (iy (bJ j) sO)))) (Br i j va):=⟨nX h.pe hg.pg hs hw h1,fun H0 Z U H S V E k t l=>h.snd H0 Z U H S _ _ k t fun v H' r S' k' st rr q=>by
 unfold nM at q
 obtain ⟨d1,d2,rfl,hi,hj,q⟩:=q
 have r:Rep K (NM Z U S') (Fr H0) H' v (.tup [d1,d2]):=(show Rep K (NM Z U S') (FM H0 true) H' v _ from rr).mono (fun _ n _=>⟨n,rfl⟩) fun _ x=>x rfl
 obtain ⟨a,vs,rfl,hq,rs⟩:=r.sqT
 cases rs with
 | cons r1 rs=>
  cases rs with
  | cons r2 rs=>
   cases rs
   obtain ⟨k1,st1⟩:=k'.setFre hi r1
   obtain ⟨k2,st2⟩:=k1.setFre (i:=j) (by rw [Na];exact hj) (r2.step st1)
   exact ⟨a,_,rfl,hq,rfl,_,_,rfl,_,_,rfl,rfl,l.nx _ _ _ k2 ((st.trans st1).trans st2) q⟩⟩
theorem Eo {V:ba} (h:va S (nM i j V)):Br i j va V S:=h
theorem zN {V:ba} {d1 d2:D} (hi:i < S.length) (hj:j < S.length) (h:V.nx ((S.set i (.fre d1)).set j (.fre d2))):nM i j V (.d (.tup [d1,d2])) S:=by unfold nM;exact ⟨d1,d2,rfl,hi,hj,h⟩
end
end VL
end
local macro_rules | `(tactic| walk_at "L") => `(tactic| (intros; rename_i z; repeat' (first | (obtain ⟨e, _⟩ := z; subst e; rfl) | (obtain ⟨_, z⟩ := z))))
local macro_rules | `(tactic| walk_at "s") => `(tactic| exact ⟨rfl, rfl, rfl, by decide +kernel, rfl, by decide +kernel, by decide +kernel⟩)
theorem My.len1 {α:Type} {l:List α} (h:l.length=1):∃a0,l=[a0]:=match l,h with|[a0],_=>⟨a0,rfl⟩
local macro_rules | `(tactic| walk_at "1") => `(tactic| exact (fun _ _ _ _ _ _ us hl => by obtain ⟨_,e⟩ := My.len1 hl; subst e; exact rfl))
theorem My.len2 {α:Type} {l:List α} (h:l.length=2):∃a0 a1,l=[a0,a1]:=match l,h with|[a0,a1],_=>⟨a0,a1,rfl⟩
local macro_rules | `(tactic| walk_at "2") => `(tactic| exact (fun _ _ _ _ _ _ us hl => by obtain ⟨_,_,e⟩ := My.len2 hl; subst e; exact rfl))
theorem My.len3 {α:Type} {l:List α} (h:l.length=3):∃a0 a1 a2,l=[a0,a1,a2]:=match l,h with|[a0,a1,a2],_=>⟨a0,a1,a2,rfl⟩
local macro_rules | `(tactic| walk_at "3") => `(tactic| exact (fun _ _ _ _ _ _ us hl => by obtain ⟨_,_,_,e⟩ := My.len3 hl; subst e; exact rfl))
local macro_rules | `(tactic| walk_at "l0") => `(tactic| first
 | with_reducible refine VL.CT ?_
 | with_reducible refine VL.ym ?_
 | with_reducible refine VL.j_c ?_
 | ((with_reducible refine' VL.FW ?h ?_);(case h=>exact rfl))
 | with_reducible refine VL.Gb ?_
 | with_reducible refine VL.j_2 ?_
 | ((with_reducible refine' VL.Iq ?h1 ?h2 ?_);(case h1=>exact rfl);(case h2=>exact rfl))
 | with_reducible refine VL.Ip ?_
 | with_reducible refine VL.Gc ?_
 | ((with_reducible refine' VL.CU ?h1 ?h2 ?_);(case h1=>exact rfl);(case h2=>exact rfl))
 | with_reducible refine VL.CC ?_
 | with_reducible refine VL.FO ?_
 | ((with_reducible refine' VL.Io ?h ?_);(case h=>exact rfl);(try dsimp only [JM,JN]))
 | with_reducible refine VL.yg ?_
 | with_reducible refine VL.FX ?_
 | with_reducible refine VL.CO ?_
 | with_reducible refine VL.Ir ?_
 | with_reducible refine VL.F4 ?_
 | ((with_reducible refine' VL.aZ ?h1 ?h2 ?h3 ?_);(case h1=>exact rfl);(case h2=>exact rfl);(case h3=>exact rfl))
 | ((with_reducible refine' VL.AG ?h1 ?h2 ?h3 ?_);(case h1=>exact rfl);(case h2=>exact rfl);(case h3=>first | exact rfl | exact VL.at_0))
 | ((with_reducible refine' VL.CI ?h ?_);(case h=>exact rfl))
 | with_reducible refine VL.FU ?_
 | with_reducible refine VL.Gg ?_
 | ((with_reducible refine' VL.Gh ?h ?_);(case h=>exact rfl))
 | with_reducible refine VL.CY ?_
 | with_reducible refine VL.FV ?_)
local macro_rules | `(tactic| walk_at "l1") => `(tactic| first
 | with_reducible refine VL.CD ?_
 | with_reducible refine VL.CL ?_
 | with_reducible refine VL.FR ?_
 | with_reducible refine VL.Gf ?_
 | ((with_reducible refine' VL.CV ?h1 ?h2 ?_);(case h1=>exact rfl);(case h2=>exact rfl))
 | ((with_reducible refine' VL.FY ?h ?_);(case h=>first | exact (by decide) | exact .inl ⟨by decide,by decide⟩ | exact .inr ⟨by decide,by decide⟩ | (show (0:Int) < _;lia) | (show (0:Int)<=_;lia) | exact ⟨by decide,by decide,by decide⟩ | exact ⟨by lia,by lia,by lia⟩ | exact ⟨by lia,by lia⟩ | exact .inl ⟨by lia,by lia⟩ | exact .inr ⟨by lia,by lia⟩))
 | with_reducible refine VL.CM ?_
 | ((with_reducible refine' VL.bZ ?h ?_);(case h=>first | exact rfl | simp only [VL.flat,VL.flats,VL.aW,VL.eT,VL.dG,Px]))
 | with_reducible refine VL.t5 ?_
 | with_reducible refine VL.yd ?_
 | with_reducible refine VL.IA ?_
 | with_reducible refine VL.Gn ?_
 | ((with_reducible refine' VL.C1 ?h1 ?h2 ?h3 ?_);(case h1=>exact rfl);(case h2=>exact rfl);(case h3=>exact rfl))
 | with_reducible refine VL.Iy ?_
 | with_reducible refine VL.Gz ?_
 | with_reducible refine VL.GX ?_
 | with_reducible refine VL.Iu ?_
 | ((with_reducible refine' VL.F5 ?h ?_);(case h=>exact rfl))
 | with_reducible refine VL.tY ?_
 | with_reducible refine VL.tZ ?_
 | with_reducible refine VL.Gu ?_
 | with_reducible refine VL.C2 ?_
 | with_reducible refine VL.CF ?_
 | ((with_reducible refine' VL.FS ?h ?_);(case h=>exact rfl);(try simp only [Jd,JW]))
 | with_reducible refine VL.C5 ?_
 | with_reducible refine VL.rD ?_
 | with_reducible refine VL.rF ?_
 | with_reducible refine VL.CP ?_
 | with_reducible refine VL.CZ ?_
 | with_reducible refine VL.F8 ?_
 | with_reducible refine VL.Gr ?_
 | with_reducible refine VL.mW ?_
 | with_reducible refine VL.yh ?_
 | with_reducible refine VL.yi ?_
 | with_reducible refine VL.C6 ?_
 | with_reducible refine VL.CG ?_
 | ((with_reducible refine' VL.ye ?h ?_);(case h=>exact rfl);(try dsimp only [JM,JN]))
 | with_reducible refine VL.F7 ?_
 | with_reducible refine VL.CK ?_
 | with_reducible refine VL.Gx ?_
 | ((with_reducible refine' VL.C3 ?h ?_);(case h=>exact ⟨by lia,by lia⟩))
 | ((with_reducible refine' VL.Dt ?h ?_);(case h=>exact IW rfl))
 | with_reducible refine VL.yf ?_
 | with_reducible refine VL.ud ?_
 | with_reducible refine VL.Iw ?_
 | with_reducible refine VL.yZ ?_
 | with_reducible refine VL.CS ?_
 | with_reducible refine VL.Dl ?_
 | ((with_reducible refine' VL.yB ?h ?_);(case h=>exact rfl);(try dsimp only [JM,JN])))
local macro_rules | `(tactic| walk_at "l2") => `(tactic| first
 | with_reducible refine VL.G3 ?_
 | with_reducible refine VL.G4 ?_
 | with_reducible refine VL.G5 ?_
 | with_reducible refine VL.G6 ?_
 | with_reducible refine VL.t8 ?_
 | with_reducible refine VL.CQ ?_
 | with_reducible refine VL.FZ ?_
 | ((with_reducible refine' VL.AI ?h1 ?h2 ?_);(case h1=>(intro n z;cases z));(case h2=>first | exact L2.lj | exact L2.j7 | exact L2.isiB_list_list | exact L2.isiB_tuple_tuple | exact L2.isiB_bool_bool | exact L2.isiB_f1 | exact L2.isiB_f2 | exact L2.isiB_f3 | exact L2.isiB_f4 | exact L2.isiB_f5 | exact L2.isiB_f6 | exact L2.isiB_g1 | exact L2.isiB_g2 | exact L2.isiB_g3 | exact L2.isiB_g4 | exact L2.isiB_g5 | exact L2.isiB_g6 | exact L2.isiB_h1 | exact L2.isiB_h2 | exact L2.isiB_h3 | exact L2.isiB_h4 | exact L2.isiB_h5 | exact L2.isiB_h6 | exact L2.isiB_h7))
 | ((with_reducible refine' VL.GL ?h ?_);(case h=>exact rfl))
 | with_reducible refine VL.Dm ?_
 | ((with_reducible refine' VL.yC ?h ?_);(case h=>exact rfl))
 | with_reducible refine VL.HD ?_
 | with_reducible refine VL.Em ?_
 | with_reducible refine VL.zJ ?_
 | ((with_reducible refine' VL.zK ?h ?_);(case h=>exact rfl))
 | with_reducible refine VL.Hk ?_
 | with_reducible refine VL.Dv ?_
 | ((with_reducible refine' VL.Dw ?h ?_);(case h=>exact rfl))
 | ((with_reducible refine' VL.Gq ?h ?_);(case h=>exact rfl))
 | ((with_reducible refine' VL.oA ?h1 ?h2 ?_);(case h1=>exact rfl);(case h2=>first | lia | (simp only [Ji,JZ,Mh,IR];lia) | exact Jn rfl);(try dsimp only [JM,JN]))
 | with_reducible refine VL.yn ?_
 | with_reducible refine VL.Da ?_
 | with_reducible refine VL.uq ?_
 | with_reducible refine VL.GO ?_
 | with_reducible refine VL.Dk ?_
 | with_reducible refine VL.GA ?_
 | with_reducible refine VL.Gi ?_
 | with_reducible refine VL.yo ?_
 | ((with_reducible refine' VL.uf ?h1 ?h2 ?_);(case h1=>exact rfl);(case h2=>exact rfl))
 | ((with_reducible refine' VL.rC ?h1 ?h2 ?h3 ?_);(case h1=>exact rfl);(case h2=>exact rfl);(case h3=>exact rfl);(try dsimp only [JM,JN]))
 | with_reducible refine VL.GM ?_
 | with_reducible refine VL.rM ?_
 | with_reducible refine VL.Ds ?_
 | with_reducible refine VL.Eo ?_
 | ((with_reducible refine' VL.zN ?h ?h2 ?_);(case h=>exact Jn rfl);(case h2=>exact Jn rfl);(try dsimp only [JM,JN]))
 | ((with_reducible refine' VL.En ?h ?_);(case h=>exact rfl);(try dsimp only [JM,JN]))
 | with_reducible refine VL.Hn ?_
 | with_reducible refine VL.HC ?_
 | ((with_reducible refine' VL.Ek ?h ?_);(case h=>exact rfl))
 | with_reducible refine VL.El ?_
 | ((with_reducible refine' VL.zH ?h ?_);(case h=>exact rfl))
 | with_reducible refine VL.zD ?_
 | ((with_reducible refine' VL.DM ?h ?_);(case h=>exact rfl))
 | with_reducible refine VL.Hg ?_
 | ((with_reducible refine' VL.DT ?h ?_);(case h=>exact rfl))
 | with_reducible refine VL.Ha ?_
 | ((with_reducible refine' VL.DN ?h ?_);(case h=>exact rfl))
 | with_reducible refine VL.y0 ?_
 | with_reducible refine VL.vm ?_
 | with_reducible refine VL.Hu ?_
 | ((with_reducible refine' VL.Ee ?h ?_);(case h=>exact rfl);(try dsimp only [JM,JN]))
 | ((with_reducible refine' VL.Hw ?h ?_);(case h=>exact rfl))
 | with_reducible refine VL.Ed ?_
 | ((with_reducible refine' VL.zB ?h ?_);(case h=>exact rfl))
 | with_reducible refine VL.DD ?_
 | with_reducible refine VL.DE ?_
 | with_reducible refine VL.yN ?_
 | with_reducible refine VL.DA ?_
 | with_reducible refine VL.DB ?_
 | ((with_reducible refine' VL.DC ?h ?_);(case h=>exact rfl))
 | with_reducible refine VL.Hc ?_
 | with_reducible refine VL.zd ?_
 | with_reducible refine VL.Iz ?_
 | with_reducible refine VL.Gk ?_
 | ((with_reducible refine' VL.C0 ?h ?_);(case h=>exact rfl))
 | with_reducible refine VL.CH ?_
 | ((with_reducible refine' VL.pY ?h ?_);(case h=>exact rfl);(try dsimp only [JM,JN]))
 | with_reducible refine VL.Gy ?_
 | ((with_reducible refine' VL.C4 ?h ?_);(case h=>exact ⟨by lia,by lia,by lia,by lia⟩))
 | with_reducible refine VL.F9 ?_
 | with_reducible refine VL.Ga ?_
 | ((with_reducible refine' VL.DQ ?h ?_);(case h=>exact rfl);(try dsimp only [JM,JN]))
 | with_reducible refine VL.DP ?_
 | with_reducible refine VL.za ?_
 | with_reducible refine VL.Dd ?_
 | with_reducible refine VL.GN ?_
 | ((with_reducible refine' VL.C9 ?h1 ?h2 ?_);(case h1=>exact Jn rfl);(case h2=>exact Jn rfl);(try dsimp only [JM,JN]))
 | with_reducible refine VL.GQ ?_
 | with_reducible refine VL.GW ?_
 | with_reducible refine VL.yF ?_
 | with_reducible refine VL.GU ?_
 | ((with_reducible refine' VL.Dp ?h ?_);(case h=>exact ⟨by lia,by lia,by lia,by lia,by lia,by lia⟩)))
local macro_rules | `(tactic| walk_at "rd1") => `(tactic| first
 | walk_at "l0"
 | walk_at "l1"
 | walk_at "l2")
local macro_rules | `(tactic| walk_at "rc1") => `(tactic| first
 | walk_at "rd1"
 | ((with_reducible refine' VL.GC ?h ?_);(case h=>exact rfl))
 | ((with_reducible refine' VL.GD ?h ?_);(case h=>exact rfl))
 | ((with_reducible refine' VL.GB ?h ?_);(case h=>exact rfl))
 | ((with_reducible refine' VL.IB ?h ?_);(case h=>exact rfl))
 | ((with_reducible refine' VL.IC ?h ?_);(case h=>exact rfl))
 | ((with_reducible refine' VL.GF ?h ?_);(case h=>exact rfl))
 | ((with_reducible refine' VL.GG ?h ?_);(case h=>exact rfl))
 | ((with_reducible refine' VL.GH ?h ?_);(case h=>exact rfl)))
local macro_rules | `(tactic| walk_at "rc") => `(tactic| repeat walk_at "rc1")
local macro_rules | `(tactic| walk_at "rd") => `(tactic| repeat walk_at "rd1")
local macro_rules | `(tactic| walk_at "sl") => `(tactic| simp only [VL.slots, VL.dU, VL.eT, Jd, JW, JZ, Mh, JU, J6, Nat.reduceAdd, Nat.reduceSub, L7, List.replicate_succ, List.replicate_zero])
namespace My
open PySem L2 VL
def top (i:Nat):Stmt:=PySem.Challenge.pw_cellships_k23_whole_fates.main.body.getD i (.Pass ⟨0,0,0,0⟩)
abbrev lS:Stmt:=top 1
theorem lT:aE ["picture","move","dx","dy"] ["picture","move"] (aj lS):=by walk_at "s"
abbrev jM:Stmt:=top 2
theorem iT:aE ["picture","columns","rows","left","top"] ["picture"] (aj jM):=by walk_at "s"
abbrev ik:Stmt:=top 3
theorem jN:aE ["picture","box"] ["picture"] (aj ik):=by walk_at "s"
abbrev jO:Stmt:=top 6
theorem si:aE ["kind"] ["kind"] (aj jO):=by walk_at "s"
abbrev jP:Stmt:=top 11
theorem sj:aE ["rule"] ["rule"] (aj jP):=by walk_at "s"
abbrev eQ:Stmt:=top 12
theorem lU:aE ["rule"] ["rule"] (aj eQ):=by walk_at "s"
abbrev oY:Stmt:=top 13
theorem iU:aE ["rule","alive","count","kind","born","stay"] ["rule","alive","count"] (aj oY):=by walk_at "s"
abbrev lV:Stmt:=top 15
theorem cI:aE ["kind","picture","around","tally","x","y","dx","dy","cell"] ["kind","picture"] (aj lV):=by walk_at "s"
abbrev jQ:Stmt:=top 16
theorem ip:aE ["kind","picture","tally","cell"] ["kind","picture"] (aj jQ):=by walk_at "s"
abbrev cJ:Stmt:=top 17
theorem gG:aE ["rule","picture","tally","living"] ["rule","picture","tally"] (aj cJ):=by walk_at "s"
abbrev iq:Stmt:=top 18
theorem oZ:aE ["rule","picture"] ["rule","picture"] (aj iq):=by walk_at "s"
abbrev o3:Stmt:=top 20
theorem lW:aE ["rule","picture","many","rows","turn"] ["rule","picture","many"] (aj o3):=by walk_at "s"
abbrev dZ:Stmt:=top 21
theorem j9:aE ["one","other"] ["one","other"] (aj dZ):=by walk_at "s"
abbrev o4:Stmt:=top 22
theorem zO:aE ["picture"] ["picture"] (aj o4):=by walk_at "s"
abbrev we:Stmt:=top 23
theorem eS:aE ["rule","picture","most","seen","now","turn","key","first","earlier"] ["rule","picture","most"] (aj we):=by walk_at "s"
abbrev ir:Stmt:=top 24
theorem fO:aE ["rule","rows","one","other"] ["rule","rows"] (aj ir):=by walk_at "s"
abbrev cz:Stmt:=top 25
theorem iJ:aE ["rows"] ["rows"] (aj cz):=by walk_at "s"
abbrev eU:Stmt:=top 26
theorem bT:aE ["rows","told","last","word","turn","span","move"] ["rows","told"] (aj eU):=by walk_at "s"
abbrev iu:Stmt:=top 27
theorem o6:aE ["rule","rows","told"] ["rule","rows","told"] (aj iu):=by walk_at "s"
abbrev wg:Stmt:=top 29
theorem lX:aE ["_law_script","_law_k","_law_cell"] ["_law_script","_law_k"] (aj wg):=by walk_at "s"
abbrev o7:Stmt:=top 30
theorem gH:aE ["_law_pen_here","_law_many","_law_drawn","_law_number_here"] ["_law_pen_here","_law_many"] (aj o7):=by walk_at "s"
abbrev jR:Stmt:=top 31
theorem kU:aE ["_law_pen_here","_law_way"] ["_law_pen_here"] (aj jR):=by walk_at "s"
abbrev jS:Stmt:=top 32
theorem gI:aE ["_law_pen_here","_law_kind","_law_born","_law_stay"] ["_law_pen_here"] (aj jS):=by walk_at "s"
abbrev iV:Stmt:=top 33
theorem nN:aE ["_law_pen_here","_law_way"] ["_law_pen_here"] (aj iV):=by walk_at "s"
abbrev iW:Stmt:=top 34
theorem cW:aE ["_law_pen_here","_law_way","_law_goer","_law_side","_law_cells_here","_law_k","_law_cell"] ["_law_pen_here"] (aj iW):=by walk_at "s"
abbrev jT:Stmt:=top 35
theorem bO:aE ["_law_pen_here","_law_told","_law_cells_here","_law_a","_law_b","_law_c","_law_d","_law_dx","_law_dy","_law_found","_law_away","_law_other"] ["_law_pen_here"] (aj jT):=by walk_at "s"
abbrev gJ:Stmt:=top 36
theorem wj:aE ["_law_live"] ["_law_live"] (aj gJ):=by walk_at "s"
abbrev lY:Stmt:=top 37
theorem gK:aE ["_law_kind","_law_found"] ["_law_kind"] (aj lY):=by walk_at "s"
abbrev lZ:Stmt:=top 38
theorem d0:aE ["_law_told","_law_live","_law_near","_law_cell","_law_step","_law_there","_law_alive"] ["_law_told","_law_live"] (aj lZ):=by walk_at "s"
abbrev md:Stmt:=top 39
theorem qD:aE ["_law_one","_law_other","_law_move_here"] ["_law_one","_law_other"] (aj md):=by walk_at "s"
abbrev me:Stmt:=top 40
theorem gL:aE ["_law_rows_here","_law_last","_law_early","_law_move_here"] ["_law_rows_here"] (aj me):=by walk_at "s"
abbrev o8:Stmt:=top 41
theorem qE:aE ["_law_told","_law_live","_law_most","_law_rows_here"] ["_law_told","_law_live","_law_most"] (aj o8):=by walk_at "s"
abbrev o9:Stmt:=top 42
theorem zP:aE ["_law_due","_law_turn"] ["_law_due","_law_turn"] (aj o9):=by walk_at "s"
abbrev gM:Stmt:=top 43
theorem dO:aE ["_law_told","_law_live","_law_most","_law_due","_law_handed","_law_found","_law_numbers"] ["_law_told","_law_live","_law_most","_law_due"] (aj gM):=by walk_at "s"
abbrev iX:Stmt:=top 44
theorem dP:aE ["_law_told","_law_live","_law_most","_law_rows_here","_law_due","_law_last","_law_far","_law_turn"] ["_law_told","_law_live","_law_most"] (aj iX):=by walk_at "s"
abbrev Ep:Stmt:=top 45
theorem iE:aE ["_law_script","_law_k","_law_pen_here","_law_told","_law_live","_law_most"] ["_law_script"] (aj Ep):=by walk_at "s"
structure Txt (mg:Str->Option IP):Prop where
 len_:mg "len"=none
 range:mg "range"=none
 abs_:mg "abs"=none
 isinstance_:mg "isinstance"=none
 int_:mg "int"=none
 bool_:mg "bool"=none
 list_:mg "list"=none
 tuple_:mg "tuple"=none
 sorted_:mg "sorted"=none
 max_:mg "max"=none
 min_:mg "min"=none
 all_:mg "all"=none
 any_:mg "any"=none
 set_:mg "set"=none
 sum_:mg "sum"=none
 str_:mg "str"=none
 dict_:mg "dict"=none
 zip_:mg "zip"=none
def Pn (b:Nat) (pn:List Int):Prop:=∃x y c:Int,pn=[x,y,c]/\0<=c/\c<=b
theorem Pn.le {b b':Nat} {pn:List Int} (h:Pn b pn) (e:b<=b'):Pn b' pn:=let ⟨x,y,c,h1,h2,h3⟩:=h;⟨x,y,c,h1,h2,by lia⟩
def HE:List D->(D->Prop)->Prop:=fun ds R=>∃(ns:List Int) (k:Nat),ds=[.lst (ns.map .int),.int k]/\k<=1000/\∀x y:Int,R (.lst ([x,y,0].map .int))
def zQ:List D->(D->Prop)->Prop:=fun ds R=>∃ns:List Int,ds=[.lst (ns.map .int)]/\ns.length<=63/\R (.bl true)
def gN:List Int->List D->(D->List Int->Prop)->Prop:=fun pn ds R=>∃(b:Nat) (m:Int),ds=[.int m]/\Pn b pn/\b<=1000000/\0 < m/\m < 1073741824/\∀(pn':List Int) (r:Int),Pn (b+1) pn'->0<=r->r < m->R (.int r) pn'
theorem nO {j:Nat} (h:j < ns.length):atI (ns.map D.int) (j:Int)=some (.int (ns[j])):=by
 exact bu (by simp [h])
section
variable {P:Jp} {w:JQ} {K:IJ} {mg:Str->Option IP} {base:Heap}
theorem Er (S:Src K mg "_law_pen" wg) (T:Txt mg):Has P w K mg base 1 "_law_pen" ["_law_script","_law_k"] (spP K HE):=by
 refine bA S lX (by walk_at "2") (by walk_at "L") fun f cdv A outer s H E hr=>⟨_,_,(ah (aI (i:=2) lX.nd rfl (IW rfl) (au aS aC (au b0 bE ab (ae 1 (pv 1))) ab))
  (ah (aR (aG i4 aC (ae 1 (pv 1)) (aO (ef (K:=K) rfl) d9 (by rfl) T.len_ ck (aa (ae 0 (pv 0)) af)) (aB _)) (ak (aI (i:=2) lX.nd rfl (IW rfl) (aF rfl (ae 0 (pv 0)) (ae 1 (pv 1)) (fun _ _=>rfl)))) (ak (aR (aG d8 aC (aO (ef (K:=K) rfl) d9 (by rfl) T.len_ ck (aa (ae 0 (pv 0)) af)) ab (aB _)) (ak (aI (i:=2) lX.nd rfl (IW rfl) (au aS aC (au cP bE (aF rfl (ae 0 (pv 0)) (au cP bE (ae 1 (pv 1)) (aO (ef (K:=K) rfl) d9 (by rfl) T.len_ ck (aa (ae 0 (pv 0)) af))) (fun _ _=>rfl)) ab) (au b0 bE ab (ae 1 (pv 1)))))) aD)))
  (ah (aR (aG E4 aC (ae 2 (pv 2)) (au cQ bE ab ab) (aB _)) (ak (ay (aH (aN (aa (au bj aC (ae 2 (pv 2)) (au cQ bE ab ab)) (aa (au cP bE (ae 2 (pv 2)) ab) (aa ab af))))))) aD)
  (ak (ay (aH (aN (aa ab (aa (au cP bE (ae 2 (pv 2)) ab) (aa ab af)))))))))),?_⟩
 rintro ds R ⟨ns,k,rfl,hk,q⟩
 have fin:∀(x y:Int),R (.lst [.int x,.int y,.int 0]):=fun x y=>q x y
 walk_at "sl"
 walk_at "rd"
 rw [IR]
 refine bH (fun h1=>?_) (fun h1=>?_)
 ·have h1':k < ns.length:=by lia
  walk_at "rd"
  refine aZ rfl rfl (nO h1') ?_
  walk_at "rd"
  refine bH (fun h1=>?_) (fun h1=>?_)
  all_goals (walk_at "rd";exact fin _ _)
 ·walk_at "rd"
  rw [IR]
  refine bH (fun h2=>?_) (fun h2=>?_)
  ·walk_at "rd"
   rw [IR]
   have h2':0 < ns.length:=by lia
   have e:((k:Int)%(ns.length:Int))=((k%ns.length:Nat):Int):=by lia
   refine FY (by show (0:Int) < _;lia) ?_
   dsimp only [ofV]
   rw [e]
   refine aZ rfl rfl (nO (Mz _ h2')) ?_
   walk_at "rd"
   refine bH (fun h1=>?_) (fun h1=>?_)
   all_goals (walk_at "rd";exact fin _ _)
  ·walk_at "rd"
   refine bH (fun h1=>?_) (fun h1=>?_)
   all_goals (walk_at "rd";exact fin _ _)
theorem zR (S:Src K mg "_law_draw" o7) (T:Txt mg):Has P w K mg base 1 "_law_draw" ["_law_pen_here","_law_many"] (spI K 0 gN):=by
 refine kC 0 S gH (by walk_at "2") (by walk_at "L") fun f cdv A outer s H E hr=>⟨_,_,(ah (mQ 0 (pv 0) (au aS aC (aF rfl (ae 0 (pv 0)) ab (fun _ _=>rfl)) ab) ab)
  (ah (aR (aG d8 aC (aF rfl (ae 0 (pv 0)) ab (fun _ _=>rfl)) ab (aB _)) (ah (aI (i:=2) gH.nd rfl (IW rfl) (au cP bE (aF rfl (ae 0 (pv 0)) ab (fun _ _=>rfl)) (ae 1 (pv 1))))
  (ah (mQ 0 (pv 0) (au iL bE (aF rfl (ae 0 (pv 0)) ab (fun _ _=>rfl)) (ae 1 (pv 1))) ab)
  (ak (ay (aK (ae 2 (pv 2))))))) aD)
  (ah (aI (i:=3) gH.nd rfl (IW rfl) (au cP bE (au aS aC (au aS aC (aF rfl (ae 0 (pv 0)) ab (fun _ _=>rfl)) (au b0 bE ab (aF rfl (ae 0 (pv 0)) ab (fun _ _=>rfl)))) ab) ab))
  (ah (aI (i:=3) gH.nd rfl (IW rfl) (au aS aC (au cP bE (au b0 bE (ae 3 (pv 3)) (ae 3 (pv 3))) ab) (au b0 bE ab (aF rfl (ae 0 (pv 0)) ab (fun _ _=>rfl)))))
  (ah (aI (i:=3) gH.nd rfl (IW rfl) (au cP bE (au b0 bE (ae 3 (pv 3)) (ae 3 (pv 3))) ab))
  (ak (ay (au cP bE (au iL bE (ae 3 (pv 3)) ab) (ae 1 (pv 1)))))))))),?_⟩
 rintro a pn ds es R hl ⟨b,m,e,⟨x,y,c,rfl,hc0,hc1⟩,hb,hm0,hm1,q⟩
 obtain rfl:ds=[]:=Kg hl
 obtain rfl:es=[.int m]:=e
 walk_at "sl"
 walk_at "rd"
 refine bH (fun h1=>?_) (fun h1=>?_)
 ·walk_at "rd"
  exact ⟨_,rfl,q _ _ ⟨_,_,_,rfl,by lia,by lia⟩ (OL _ (by lia)) (Nz _ hm0)⟩
 ·walk_at "rd"
  exact ⟨_,rfl,q _ _ ⟨_,_,_,rfl,by lia,by lia⟩ (OL _ (by lia)) (Nz _ hm0)⟩
end
end My
namespace My
open PySem L2 VL
def nr (k:Int):List (List Int):=if k=4 then [[-1,0],[0,-1],[0,1],[1,0]] else if k=6 then [[-1,-1],[-1,0],[0,-1],[0,1],[1,0],[1,1]] else [[-1,-1],[-1,0],[-1,1],[0,-1],[0,1],[1,-1],[1,0],[1,1]]
def rows:List (Int×List (List Int)):=[(4,nr 4),(6,nr 6),(8,nr 8)]
def Kd (k:Int):Prop:=k=4\/k=6\/k=8
theorem wm {k:Int} (hk:Kd k):(k,nr k)∈rows:=by rcases hk with rfl | rfl | rfl <;> simp [rows]
def Pr (ms:List Int):Prop:=∃x y,ms=[x,y]
theorem wo {k:Int} (hk:Kd k) {m:List Int} (h:m∈nr k):∃x y,m=[x,y]/\-1<=x/\x<=1/\-1<=y/\y<=1:=by
 have:(nr k).all (fun m=>match m with | [x,y]=>decide (-1<=x)&&decide (x<=1)&&decide (-1<=y)&&decide (y<=1) | _=>false)=true:=by rcases hk with rfl | rfl | rfl <;> decide +kernel
 have:=List.all_eq_true.mp this m h
 match m,this with
 | [x,y],h=>simp only [JF,decide_eq_true_eq] at h;exact ⟨x,y,rfl,h.1.1.1,h.1.1.2,h.1.2,h.2⟩
theorem qF {k:Int} (hk:Kd k) {m:List Int} (h:m∈nr k):Pr m:=let ⟨x,y,e,_⟩:=wo hk h;⟨x,y,e⟩
theorem jU {k:Int} (hk:Kd k):(nr k).length<=8:=by rcases hk with rfl | rfl | rfl <;> decide
def ad (p m:List Int):List Int:=match p,m with
 | [x,y],[dx,dy]=>[x+dx,y+dy]
 | _,_=>[]
def rl (k:Int) (b s:List Int):D:=.tup [.int k,.tup (b.map .int),.tup (s.map .int)]
def bes (k:Int) (xs:List (List Int)):List (List Int):=xs.flatMap fun p=>(nr k).map (ad p)
theorem gO (k:Int):∀ys:List (List Int),(bes k ys).length=ys.length*(nr k).length:=fun ys=>by
 induction ys with
 | nil=>simp [bes]
 | cons y ys ih=>simp only [bes,N1,Ji,IR,JZ] at ih ⊢;rw [ih,Nat.succ_mul];lia
def ddp:List (List Int)->List (List Int)
 | []=>[]
 | x::r=>if x∈r then ddp r else x::ddp r
theorem dq {c:List Int}:∀l,c∈ddp l↔c∈l
 | []=>Iff.rfl
 | x::r=>by
  unfold ddp
  split
  ·rename_i h
   rw [dq r,KA]
   exact ⟨.inr,fun z=>z.elim (fun e=>e▸h) id⟩
  ·rw [KA,KA,dq r]
theorem fe:∀l,(ddp l).Nodup
 | []=>Lz
 | x::r=>by
  unfold ddp
  split
  ·exact fe r
  ·rename_i h
   exact List.nodup_cons.mpr ⟨fun z=>h ((dq r).mp z),fe r⟩
def liv (k:Int) (bo st:List Int) (xs:List (List Int)) (c:List Int):Bool:=decide ((((bes k xs).count c:Nat):Int)∈if decide (c∈xs)=true then st else bo)
def nx (k:Int) (bo st:List Int) (xs:List (List Int)):List (List Int):=srt ((ddp (bes k xs++xs)).filter (liv k bo st xs))
theorem sr {a b:List (List Int)} (h:a.Perm b):srt a=srt b:=lr ((bD a).trans h) (fG a)
theorem Bs {k:Int} {bo st:List Int} {xs ys:List (List Int)} (nd:ys.Nodup) (hm:∀c,c∈ys↔(c∈bes k xs\/c∈xs)/\liv k bo st xs c=true):srt ys=nx k bo st xs:=by
 refine sr ?_
 refine (Np nd ((fe _).filter _)).mpr fun c=>?_
 rw [hm,OP,dq,KO]
def aft (k:Int) (bo st:List Int):Nat->List (List Int)->List (List Int)
 | 0,xs=>xs
 | n+1,xs=>nx k bo st (aft k bo st n xs)
theorem iY (k:Int) (bo st:List Int) (a:Nat) (xs:List (List Int)):∀b,aft k bo st (a+b) xs=aft k bo st b (aft k bo st a xs)
 | 0=>rfl
 | b+1=>by show nx k bo st (aft k bo st (a+b) xs)=nx k bo st (aft k bo st b (aft k bo st a xs));rw [iY k bo st a xs b]
theorem ph:∀{xs g:List (List Int)},xs.Nodup->(∀x∈xs,x∈g)->xs.length<=g.length
 | [],_,_,_=>Kk _
 | x::r,g,nd,h=>by
  rw [Nd] at nd
  have hx:=h x IQ
  have:=ph (xs:=r) (g:=g.erase x) nd.2 fun y hy=>(OY (show y≠x from fun e=>nd.1 (by subst e;exact hy))).mpr (h y (IZ _ hy))
  rw [N0 hx] at this
  have:0 < g.length:=Ou hx
  simp only [JZ];lia
theorem jV:∀{kvs:List (List Int×D)} {p:List Int×D},(kvs.map (·.1)).Nodup->p∈kvs->dM kvs p.1=some p.2
 | [],_,_,h=>by cases h
 | q::ps,p,nd,h=>by
  rw [Jd,Nd] at nd
  unfold dM
  rcases List.mem_cons.mp h with rfl | h
  ·simp
  ·have:¬ q.1=p.1:=fun z=>nd.1 (List.mem_map.mpr ⟨p,h,z.symm⟩)
   simp only [JH,this,decide_false]
   exact jV nd.2 h
theorem wq {c:List Int} (h:c∉kvs.map (·.1)):dM kvs c=none:=by
 unfold dM
 rw [List.find?_eq_none.mpr fun x hx=>by
  have:¬ x.1=c:=fun z=>h (List.mem_map.mpr ⟨x,hx,z⟩)
  simpa using this]
 rfl
structure Wt (l xs:List (List Int)) (kvs:List (List Int×D)):Prop where
 nd:(kvs.map (·.1)).Nodup
 keys:∀c,c∈kvs.map (·.1)↔c∈l\/c∈xs
 vals:∀p∈kvs,p.2=.int (l.count p.1)
 len:kvs.length<=l.length+xs.length
theorem Wt.get {l xs:List (List Int)} (h:Wt l xs kvs) (c:List Int):(dM kvs c).getD (.int 0)=.int (l.count c):=by
 by_cases hc:c∈kvs.map (·.1)
 ·obtain ⟨p,hp,rfl⟩:=List.mem_map.mp hc
  rw [jV h.nd hp,h.vals p hp];rfl
 ·rw [wq hc]
  have:c∉l:=fun z=>hc ((h.keys c).mpr (.inl z))
  rw [List.count_eq_zero.mpr this];rfl
theorem Wt.put {l:List (List Int)} {m:List Int} (h:Wt l [] kvs):Wt (l++[m]) [] (cu kvs m (.int ((l.count m:Nat)+1:Int))):=by
 have cm:∀c,(l++[m]).count c=l.count c+if c=m then 1 else 0:=fun c=>by
  rw [N2]
  by_cases e:c=m
  ·subst e;simp
  ·rw [if_neg e];simp [Ni,LS e]
 unfold cu
 by_cases hm:m∈kvs.map (·.1)
 ·rw [if_pos hm]
  have ek:(kvs.map fun x=>if x.1=m then (x.1,D.int ((l.count m:Nat)+1:Int)) else x).map (·.1)=kvs.map (·.1):=cU kvs m _
  refine ⟨by rw [ek];exact h.nd,fun c=>?_,fun p hp=>?_,?_⟩
  ·rw [ek,h.keys c,KO,KP]
   constructor
   ·rintro (z | z)
    ·exact .inl (.inl z)
    ·cases z
   ·rintro ((z | z) | z)
    ·exact .inl z
    ·subst z;exact (h.keys _).mp hm
    ·cases z
  ·obtain ⟨q,hq,rfl⟩:=List.mem_map.mp hp
   by_cases e:q.1=m
   ·rw [if_pos e]
    show D.int _=D.int _
    rw [cm,if_pos e,e];simp
   ·rw [if_neg e,cm,if_neg e,h.vals q hq];simp
  ·rw [IR,Ji];have:=h.len;simp at this ⊢;lia
 ·rw [if_neg hm]
  have nl:m∉l:=fun z=>hm ((h.keys m).mpr (.inl z))
  refine ⟨?_,fun c=>?_,fun p hp=>?_,?_⟩
  ·rw [Jc,Lr]
   exact ⟨h.nd,by simp,fun x hx y hy z=>hm (by cases List.mem_singleton.mp hy;exact (show x=m from z)▸hx)⟩
  ·rw [Jc,KO,h.keys c,KO];simp
  ·rcases List.mem_append.mp hp with hp | hp
   ·have:p.1≠m:=fun z=>hm (List.mem_map.mpr ⟨p,hp,z⟩)
    rw [cm,if_neg this,h.vals p hp];simp
   ·cases List.mem_singleton.mp hp
    show D.int _=D.int _
    rw [cm,if_pos rfl];simp
  ·rw [Ji,Ji];have:=h.len;simp at this ⊢;lia
theorem Wt.sdef {l ys:List (List Int)} {c:List Int} (h:Wt l ys kvs):Wt l (ys++[c]) (sdA kvs c 0):=by
 unfold sdA
 by_cases hc:c∈kvs.map (·.1)
 ·rw [if_pos hc]
  refine ⟨h.nd,fun d=>?_,h.vals,by have:=h.len;simp;lia⟩
  rw [h.keys d,KO,KP]
  constructor
  ·rintro (z | z)
   ·exact .inl z
   ·exact .inr (.inl z)
  ·rintro (z | z | z)
   ·exact .inl z
   ·exact .inr z
   ·subst z;exact (h.keys _).mp hc
 ·rw [if_neg hc]
  have nl:c∉l:=fun z=>hc ((h.keys c).mpr (.inl z))
  refine ⟨?_,fun d=>?_,fun p hp=>?_,by have:=h.len;simp;lia⟩
  ·rw [Jc,Lr]
   exact ⟨h.nd,by simp,fun x hx y hy z=>hc (by cases List.mem_singleton.mp hy;exact (show x=c from z)▸hx)⟩
  ·rw [Jc,KO,h.keys d,KO,or_assoc];simp
  ·rcases List.mem_append.mp hp with hp | hp
   ·exact h.vals p hp
   ·cases List.mem_singleton.mp hp
    rw [show l.count ((c,D.int 0):List Int×D).1=0 from List.count_eq_zero.mpr nl];rfl
theorem Wt.live {k:Int} {bo st:List Int} {xs:List (List Int)} (h:Wt (bes k xs) xs kvs):srt ((kvs.filter fun p=>liv k bo st xs p.1).map (·.1))=nx k bo st xs:=by
 refine Bs ?_ fun c=>?_
 ·exact List.Nodup.sublist (List.filter_sublist.map _) h.nd
 ·rw [NA]
  constructor
  ·rintro ⟨p,hp,rfl⟩
   rw [OP] at hp
   exact ⟨(h.keys _).mp (List.mem_map.mpr ⟨p,hp.1,rfl⟩),hp.2⟩
  ·rintro ⟨hc,hl⟩
   obtain ⟨p,hp,rfl⟩:=List.mem_map.mp ((h.keys c).mpr hc)
   exact ⟨p,List.mem_filter.mpr ⟨hp,hl⟩,rfl⟩
end My
namespace My
open PySem L2 VL
def HF:List D->(D->Prop)->Prop:=fun ds R=>∃k,ds=[.int k]/\Kd k/\R (eL (nr k))
def wt:List D->(D->Prop)->Prop:=fun ds R=>∃k bo st al c,ds=[rl k bo st,.bl al,.int c]/\R (.bl (decide (c∈if al=true then st else bo)))
def wu:List D->(D->Prop)->Prop:=fun ds R=>∃k bo st,ds=[rl k bo st]/\R (.bl (decide (0∉bo)))
def nP:List D->(D->Prop)->Prop:=fun ds R=>∃k bo st,ds=[rl k bo st]/\0∉bo/\R .non
def qG:List D->(D->Prop)->Prop:=fun ds R=>∃k xs,ds=[.int k,eL xs]/\Kd k/\(∀p∈xs,Pr p)/\xs.length<=20000/\∀kvs,Wt (bes k xs) [] kvs->R (dc kvs)
def nQ:List D->(D->Prop)->Prop:=fun ds R=>∃k xs,ds=[.int k,eL xs]/\Kd k/\(∀p∈xs,Pr p)/\xs.length<=20000/\∀kvs,Wt (bes k xs) xs kvs->R (dc kvs)
def HG:List D->(D->Prop)->Prop:=fun ds R=>∃k bo st xs kvs,ds=[rl k bo st,eL xs,dc kvs]/\Kd k/\(∀p∈xs,Pr p)/\xs.length<=20000/\Wt (bes k xs) xs kvs/\R (eL (nx k bo st xs))
def pNx:List D->(D->Prop)->Prop:=fun ds R=>∃k bo st xs,ds=[rl k bo st,eL xs]/\Kd k/\0∉bo/\(∀p∈xs,Pr p)/\xs.length<=20000/\R (eL (nx k bo st xs))
theorem nR (ms:List Int):VL.flat (kT ms)=true:=aW ms
theorem nS {neg:Bool}:oy neg d (.lst ds) q->oy neg d (.tup ds) q:=by
 rintro ⟨ds',h,r⟩
 rcases h with h | h
 ·cases h;exact ⟨_,.inr rfl,r⟩
 ·cases h
theorem Wt.flats {l xs:List (List Int)} (h:Wt l xs kvs):flats (kvs.map (·.2))=true:=by
 have:kvs.map (·.2)=(kvs.map fun p=>((l.count p.1:Nat):Int)).map D.int:=by
  rw [Jt]
  exact JL fun p hp=>h.vals p hp
 rw [this];exact aW _
theorem mh {k:Int} (hk:Kd k) {xs:List (List Int)} (hp:∀p∈xs,Pr p):∀c∈bes k xs,Pr c:=fun c hc=>by
 obtain ⟨q,hq,hs⟩:=List.mem_flatMap.mp hc
 obtain ⟨s,hs2,rfl⟩:=List.mem_map.mp hs
 obtain ⟨x,y,rfl⟩:=hp q hq
 obtain ⟨dx,dy,rfl⟩:=qF hk hs2
 exact ⟨x+dx,y+dy,rfl⟩
section
variable {P:Jp} {w:JQ} {K:IJ} {mg:Str->Option IP} {base:Heap}
theorem Es {a_OFFSETS:Addr} (S:Src K mg "offsets" jO) (T:Txt mg) (hD:mg "OFFSETS"=some (.ref a_OFFSETS)) (kD:okD K a_OFFSETS rows=true):Has P w K mg base 1 "offsets" ["kind"] (spP K HF):=by
 refine bA S si (by walk_at "1") (by walk_at "L") fun f cdv A outer s H E hr=>⟨_,_,(ak (ay (aH (gb rfl (by rfl) T.list_ (aa (De (rows:=rows) rfl kD (xn (v:=.ref a_OFFSETS) (by rfl) hD rfl) (ae 0 (pv 0)) (fun _ _=>rfl)) af))))),?_⟩
 rintro ds R ⟨k,rfl,hk,q⟩
 walk_at "sl"
 walk_at "rd"
 refine Df rfl (wm hk) ?_
 walk_at "rd"
 exact eI rfl (dG _) (by walk_at "rd";exact q)
theorem wy (S:Src K mg "comes" oY) (T:Txt mg):Has P w K mg base 1 "comes" ["rule","alive","count"] (spP K wt):=by
 refine bA S iU (by walk_at "3") (by walk_at "L") fun f cdv A outer s H E hr=>⟨_,_,(ah (gY (ae 0 (pv 0)) (bF (n:=3) rfl rfl (az (aq (ao (i:=3) iU.nd rfl (IW rfl) (IW rfl))) (az (aq (ao (i:=4) iU.nd rfl (IW rfl) (IW rfl))) (az (aq (ao (i:=5) iU.nd rfl (IW rfl) (IW rfl))) bf)))))
  (ak (ay (cT (tV (K:=K) rfl hr.units) pW (ae 2 (pv 2)) (tI (cq (ae 1 (pv 1))) (ae 5 (pv 5)) (ae 4 (pv 4))) (by with_unfolding_all rfl))))),?_⟩
 rintro ds R ⟨k,bo,st,al,c,rfl,q⟩
 walk_at "sl"
 unfold rl
 walk_at "rd"
 cases al with
 | true=>
  walk_at "rc"
  refine oH (f:=D.int) eY ?_
  walk_at "rd"
  exact q
 | false=>
  walk_at "rc"
  refine oH (f:=D.int) eY ?_
  walk_at "rd"
  exact q
theorem wz (S:Src K mg "is_quiet" jP) (T:Txt mg):Has P w K mg base 1 "is_quiet" ["rule"] (spP K wu):=by
 refine bA S sj (by walk_at "1") (by walk_at "L") fun f cdv A outer s H E hr=>⟨_,_,(ak (ay (cT (kF (K:=K) rfl hr.units) pW ab (aF rfl (ae 0 (pv 0)) ab (fun _ _=>rfl)) (by with_unfolding_all rfl)))),?_⟩
 rintro ds R ⟨k,bo,sy,rfl,q⟩
 unfold rl
 walk_at "sl"
 walk_at "rc"
 by_cases h:0∈bo
 ·refine nS (AK (f:=D.int) (l:=bo) eY h ?_)
  walk_at "rc"
  rw [decide_eq_false (by simpa using h)] at q
  exact q
 ·refine nS (AJ (f:=D.int) (l:=bo) eY h ?_)
  walk_at "rc"
  rw [decide_eq_true h] at q
  exact q
theorem zS (S:Src K mg "refuse_loud" eQ) (T:Txt mg) (e11_:Has P w K mg base 1 "is_quiet" ["rule"] (spP K wu)):Has P w K mg base 2 "refuse_loud" ["rule"] (spP K nP):=by
 refine bA S lU (by walk_at "1") (by walk_at "L") fun f cdv A outer s H E hr=>⟨_,_,(ak (aR (cK (cq (aY e11_ hr (aa (ae 0 (pv 0)) af)))) (ak tL) aD)),?_⟩
 rintro ds R ⟨k,bo,st,rfl,h0,q⟩
 walk_at "sl"
 walk_at "rd"
 refine ⟨k,bo,st,rfl,?_⟩
 rw [decide_eq_true h0]
 walk_at "rc"
 exact q
theorem su (S:Src K mg "counts" lV) (T:Txt mg) (e13_:Has P w K mg base 1 "offsets" ["kind"] (spP K HF)):Has P w K mg base 2 "counts" ["kind","picture"] (spP K qG):=by
 refine bA S cI (by walk_at "2") (by walk_at "L") fun f cdv A outer s H E hr=>⟨_,_,(ah (aI (i:=2) cI.nd rfl (IW rfl) (aY e13_ hr (aa (ae 0 (pv 0)) af)))
  (ah (gv (fun _ h=>bU (i:=3) cI.nd rfl (IW rfl) h) oG)
  (ah (cA Kb rfl (bq rfl (ae 1 (pv 1))) (bF (n:=2) rfl rfl (az (aq (ao (i:=4) cI.nd rfl (IW rfl) (IW rfl))) (az (aq (ao (i:=5) cI.nd rfl (IW rfl) (IW rfl))) bf))) (ak (cA Kb rfl (bq rfl (ae 2 (pv 2))) (bF (n:=2) rfl rfl (az (aq (ao (i:=6) cI.nd rfl (IW rfl) (IW rfl))) (az (aq (ao (i:=7) cI.nd rfl (IW rfl) (IW rfl))) bf))) (ah (aI (i:=8) cI.nd rfl (IW rfl) (ai (aa (au aS aC (ae 4 (pv 4)) (ae 6 (pv 6))) (aa (au aS aC (ae 5 (pv 5)) (ae 7 (pv 7))) af))))
  (ak (iO 3 rfl hr.units (pv 3) (au aS aC (lL rfl hr.units (ae 3 (pv 3)) (ae 8 (pv 8))) ab) (ae 8 (pv 8))))))))
  (ak (ay (aK (ae 3 (pv 3)))))))),?_⟩
 rintro ds R ⟨k,xs,rfl,hk,hp,hl,q⟩
 walk_at "sl"
 walk_at "rd"
 refine ⟨k,rfl,hk,?_⟩
 walk_at "rd"
 have nl:=jU hk
 have bl:=gO k
 refine eJ (fun i S=>∃kvs s4 s5 s6 s7 s8,Wt (bes k (xs.take i)) [] kvs/\S=[.val (.int k),.val (eL xs),.val (eL (nr k)),od kvs,s4,s5,s6,s7,s8]) ⟨[],_,_,_,_,_,⟨by simp,by simp [bes],by simp,by simp⟩,rfl⟩ ?_ ?_
 ·rintro i d S2 e ⟨kvs,s4,s5,s6,s7,s8,tc,rfl⟩
  obtain ⟨p,h1,rfl,hm,ht⟩:=bp e
  have hi:i < xs.length:=(List.getElem?_eq_some_iff.mp h1).1
  obtain ⟨px,py,rfl⟩:=hp p hm
  show vgT 2 _ (.tup [.int px,.int py]) _ _
  walk_at "rd"
  refine eJ (fun j S=>∃kvs s6 s7 s8,Wt (bes k (xs.take i)++((nr k).take j).map (ad [px,py])) [] kvs/\S=[.val (.int k),.val (eL xs),.val (eL (nr k)),od kvs,.val (.int px),.val (.int py),s6,s7,s8]) ⟨kvs,_,_,_,by simpa using tc,rfl⟩ ?_ ?_
  ·rintro j d S3 e' ⟨kvs,s6,s7,s8,tc,rfl⟩
   obtain ⟨m,h2,rfl,hm',ht'⟩:=bp e'
   obtain ⟨dx,dy,rfl⟩:=qF hk hm'
   show vgT 2 _ (.tup [.int dx,.int dy]) _ _
   walk_at "rd"
   refine oI (kvs:=kvs) (ms:=[px+dx,py+dy]) rfl rfl (tc.get _) ?_
   walk_at "rd"
   have t2:=tc.len
   have b1:=bl (xs.take i)
   have l1:(xs.take i).length<=20000:=by rw [Kf];lia
   have l2:(xs.take i).length*(nr k).length<=20000*8:=ME l1 nl
   rw [Ji,IR,Kf,Mh] at t2
   refine gw (kvs:=kvs) (ms:=[px+dx,py+dy]) rfl rfl (by lia) ?_
   refine ⟨_,_,_,_,?_,rfl⟩
   have:=tc.put (m:=ad [px,py] [dx,dy])
   rw [ht',Jc,<- Jm]
   exact this
  ·rintro S3 ⟨kvs,s6,s7,s8,tc,rfl⟩
   refine ⟨kvs,_,_,_,_,_,?_,rfl⟩
   rw [ht]
   simpa [bes] using tc
 ·rintro S2 ⟨kvs,s4,s5,s6,s7,s8,tc,rfl⟩
  rw [IR,KQ] at tc
  walk_at "rd"
  exact q kvs tc
theorem pA (S:Src K mg "watched" jQ) (T:Txt mg) (e20_:Has P w K mg base 2 "counts" ["kind","picture"] (spP K qG)):Has P w K mg base 3 "watched" ["kind","picture"] (spP K nQ):=by
 refine bA S ip (by walk_at "2") (by walk_at "L") fun f cdv A outer s H E hr=>⟨_,_,(ah (gv (fun _ h=>bU (i:=2) ip.nd rfl (IW rfl) h) (G8 e20_ hr (aa (ae 0 (pv 0)) (aa (ae 1 (pv 1)) af))))
  (ah (cA Kb rfl (bq rfl (ae 1 (pv 1))) (aq (ao (i:=3) ip.nd rfl (IW rfl) (IW rfl))) (ak (de (yX 2 rfl hr.units (pv 2) (ae 3 (pv 3))))))
  (ak (ay (aK (ae 2 (pv 2))))))),?_⟩
 rintro ds R ⟨k,xs,rfl,hk,hp,hl,q⟩
 walk_at "sl"
 walk_at "rd"
 refine ⟨k,xs,rfl,hk,hp,hl,fun kvs tc=>⟨kvs,rfl,tc.flats,?_⟩⟩
 walk_at "rd"
 have nl:=jU hk
 have b1:=gO k xs
 have l2:xs.length*(nr k).length<=20000*8:=ME hl nl
 refine eJ (fun i S=>∃kvs s3,Wt (bes k xs) (xs.take i) kvs/\S=[.val (.int k),.val (eL xs),od kvs,s3]) ⟨kvs,_,by simpa using tc,rfl⟩ ?_ ?_
 ·rintro i d S2 e ⟨kvs,s3,tc,rfl⟩
  obtain ⟨p,h1,rfl,hm,ht⟩:=bp e
  have hi:i < xs.length:=(List.getElem?_eq_some_iff.mp h1).1
  walk_at "rd"
  have t2:=tc.len
  rw [Kf] at t2
  refine yY (kvs:=kvs) (ms:=p) rfl rfl (by lia) (tc.get _) ?_
  walk_at "rd"
  exact ⟨_,_,by rw [ht];exact tc.sdef,rfl⟩
 ·rintro S2 ⟨kvs,s3,tc,rfl⟩
  rw [IR,KQ] at tc
  walk_at "rd"
  exact q kvs tc
theorem HH (S:Src K mg "living_next" cJ) (T:Txt mg) (e32_:Has P w K mg base 1 "comes" ["rule","alive","count"] (spP K wt)):Has P w K mg base 2 "living_next" ["rule","picture","tally"] (spP K HG):=by
 refine bA S gG (by walk_at "3") (by walk_at "L") fun f cdv A outer s H E hr=>⟨_,_,(ah (gv (fun _ h=>bU (i:=3) gG.nd rfl (Kr rfl) h) (yL (tg:=["cell"]) (cs:=[]) (ix:=[]) rfl hr.units (aP (aj cJ) ["rule","picture","tally","living"] (by decide +kernel)) rfl (bQ (by decide)) (by decide) (bq rfl (ae 1 (pv 1))) (fun _ _ _ _=>(aq (ao (i:=0) (show (["cell"]:List Str).Nodup by decide +kernel) rfl (IW rfl) (by first | exact IW rfl | exact Kr rfl)))) (fun _ _ _ _=>bY) (fun _ _ _ _=>(ae 0 (pv 0))) (fun _ _ _ _=>cG)))
  (ak (ay (aH (eN rfl rfl (by rfl) T.sorted_ dJ (aa (aH (bM (tg:=["cell","count"]) (cs:=["rule","living"]) (ix:=[0,3]) (aP (aj cJ) ["rule","picture","tally","living"] (by decide +kernel)) rfl (bL (by decide) (by decide)) (by decide) (uV (ae 2 (pv 2))) (fun _ _ _ _=>(bF (n:=2) rfl rfl (az (aq (ao (i:=0) (show (["cell","count","rule","living"]:List Str).Nodup by decide +kernel) rfl (IW rfl) (by first | exact IW rfl | exact Kr rfl))) (az (aq (ao (i:=1) (show (["cell","count","rule","living"]:List Str).Nodup by decide +kernel) rfl (IW rfl) (by first | exact IW rfl | exact Kr rfl))) bf)))) (fun _ _ _ _=>(eX (cq (aY e32_ hr (aa (ae 2 (pv 2)) (aa (cT (AR (K:=K) rfl hr.units) AQ (ae 0 (pv 0)) (ae 3 (pv 3)) (by with_unfolding_all rfl)) (aa (ae 1 (pv 1)) af))))))) (fun _ _ _ _=>(aK (ae 0 (pv 0)))))) af)))))),?_⟩
 rintro ds R ⟨k,bo,st,xs,kvs,rfl,hk,hp,hl,tc,q⟩
 walk_at "sl"
 walk_at "rd"
 have nl:=jU hk
 have b1:=gO k xs
 have l2:xs.length*(nr k).length<=20000*8:=ME hl nl
 have t2:=tc.len
 refine rO (xs:=xs) (en:=eT) (ky:=fun p=>p) (f:=fun _=>.bl true) (by lia) (fun p hp A B hA=>?_) ?_
 ·dsimp only [bz,JP,Jd,JW,JU,J6]
  walk_at "rc"
  exact hA _ rfl
 ·walk_at "rd"
  refine di (xs:=kvs) (en:=fun x=>.tup [kT x.1,x.2]) (f:=fun x=>eT x.1) (p:=fun x=>liv k bo st xs x.1) (by lia) (fun c hc A B hA hB=>?_) ?_
  ·dsimp only [bz,JP,Jd,JW,JU,J6]
   rw [tc.vals c hc]
   have hal:decide (c.1∈(xs.foldl (fun kvs x=>cu kvs x (D.bl true)) []).map (·.1))=decide (c.1∈xs):=by
    congr 1
    exact propext ((hV (ky:=fun p=>p) (f:=fun _=>D.bl true) xs []).trans (by simp))
   walk_at "rd"
   refine ur (ms:=c.1) rfl rfl ?_
   walk_at "rd"
   refine ⟨k,bo,st,_,_,rfl,?_⟩
   rw [if_neg IT,hal]
   change t6 _ (.d (.bl (liv k bo st xs c.1))) _
   cases hv:liv k bo st xs c.1 with
   | true=>walk_at "rc";refine bZ (nR _) ?_;walk_at "rc";exact hA _ rfl hv
   | false=>walk_at "rc";exact hB _ rfl hv
  ·walk_at "rd"
   rw [show ((kvs.filter fun x=>liv k bo st xs x.1).map fun x=>eT x.1)=((kvs.filter fun x=>liv k bo st xs x.1).map (·.1)).map eT by rw [Jt];rfl]
   walk_at "rd"
   refine eO (mss:=(kvs.filter fun x=>liv k bo st xs x.1).map (·.1)) rfl (fun ms hms=>?_) ?_
   ·obtain ⟨x,hx,rfl⟩:=List.mem_map.mp hms
    have hk2:=(tc.keys x.1).mp (List.mem_map.mpr ⟨x,(List.mem_filter.mp hx).1,rfl⟩)
    obtain ⟨a,b,e⟩:=hk2.elim (mh hk hp x.1) (hp x.1)
    rw [e];exact List.cons_ne_nil _ _
   ·rw [tc.live]
    walk_at "rd"
    exact q
theorem HJ (S:Src K mg "next_turn" iq) (T:Txt mg) (e1_:Has P w K mg base 2 "refuse_loud" ["rule"] (spP K nP)) (e30_:Has P w K mg base 2 "living_next" ["rule","picture","tally"] (spP K HG)) (e34_:Has P w K mg base 3 "watched" ["kind","picture"] (spP K nQ)):Has P w K mg base 4 "next_turn" ["rule","picture"] (spP K pNx):=by
 refine bA S oZ (by walk_at "2") (by walk_at "L") fun f cdv A outer s H E hr=>⟨_,_,(ah (de (aY e1_ hr (aa (ae 0 (pv 0)) af)))
  (ak (ay (aY e30_ hr (aa (ae 0 (pv 0)) (aa (ae 1 (pv 1)) (aa (aY e34_ hr (aa (aF rfl (ae 0 (pv 0)) ab (fun _ _=>rfl)) (aa (ae 1 (pv 1)) af))) af))))))),?_⟩
 rintro ds R ⟨k,bo,st,xs,rfl,hk,h0,hp,hl,q⟩
 walk_at "sl"
 walk_at "rd"
 refine ⟨k,bo,st,rfl,h0,?_⟩
 unfold rl
 walk_at "rd"
 refine ⟨k,xs,rfl,hk,hp,hl,fun kvs tc=>?_⟩
 walk_at "rd"
 refine ⟨k,bo,st,xs,kvs,rfl,hk,hp,hl,tc,?_⟩
 walk_at "rd"
 exact q
end
end My
namespace My
open PySem L2 VL
def fr (p:Nat->Bool) (w:Nat):List Nat:=(JS w).filter p
theorem zT (p:Nat->Bool) (w:Nat):fr p (w+1)=fr p w++if p w=true then [w] else []:=by
 unfold fr
 rw [Nj,Nv]
 congr 1
 by_cases h:p w=true <;> simp [h]
theorem qH (l:List Nat) (lo:Int):(l.map fun (i:Nat)=>D.int (lo+(i:Int)))=(l.map fun (i:Nat)=>lo+(i:Int)).map D.int:=by rw [Jt];rfl
theorem iw (l:List Nat) (lo:Int):flats (l.map fun (i:Nat)=>D.int (lo+(i:Int)))=true:=by
 rw [show (l.map fun (i:Nat)=>D.int (lo+(i:Int)))=(l.map fun (i:Nat)=>lo+(i:Int)).map D.int by rw [Jt];rfl]
 exact aW _
theorem wC (p:Nat->Bool) (b:Bool) (w:Nat):fr (fun x=>if x=w then b else p x) (w+1)=fr p w++if b=true then [w] else []:=by
 rw [zT]
 congr 1
 ·unfold fr
  refine Qa fun x hx=>?_
  have:=List.mem_range.mp hx
  rw [if_neg (by lia)]
 ·rw [if_pos rfl]
theorem iF {T:List Sl}:∀(r:List Sl) (k:Nat),bX 1 [0] T (k+1) r=r
 | [],_=>rfl
 | s::r,k=>by
  have:([0]:List Nat).idxOf? (k+1)=none:=by simp [Qo,List.findIdx?_cons]
  unfold bX
  rw [this,iF r (k+1)]
theorem kW {ad:Option Addr} {pn pn2:List Int} {rest:List Sl} {x:Sl}:backS 1 [0] (.pen ad pn::rest) [x,.pen ad pn2]=.pen ad pn2::rest:=by
 show bX 1 [0] _ 0 _=_
 unfold bX
 rw [iF]
 rfl
theorem qI {g:Int->D} {ve:VT} {ad:Option Addr} {pn:List Int} {rest:List Sl} {QN:List D->List Sl->Prop} {vt:VTT} {lo:Int} {n b:Nat} (hb:b+n<=1000000) (hp:Pn b pn)
  (hve:∀(x:Int) (pn':List Int) (Q:VR->List Sl->Prop),Q (.d (g x)) [.val (.int x),.pen ad pn']->ve [.val (.int x),.pen ad pn'] Q)
  (hvt:∀(b':Nat) (pn':List Int) (x:Int) (A:Bool->List Sl->Prop),Pn b' pn'->b'<=1000000->(∀v pn2,Pn (b'+1) pn2->A v [.val (.int x),.pen ad pn2])->vt [.val (.int x),.pen ad pn'] A)
  (q:∀(p:Nat->Bool) pn',Pn (b+n) pn'->QN ((fr p n).map fun (i:Nat)=>g (lo+(i:Int))) (.pen ad pn'::rest)):iC 1 [0] (vgN 0) vt ve QN (rg lo n) (.pen ad pn::rest):=by
 refine ug (fun i ys S2=>∃(p:Nat->Bool) (pn':List Int),Pn (b+i) pn'/\ys=((fr p i).map fun (i:Nat)=>g (lo+(i:Int)))/\S2=.pen ad pn'::rest) (by lia) ⟨fun _=>false,pn,hp,rfl,rfl⟩ ?_ ?_
 ·rintro i ys S2 hi ⟨p,pn',h1,rfl,rfl⟩
  refine ⟨(by show 0 < _;simp [bz]),?_⟩
  show vt [.val (.int (lo+(i:Int))),.pen ad pn'] _
  refine hvt (b+i) pn' _ _ h1 (by lia) fun v pn2 h2=>?_
  cases v with
  | true=>
   refine gj (fun _=>?_) (fun e=>nomatch e)
   refine hve _ _ _ ?_
   refine mW ?_
   rw [kW]
   exact ⟨fun x=>if x=i then true else p x,pn2,h2,by rw [wC,Jc];rfl,rfl⟩
  | false=>
   refine gj (fun e=>nomatch e) (fun _=>?_)
   rw [kW]
   exact ⟨fun x=>if x=i then false else p x,pn2,h2,by rw [wC,Jc];simp,rfl⟩
 ·rintro ys S2 ⟨p,pn',h1,rfl,rfl⟩
  exact q p pn' h1
theorem qJ {ad:Option Addr} {pn:List Int} {rest:List Sl} {QN:List D->List Sl->Prop} {vt:VTT} {lo:Int} {n b:Nat} (hb:b+n<=1000000) (hp:Pn b pn)
  (hvt:∀(b':Nat) (pn':List Int) (x:Int) (A:Bool->List Sl->Prop),Pn b' pn'->b'<=1000000->(∀v pn2,Pn (b'+1) pn2->A v [.val (.int x),.pen ad pn2])->vt [.val (.int x),.pen ad pn'] A)
  (q:∀(p:Nat->Bool) pn',Pn (b+n) pn'->QN ((fr p n).map fun (i:Nat)=>D.int (lo+(i:Int))) (.pen ad pn'::rest)):iC 1 [0] (vgN 0) vt (pT (mO 0)) QN (rg lo n) (.pen ad pn::rest):=
 qI (g:=D.int) hb hp (fun x pn' Q h=>⟨.d (.int x),rfl,rfl,h⟩) hvt q
theorem HK {r:Int} (h0:0<=r) (h1:r < 3):∃k,Kd k/\atI [D.int 4,.int 6,.int 8] r=some (.int k):=by
 have:r=0\/r=1\/r=2:=by lia
 rcases this with rfl | rfl | rfl
 ·exact ⟨4,.inl rfl,rfl⟩
 ·exact ⟨6,.inr (.inl rfl),rfl⟩
 ·exact ⟨8,.inr (.inr rfl),rfl⟩
def qK:List Int->List D->(D->List Int->Prop)->Prop:=fun pn ds R=>∃b:Nat,ds=[]/\Pn b pn/\b<=1000/\∀(x:Int) pn',Pn (b+4) pn'->R (.int x) pn'
theorem Et {p:Nat->Bool} {n:Nat} {lo:Int} (hlo:1<=lo):(0:Int)∉(fr p n).map fun (i:Nat)=>lo+(i:Int):=fun z=>by
 obtain ⟨i,_,e⟩:=List.mem_map.mp z
 lia
theorem Wt.perm {l l' ys:List (List Int)} (h:Wt l ys kvs) (p:l.Perm l'):Wt l' ys kvs:=
 ⟨h.nd,fun c=>by rw [h.keys c,p.mem_iff],fun q hq=>by rw [h.vals q hq,p.count_eq],by rw [<- p.length_eq];exact h.len⟩
def fol (l:List (List Int)):List (List Int×D):=l.foldl (fun kvs x=>cu kvs x (D.bl true)) []
theorem wD (l:List (List Int)) (c:List Int):fol (l++[c])=cu (fol l) c (.bl true):=by unfold fol;rw [P0];rfl
theorem nT {l:List (List Int)} {c:List Int}:c∈(fol l).map (·.1)↔c∈l:=(hV (ky:=fun p=>p) (f:=fun _=>D.bl true) l []).trans (by simp)
theorem sC {m:List Int} (h:(kvs.map (·.1)).Nodup):((cu kvs m d).map (·.1)).Nodup:=by
 unfold cu
 by_cases hm:m∈kvs.map (·.1)
 ·rw [if_pos hm,cU];exact h
 ·rw [if_neg hm,Jc,Lr]
  exact ⟨h,by simp,fun x hx y hy z=>hm (by cases List.mem_singleton.mp hy;exact (show x=m from z)▸hx)⟩
theorem sE:∀l:List (List Int),((fol l).map (·.1)).Nodup:=fun l=>by
 have:∀(l:List (List Int)) (kvs:List (List Int×D)),(kvs.map (·.1)).Nodup->((l.foldl (fun kvs x=>cu kvs x (D.bl true)) kvs).map (·.1)).Nodup:=fun l=>by
  induction l with
  | nil=>exact fun _ h=>h
  | cons x l ih=>exact fun kvs h=>ih _ (sC h)
 exact this l [] Lz
theorem zU:∀l:List (List Int),(fol l).length<=l.length:=fun l=>by
 have:=ph (sE l) (g:=l) fun x hx=>nT.mp hx
 rwa [IR] at this
theorem Wt.upd {l ys l' ys':List (List Int)} {m:List Int} (h:Wt l ys kvs) (hk:∀c,(c∈l'\/c∈ys')↔((c∈l\/c∈ys)\/c=m)) (hc:∀c,c≠m->l'.count c=l.count c) (hd:d=.int (l'.count m)) (hl:l.length+ys.length+1<=l'.length+ys'.length):Wt l' ys' (cu kvs m d):=by
 have hlen:=h.len
 unfold cu
 by_cases hm:m∈kvs.map (·.1)
 ·rw [if_pos hm]
  have ek:(kvs.map fun x=>if x.1=m then (x.1,d) else x).map (·.1)=kvs.map (·.1):=cU kvs m _
  refine ⟨by rw [ek];exact h.nd,fun c=>?_,fun p hp=>?_,by rw [IR];lia⟩
  ·rw [ek,h.keys c,hk]
   constructor
   ·exact .inl
   ·rintro (z | z)
    ·exact z
    ·subst z;exact (h.keys _).mp hm
  ·obtain ⟨q,hq,rfl⟩:=List.mem_map.mp hp
   by_cases e:q.1=m
   ·rw [if_pos e]
    show d=_
    rw [hd,e]
   ·rw [if_neg e,hc _ e]
    exact h.vals q hq
 ·rw [if_neg hm]
  refine ⟨?_,fun c=>?_,fun p hp=>?_,by rw [Ji,Kc];lia⟩
  ·rw [Jc,Lr]
   exact ⟨h.nd,by simp,fun x hx y hy z=>hm (by cases List.mem_singleton.mp hy;exact (show x=m from z)▸hx)⟩
  ·rw [Jc,KO,h.keys c,hk];simp
  ·rcases List.mem_append.mp hp with hp | hp
   ·have:p.1≠m:=fun z=>hm (List.mem_map.mpr ⟨p,hp,z⟩)
    rw [hc _ this]
    exact h.vals p hp
   ·cases List.mem_singleton.mp hp
    exact hd
theorem Eu {k:Int} {bo st:List Int} (hk:Kd k) (xs:List (List Int)):(nx k bo st xs).length<=9*xs.length:=by
 have h1:=(bD ((ddp (bes k xs++xs)).filter (liv k bo st xs))).length_eq
 have h2:=MM (liv k bo st xs) (ddp (bes k xs++xs))
 have h3:=ph (fe (bes k xs++xs)) (g:=bes k xs++xs) fun x hx=>(dq _).mp hx
 rw [Ji,gO] at h3
 have h4:xs.length*(nr k).length<=xs.length*8:=Nat.mul_le_mul_left _ (jU hk)
 unfold nx
 lia
theorem jW {l:List (List Int)} (h:l.all (fun p=>p.length==2)=true):∀m∈l,Pr m:=fun m hm=>by
 have:=List.all_eq_true.mp h m hm
 match m,this with
 | [x,y],_=>exact ⟨x,y,rfl⟩
theorem Bt {k:Int} {bo st:List Int} (hk:Kd k) {xs:List (List Int)} (h:∀p∈xs,Pr p):∀p∈nx k bo st xs,Pr p:=fun p hp=>by
 have h1:=(bD _).mem_iff.mp hp
 have h2:=(dq _).mp (List.mem_filter.mp h1).1
 rcases List.mem_append.mp h2 with h3 | h3
 ·exact mh hk h p h3
 ·exact h p h3
def sp (k:Int):List (List Int):=if k=4 then [[0,-1],[-1,0],[1,0],[0,1]] else if k=6 then [[0,-1],[-1,0],[1,0],[0,1],[-1,-1],[1,1]] else [[0,-1],[-1,0],[1,0],[0,1],[-1,-1],[1,1],[-1,1],[1,-1]]
theorem qL {k:Int} (hk:Kd k):(sp k).Perm (nr k):=by rcases hk with rfl | rfl | rfl <;> decide +kernel
def Bu:List Int->List D->(D->List Int->Prop)->Prop:=fun pn ds R=>∃b:Nat,ds=[]/\Pn b pn/\b<=2000/\∀(k:Int) (bo sy:List Int) pn',Kd k->0∉bo->bo.length<=20->Pn (b+40) pn'->R (rl k bo sy) pn'
def wF:List Int->List D->(D->List Int->Prop)->Prop:=fun pn ds R=>∃b:Nat,ds=[]/\Pn b pn/\b<=500/\∀mss pn',(∀p∈mss,Pr p)->mss.length<=11->Pn (b+60) pn'->R (eL mss) pn'
def wG:List Int->List D->(D->List Int->Prop)->Prop:=fun pn ds R=>∃b:Nat,ds=[]/\Pn b pn/\b<=600/\∀(k:Int) (bo sy:List Int) mss pn',Kd k->0∉bo->(∀p∈mss,Pr p)->mss.length<=11->Pn (b+2) pn'->R (.tup [rl k bo sy,eL mss]) pn'
def Bv:List Int->List D->(D->List Int->Prop)->Prop:=fun pn ds R=>∃b:Nat,ds=[]/\Pn b pn/\b<=100/\∀(k:Int) (bo sy:List Int) mss pn',Kd k->0∉bo->(∀p∈mss,Pr p)->mss.length<=15->Pn (b+200) pn'->R (.tup [rl k bo sy,eL mss]) pn'
def wH:List D->(D->Prop)->Prop:=fun ds R=>∃k,ds=[.int k]/\Kd k/\R (eL (sp k))
def wJ:List D->(D->Prop)->Prop:=fun ds R=>∃k bo st xs,ds=[rl k bo st,eL xs]/\Kd k/\(∀p∈xs,Pr p)/\xs.length<=15625/\R (eL (nx k bo st xs))
end My
namespace My
open PySem L2 VL
def Pc (mss:List (List Int)):Prop:=(∀ms∈mss,Pr ms)/\mss.length<=2000
def mv (dx dy:Int) (ms:List Int):List Int:=match ms with
 | [x,y]=>[x+dx,y+dy]
 | _=>[]
def fs (ms:List Int):Int:=ms.getD 0 0
def sn (ms:List Int):Int:=ms.getD 1 0
def aM (mss:List (List Int)):List (List Int):=mss.map (mv (-(mnI (mss.map fs))) (-(mnI (mss.map sn))))
def mxI (ns:List Int):Int:=-(mnI (ns.map fun x=>-x))
theorem wK {M:Int} (h:M∈ns) (h2:∀a∈ns,a<=M):M=mxI ns:=by
 have:-M=mnI (ns.map fun x=>-x):=lH (List.mem_map.mpr ⟨M,h,rfl⟩) fun a ha=>by
  obtain ⟨b,hb,rfl⟩:=List.mem_map.mp ha
  have:=h2 b hb
  lia
 unfold mxI
 lia
def bx (mss:List (List Int)):List Int:=[mnI (mss.map fs),mnI (mss.map sn),mxI (mss.map fs)-mnI (mss.map fs)+1,mxI (mss.map sn)-mnI (mss.map sn)+1]
def pB:List D->(D->Prop)->Prop:=fun ds R=>∃mss dx dy,ds=[eL mss,eT [dx,dy]]/\Pc mss/\R (eL (mss.map (mv dx dy)))
def qM:List D->(D->Prop)->Prop:=fun ds R=>∃mss,ds=[eL mss]/\Pc mss/\R (eL (aM mss))
def HM:List D->(D->Prop)->Prop:=fun ds R=>∃mss,ds=[eL mss]/\Pc mss/\(mss=[]->R .non)/\(mss≠[]->R (eT (bx mss)))
def mvb (a b:List (List Int)):List Int:=[fs (b.headD [])-fs (a.headD []),sn (b.headD [])-sn (a.headD [])]
set_option genSizeOf false in
inductive Ft where
 | on | gone (t:Int) | comes (m n:Int) (v:List Int)
noncomputable instance:DecidableEq Ft:=fun a b=>Classical.propDecidable (a=b)
def fE:Ft->D
 | .on=>.tup [.str "on"]
 | .gone t=>.tup [.str "gone",.int t]
 | .comes m n v=>.tup [.str "comes",.int m,.int n,eT v]
theorem fP:Enc 2 fE where
 ty:=fun x=>by
  cases x with
  | on=>rfl
  | gone t=>rfl
  | comes m n v=>show (noTy (.str "comes")&&(noTy (.int m)&&(noTy (.int n)&&(noTy (eT v)&&true))))=true;rw [b6.ty v];rfl
 lay:=fun x=>by
  cases x with
  | on=>show Kv (.tuple [.str "on"])=true;simp only [Kv,KY];decide +kernel
  | gone t=>show Kv (.tuple [.str "gone",.int t])=true;simp only [Kv,KY];decide +kernel
  | comes m n v=>show Kv (.tuple [.str "comes",.int m,.int n,pd (eT v)])=true;simp only [Kv,KY,b6.lay v];decide +kernel
 dep:=fun x=>by
  cases x with
  | on=>decide
  | gone t=>show Ls (.tuple [.str "gone",.int t])<=2;simp [Ls,Lm]
  | comes m n v=>
   have a:=b6.dep v
   show Ls (.tuple [.str "comes",.int m,.int n,pd (eT v)])<=2
   simp [Ls,Lm]
   lia
 eq:=fun x y=>by
  cases x with
  | on=>cases y <;> simp [fE,pd,pds,Kl,KJ]
  | gone t=>cases y <;> simp [fE,pd,pds,Kl,KJ]
  | comes m n v=>
   cases y with
   | on=>simp [fE,pd,pds,Kl,KJ]
   | gone t=>simp [fE,pd,pds,Kl,KJ]
   | comes m' n' v'=>
    show Kl (.tuple [.str "comes",.int m,.int n,pd (eT v)]) (.tuple [.str "comes",.int m',.int n',pd (eT v')])=true↔_
    simp [Kl,KJ,b6.eq v v']
def Un (f:Nat->List (List Int)) (t:Nat):Prop:=(∀m,m < t->f m≠[])/\∀m n,m < n->n < t->aM (f m)≠aM (f n)
def Ew:List D->(D->Prop)->Prop:=fun ds R=>∃mss,ds=[eL mss]/\Pc mss/\R (kT2 (aM mss))
def kvf (f:Nat->List (List Int)) (i:Nat):KV2:=(JS i).map fun m=>(aM (f m),D.tup [.int m,eL (f m)])
theorem wL (f:Nat->List (List Int)) (i:Nat):kvf f (i+1)=kvf f i++[(aM (f i),D.tup [.int i,eL (f i)])]:=by unfold kvf;rw [Nj,Jc];rfl
theorem zV {f:Nat->List (List Int)} {i:Nat} {key:List (List Int)}:key∈(kvf f i).map (·.1)↔∃m,m < i/\aM (f m)=key:=by
 unfold kvf
 simp [NA,List.mem_range]
theorem zW {f:Nat->List (List Int)} {i:Nat} {key:List (List Int)} (h:key∈(kvf f i).map (·.1)):∃m,m < i/\aM (f m)=key/\fB (kvf f i) key=some (D.tup [.int m,eL (f m)]):=by
 unfold fB
 cases hf:(kvf f i).find? fun x=>decide (x.1=key) with
 | none=>
  obtain ⟨x,hx,e⟩:=List.mem_map.mp h
  have:=List.find?_eq_none.mp hf x hx
  simp [e] at this
 | some x=>
  have h1:=List.mem_of_find?_eq_some hf
  have h2:=List.find?_some hf
  unfold kvf at h1
  obtain ⟨m,hm,rfl⟩:=List.mem_map.mp h1
  exact ⟨m,List.mem_range.mp hm,of_decide_eq_true h2,rfl⟩
theorem zX {f:Nat->List (List Int)} {i:Nat} (h:aM (f i)∉(kvf f i).map (·.1)):eP (kvf f i) (aM (f i)) (D.tup [.int i,eL (f i)])=kvf f (i+1):=by
 unfold eP
 rw [if_neg h,wL]
theorem Un.succ {f:Nat->List (List Int)} {i:Nat} (h:Un f i) (h1:f i≠[]) (h2:aM (f i)∉(kvf f i).map (·.1)):Un f (i+1):=
 ⟨fun m hm=>by
  by_cases e:m=i
  ·subst e;exact h1
  ·exact h.1 m (by lia),fun m n hm hn=>by
  by_cases e:n=i
  ·subst e;exact fun z=>h2 (zV.mpr ⟨m,hm,z⟩)
  ·exact h.2 m n hm (by lia)⟩
def pMB:List D->(D->Prop)->Prop:=fun ds R=>∃a b,ds=[eL a,eL b]/\a≠[]/\b≠[]/\Pc a/\Pc b/\R (eT (mvb a b))
def okF:Ft->Prop
 | .comes _ _ v=>Pr v
 | _=>True
theorem Un.le {f:Nat->List (List Int)} {t s:Nat} (h:Un f t) (e:s<=t):Un f s:=⟨fun m hm=>h.1 m (by lia),fun m n h1 h2=>h.2 m n h1 (by lia)⟩
def Fd (f:Nat->List (List Int)) (T:Nat) (x:Ft):Prop:=(∃t,t<=T/\Un f t/\f t=[]/\x=.gone t)\/(∃t m,t<=T/\m < t/\Un f t/\f t≠[]/\aM (f m)=aM (f t)/\x=.comes m ((t:Int)-m) (mvb (f m) (f t)))\/(Un f (T+1)/\x=.on)
theorem Fd.ok {f:Nat->List (List Int)} {T:Nat} {x:Ft} (h:Fd f T x):okF x:=by
 rcases h with ⟨_,_,_,_,rfl⟩ | ⟨_,_,_,_,_,_,_,rfl⟩ | ⟨_,rfl⟩
 ·trivial
 ·exact ⟨_,_,rfl⟩
 ·trivial
def wM (f:Nat->List (List Int)) (T:Nat):Prop:=∀t,t<=T->Un f t->Pc (f t)
def Bw:List D->(D->Prop)->Prop:=fun ds R=>∃k bo st xs,∃T:Nat,ds=[rl k bo st,eL xs,.int T]/\Kd k/\0∉bo/\T<=1000/\wM (fun m=>aft k bo st m xs) T/\∀x,Fd (fun m=>aft k bo st m xs) T x->R (fE x)
section
variable {P:Jp} {w:JQ} {K:IJ} {mg:Str->Option IP} {base:Heap}
theorem wN (S:Src K mg "moved" lS) (T:Txt mg):Has P w K mg base 1 "moved" ["picture","move"] (spP K pB):=by
 refine bA S lT (by walk_at "2") (by walk_at "L") fun f cdv A outer s H E hr=>⟨_,_,(ah (gY (ae 1 (pv 1)) (bF (n:=2) rfl rfl (az (aq (ao (i:=2) lT.nd rfl (Kr rfl) (IW rfl))) (az (aq (ao (i:=3) lT.nd rfl (Kr rfl) (IW rfl))) bf))))
  (ak (ay (aH (bM (tg:=["x","y"]) (cs:=["dx","dy"]) (ix:=[2,3]) (aP (aj lS) ["picture","move","dx","dy"] (by decide +kernel)) rfl (bL (by decide) (by decide)) (by decide) (bq rfl (ae 0 (pv 0))) (fun _ _ _ _=>(bF (n:=2) rfl rfl (az (aq (ao (i:=0) (show (["x","y","dx","dy"]:List Str).Nodup by decide +kernel) rfl (IW rfl) (by first | exact IW rfl | exact Kr rfl))) (az (aq (ao (i:=1) (show (["x","y","dx","dy"]:List Str).Nodup by decide +kernel) rfl (IW rfl) (by first | exact IW rfl | exact Kr rfl))) bf)))) (fun _ _ _ _=>bY) (fun _ _ _ _=>(ai (aa (au aS aC (ae 0 (pv 0)) (ae 2 (pv 2))) (aa (au aS aC (ae 1 (pv 1)) (ae 3 (pv 3))) af))))))))),?_⟩
 rintro ds R ⟨mss,dx,dy,rfl,hp,q⟩
 walk_at "sl"
 walk_at "rd"
 refine comp_map (f:=fun m=>eT (mv dx dy m)) (by have:=hp.2;lia) (fun m hm A B hA=>?_) ?_
 ·obtain ⟨x,y,rfl⟩:=hp.1 m hm
  dsimp only [bz,JP,Jd,JW,JU,J6]
  walk_at "rd"
  exact hA _ rfl
 ·walk_at "rd"
  rw [show mss.map (fun m=>eT (mv dx dy m))=(mss.map (mv dx dy)).map eT by rw [Jt];rfl]
  exact q
theorem Ex (S:Src K mg "box_of" jM) (T:Txt mg):Has P w K mg base 1 "box_of" ["picture"] (spP K HM):=by
 refine bA S iT (by walk_at "1") (by walk_at "L") fun f cdv A outer s H E hr=>⟨_,_,(ah (aR (cK (um rfl (ae 0 (pv 0)))) (ak (ay je)) aD)
  (ah (jm (ii:=1) (tg:=["x","y"]) (cs:=[]) (ix:=[]) iT.nd rfl (IW rfl) (IW rfl) (aP (aj jM) ["picture","columns","rows","left","top"] (by decide +kernel)) rfl (bL (by decide) (by decide)) (by decide) (bq rfl (ae 0 (pv 0))) (fun _ _ _ _=>(bF (n:=2) rfl rfl (az (aq (ao (i:=0) (show (["x","y"]:List Str).Nodup by decide +kernel) rfl (IW rfl) (by first | exact IW rfl | exact Kr rfl))) (az (aq (ao (i:=1) (show (["x","y"]:List Str).Nodup by decide +kernel) rfl (IW rfl) (by first | exact IW rfl | exact Kr rfl))) bf)))) (fun _ _ _ _=>bY) (fun _ _ _ _=>(aK (ae 0 (pv 0)))))
  (ah (jm (ii:=2) (tg:=["x","y"]) (cs:=[]) (ix:=[]) iT.nd rfl (IW rfl) (IW rfl) (aP (aj jM) ["picture","columns","rows","left","top"] (by decide +kernel)) rfl (bL (by decide) (by decide)) (by decide) (bq rfl (ae 0 (pv 0))) (fun _ _ _ _=>(bF (n:=2) rfl rfl (az (aq (ao (i:=0) (show (["x","y"]:List Str).Nodup by decide +kernel) rfl (IW rfl) (by first | exact IW rfl | exact Kr rfl))) (az (aq (ao (i:=1) (show (["x","y"]:List Str).Nodup by decide +kernel) rfl (IW rfl) (by first | exact IW rfl | exact Kr rfl))) bf)))) (fun _ _ _ _=>bY) (fun _ _ _ _=>(aK (ae 1 (pv 1)))))
  (ah (yq (fun _ h=>BY (i:=3) (j:=4) rfl iT.nd rfl rfl (by decide) rfl rfl h rfl) (aa (aO (uj (K:=K) rfl rfl) lB (by rfl) T.min_ tW (aa (ae 1 (pv 1)) af)) (aa (aO (uj (K:=K) rfl rfl) lB (by rfl) T.min_ tW (aa (ae 2 (pv 2)) af)) af)))
  (ak (ay (ai (aa (aK (ae 3 (pv 3))) (aa (aK (ae 4 (pv 4))) (aa (au aS aC (au bj aC (aO (uk (K:=K) rfl rfl) lB (by rfl) T.max_ oz (aa (ae 1 (pv 1)) af)) (ae 3 (pv 3))) ab) (aa (au aS aC (au bj aC (aO (uk (K:=K) rfl rfl) lB (by rfl) T.max_ oz (aa (ae 2 (pv 2)) af)) (ae 4 (pv 4))) ab) af))))))))))),?_⟩
 rintro ds R ⟨mss,rfl,hp,q1,q2⟩
 walk_at "sl"
 walk_at "rd"
 by_cases h0:mss=[]
 ·subst h0
  refine lE (d:=eL []) (b:=false) rfl rfl ?_
  walk_at "rc"
  exact q1 rfl
 ·have e0:tru (eL mss)=some true:=by cases mss with | nil=>exact absurd rfl h0 | cons a r=>rfl
  have n1:mss.map fs≠[]:=by simpa using h0
  have n2:mss.map sn≠[]:=by simpa using h0
  refine lE (d:=eL mss) (b:=true) rfl e0 ?_
  walk_at "rc"
  refine comp_map (f:=fun m=>.int (fs m)) (by have:=hp.2;lia) (fun m hm A B hA=>?_) ?_
  ·obtain ⟨x,y,rfl⟩:=hp.1 m hm
   dsimp only [bz,JP,Jd,JW,JU,J6]
   walk_at "rd"
   exact hA _ rfl
  walk_at "rd"
  refine comp_map (f:=fun m=>.int (sn m)) (by have:=hp.2;lia) (fun m hm A B hA=>?_) ?_
  ·obtain ⟨x,y,rfl⟩:=hp.1 m hm
   dsimp only [bz,JP,Jd,JW,JU,J6]
   walk_at "rd"
   exact hA _ rfl
  walk_at "rd"
  rw [show mss.map (fun m=>D.int (fs m))=(mss.map fs).map D.int by rw [Jt];rfl,show mss.map (fun m=>D.int (sn m))=(mss.map sn).map D.int by rw [Jt];rfl]
  refine lF n1 fun M1 h1 h2=>?_
  obtain rfl:=lH h1 h2
  walk_at "rd"
  refine lF n2 fun M2 h3 h4=>?_
  obtain rfl:=lH h3 h4
  walk_at "rd"
  refine lF n1 fun M3 h5 h6=>?_
  obtain rfl:=wK h5 h6
  walk_at "rd"
  refine lF n2 fun M4 h7 h8=>?_
  obtain rfl:=wK h7 h8
  walk_at "rd"
  exact q2 h0
theorem sF (S:Src K mg "at_nought" ik) (T:Txt mg) (e19_:Has P w K mg base 1 "box_of" ["picture"] (spP K HM)) (e5_:Has P w K mg base 1 "moved" ["picture","move"] (spP K pB)):Has P w K mg base 2 "at_nought" ["picture"] (spP K qM):=by
 refine bA S jN (by walk_at "1") (by walk_at "L") fun f cdv A outer s H E hr=>⟨_,_,(ah (aI (i:=1) jN.nd rfl (IW rfl) (aY e19_ hr (aa (ae 0 (pv 0)) af)))
  (ah (aR (aG B2 Fp (ae 1 (pv 1)) je (aB _)) (ak (ay (aH (aN af)))) aD)
  (ak (ay (aY e5_ hr (aa (ae 0 (pv 0)) (aa (ai (aa (b8 bB (aF rfl (ae 1 (pv 1)) ab (fun _ _=>rfl))) (aa (b8 bB (aF rfl (ae 1 (pv 1)) ab (fun _ _=>rfl))) af))) af))))))),?_⟩
 rintro ds R ⟨mss,rfl,hp,q⟩
 walk_at "sl"
 walk_at "rd"
 refine ⟨mss,rfl,hp,fun h=>?_,fun h=>?_⟩
 ·subst h
  walk_at "rc"
  exact q
 ·walk_at "rc"
  refine ⟨mss,_,_,rfl,hp,?_⟩
  walk_at "rd"
  exact q
theorem HN (S:Src K mg "move_between" dZ) (T:Txt mg):Has P w K mg base 1 "move_between" ["one","other"] (spP K pMB):=by
 refine bA S j9 (by walk_at "2") (by walk_at "L") fun f cdv A outer s H E hr=>⟨_,_,(ak (ay (ai (aa (au bj aC (aF rfl (aF rfl (ae 1 (pv 1)) ab (fun _ _=>rfl)) ab (fun _ _=>rfl)) (aF rfl (aF rfl (ae 0 (pv 0)) ab (fun _ _=>rfl)) ab (fun _ _=>rfl))) (aa (au bj aC (aF rfl (aF rfl (ae 1 (pv 1)) ab (fun _ _=>rfl)) ab (fun _ _=>rfl)) (aF rfl (aF rfl (ae 0 (pv 0)) ab (fun _ _=>rfl)) ab (fun _ _=>rfl))) af))))),?_⟩
 rintro ds R ⟨a,b,rfl,ha,hb,pa,pb,q⟩
 match a,b,ha,hb,pa,pb,q with
 | c::a,d::b,_,_,pa,pb,q=>
  obtain ⟨x,y,rfl⟩:=pa.1 c IQ
  obtain ⟨u,v,rfl⟩:=pb.1 d IQ
  walk_at "sl"
  walk_at "rd"
  refine aZ rfl rfl (bu (xs:=([u,v]::b).map eT) (j:=0) rfl) ?_
  walk_at "rd"
  refine aZ rfl rfl (bu (xs:=([x,y]::a).map eT) (j:=0) rfl) ?_
  walk_at "rd"
  refine aZ rfl rfl (bu (xs:=([u,v]::b).map eT) (j:=0) rfl) ?_
  walk_at "rd"
  refine aZ rfl rfl (bu (xs:=([x,y]::a).map eT) (j:=0) rfl) ?_
  walk_at "rd"
  exact q
theorem Ey (S:Src K mg "key_of" o4) (T:Txt mg) (e18_:Has P w K mg base 2 "at_nought" ["picture"] (spP K qM)):Has P w K mg base 3 "key_of" ["picture"] (spP K Ew):=by
 refine bA S zO (by walk_at "1") (by walk_at "L") fun f cdv A outer s H E hr=>⟨_,_,(ak (ay (fH rfl (by rfl) T.tuple_ (aa (aY e18_ hr (aa (ae 0 (pv 0)) af)) af)))),?_⟩
 rintro ds R ⟨mss,rfl,hp,q⟩
 walk_at "sl"
 walk_at "rd"
 refine ⟨mss,rfl,hp,?_⟩
 walk_at "rd"
 refine lA rfl (dG _) ?_
 walk_at "rd"
 exact q
theorem zY (S:Src K mg "fate" we) (T:Txt mg) (e1_:Has P w K mg base 2 "refuse_loud" ["rule"] (spP K nP)) (e2_:Has P w K mg base 4 "next_turn" ["rule","picture"] (spP K pNx)) (e4_:Has P w K mg base 3 "key_of" ["picture"] (spP K Ew)) (e9_:Has P w K mg base 1 "move_between" ["one","other"] (spP K pMB)):Has P w K mg base 5 "fate" ["rule","picture","most"] (spP K Bw):=by
 refine bA S eS (by walk_at "3") (by walk_at "L") fun f cdv A outer s H E hr=>⟨_,_,(ah (de (aY e1_ hr (aa (ae 0 (pv 0)) af)))
  (ah (zz 3 (fun _ h=>bU (i:=3) eS.nd rfl (IW rfl) h))
  (ah (aI (i:=4) eS.nd rfl (IW rfl) (ae 1 (pv 1)))
  (ah (cA Kb rfl (b9 rfl T.range (aa (au aS aC (ae 2 (pv 2)) ab) af)) (aq (ao (i:=5) eS.nd rfl (IW rfl) (IW rfl))) (ah (aR (aG d8 aC (ae 5 (pv 5)) ab (aB _)) (ak (aI (i:=4) eS.nd rfl (IW rfl) (aY e2_ hr (aa (ae 0 (pv 0)) (aa (ae 4 (pv 4)) af))))) aD)
  (ah (aR (cK (um rfl (ae 4 (pv 4)))) (ak (ay (ai (aa bV (aa (aK (ae 5 (pv 5))) af))))) aD)
  (ah (aI (i:=6) eS.nd rfl (IW rfl) (aY e4_ hr (aa (ae 4 (pv 4)) af)))
  (ah (aR (D9 3 rfl hr.units (pv 3) (ae 6 (pv 6))) (ah (gY (Ea 3 rfl hr.units (pv 3) (ae 6 (pv 6)) (fun _ _=>rfl)) (bF (n:=2) rfl rfl (az (aq (ao (i:=7) eS.nd rfl (IW rfl) (IW rfl))) (az (aq (ao (i:=8) eS.nd rfl (IW rfl) (IW rfl))) bf))))
  (ak (ay (ai (aa bV (aa (aK (ae 7 (pv 7))) (aa (au bj aC (ae 5 (pv 5)) (ae 7 (pv 7))) (aa (aY e9_ hr (aa (ae 8 (pv 8)) (aa (ae 4 (pv 4)) af))) af)))))))) aD)
  (ak (zA 3 rfl hr.units (pv 3) (ai (aa (ae 5 (pv 5)) (aa (ae 4 (pv 4)) af))) (ae 6 (pv 6)))))))))
  (ak (ay (ai (aa bV af)))))))),?_⟩
 rintro ds R ⟨k,bo,st,xs,T',rfl,hk,h0,hT,fit,q⟩
 walk_at "sl"
 walk_at "rd"
 refine ⟨k,bo,st,rfl,h0,?_⟩
 walk_at "rd"
 refine gh (fun i S=>Un (fun m=>aft k bo st m xs) i/\∃v5 v6 v7 v8,S=[.val (rl k bo st),.val (eL xs),.val (.int T'),od2 (kvf (fun m=>aft k bo st m xs) i),.val (eL (aft k bo st (i-1) xs)),v5,v6,v7,v8]) ⟨⟨fun _ h=>absurd h (Kn _),fun _ _ _ h=>absurd h (Kn _)⟩,_,_,_,_,rfl⟩ ?_ ?_
 ·rintro i S2 hi ⟨un,v5,v6,v7,v8,rfl⟩
  have hi':i<=T':=by lia
  walk_at "rd"
  refine p8 (fun S'=>S'=[.val (rl k bo st),.val (eL xs),.val (.int T'),od2 (kvf (fun m=>aft k bo st m xs) i),.val (eL (aft k bo st i xs)),.val (.int (0+(i:Int))),v6,v7,v8]) ?_ ?_ ?_
  ·rintro S' rfl
   have pc:=fit i hi' un
   walk_at "rd"
   rw [Qg]
   by_cases he:aft k bo st i xs=[]
   ·refine lE (d:=eL (aft k bo st i xs)) (b:=false) rfl (by rw [he];rfl) ?_
    walk_at "rc"
    exact q (.gone i) (.inl ⟨i,hi',un,he,rfl⟩)
   ·refine lE (d:=eL (aft k bo st i xs)) (b:=true) rfl (by cases hc:aft k bo st i xs with | nil=>exact absurd hc he | cons a r=>rfl) ?_
    walk_at "rc"
    refine ⟨_,rfl,pc,?_⟩
    walk_at "rd"
    refine Eb (kvs:=kvf (fun m=>aft k bo st m xs) i) (ms:=aM (aft k bo st i xs)) rfl rfl ?_
    by_cases hin:aM (aft k bo st i xs)∈(kvf (fun m=>aft k bo st m xs) i).map (·.1)
    ·obtain ⟨m,hm,e1,e2⟩:=zW hin
     rw [decide_eq_true hin]
     walk_at "rc"
     refine Ec (kvs:=kvf (fun m=>aft k bo st m xs) i) (ms:=aM (aft k bo st i xs)) rfl rfl e2 ?_
     walk_at "rc"
     refine ⟨_,_,rfl,un.1 m hm,he,fit m (by lia) (un.le (by lia)),pc,?_⟩
     walk_at "rc"
     exact q (.comes m ((i:Int)-m) _) (.inr (.inl ⟨i,m,hi',hm,un,he,e1,rfl⟩))
    ·rw [decide_eq_false hin]
     walk_at "rc"
     refine vR (kvs:=kvf (fun m=>aft k bo st m xs) i) (ms:=aM (aft k bo st i xs)) rfl rfl (by unfold kvf;rw [IR,Kj];lia) ?_
     dsimp only [JM,JN]
     have ep:=zX (f:=fun m=>aft k bo st m xs) hin
     exact ⟨un.succ he hin,_,_,_,_,by rw [<- ep];rfl⟩
  ·intro nx hnx c1
   have pc:=fit (i-1) (by lia) (un.le (by lia))
   walk_at "rd"
   refine ⟨k,bo,st,_,rfl,hk,h0,pc.1,by have:=pc.2;lia,?_⟩
   walk_at "rd"
   rw [show My.nx k bo st (aft k bo st (i-1) xs)=aft k bo st i xs by obtain ⟨j,rfl⟩:∃j,i=j+1:=⟨i-1,by lia⟩;rfl]
   exact hnx _ rfl
  ·intro nx hnx c1
   obtain rfl:i=0:=by lia
   walk_at "rd"
   exact hnx _ rfl
 ·rintro S2 ⟨un,v5,v6,v7,v8,rfl⟩
  walk_at "rd"
  exact q .on (.inr (.inr ⟨by rwa [show T'+1=((T':Int)+1-0).toNat by lia],rfl⟩))
end
end My
namespace My
open PySem L2 VL
theorem qN {a:Int} (h:ns≠[]):mnI (ns.map (·+a))=mnI ns+a:=by
 symm
 refine lH (List.mem_map.mpr ⟨_,lG h,rfl⟩) fun b hb=>?_
 obtain ⟨c,hc,rfl⟩:=List.mem_map.mp hb
 have:=oD hc
 show _<=c+a
 lia
theorem cC {l:List (List Int)} {a b:Int} (h:∀m∈l,Pr m):aM (l.map (mv a b))=aM l:=by
 by_cases h0:l=[]
 ·subst h0;rfl
 ·have e1:(l.map (mv a b)).map fs=(l.map fs).map (·+a):=by
   rw [Jt,Jt]
   refine JL fun m hm=>?_
   obtain ⟨x,y,rfl⟩:=h m hm
   rfl
  have e2:(l.map (mv a b)).map sn=(l.map sn).map (·+b):=by
   rw [Jt,Jt]
   refine JL fun m hm=>?_
   obtain ⟨x,y,rfl⟩:=h m hm
   rfl
  unfold aM
  rw [e1,e2,qN (by simpa using h0),qN (by simpa using h0),Jt]
  refine JL fun m hm=>?_
  obtain ⟨x,y,rfl⟩:=h m hm
  show [_,_]=[_,_]
  congr 1
  ·lia
  ·congr 1
   lia
theorem sG {b:List (List Int)} (hb:∀m∈b,Pr m):(aM b).map (mv (mnI (b.map fs)) (mnI (b.map sn)))=b:=by
 unfold aM
 rw [Jt]
 conv=>rhs;rw [<- List.map_id b]
 refine JL fun m hm=>?_
 obtain ⟨x,y,rfl⟩:=hb m hm
 show [_,_]=[x,y]
 congr 1
 ·lia
 ·congr 1
  lia
def mvd (a b:List (List Int)):List Int->List Int:=mv (fs (b.headD [])-fs (a.headD [])) (sn (b.headD [])-sn (a.headD []))
theorem iZ {a b:List (List Int)} (ha:∀m∈a,Pr m) (hb:∀m∈b,Pr m) (na:a≠[]):aM a=aM b↔a.map (mvd a b)=b:=by
 constructor
 ·intro h
  have h1:=sG hb
  rw [<- h] at h1
  have h2:a.map (mv (mnI (b.map fs)-mnI (a.map fs)) (mnI (b.map sn)-mnI (a.map sn)))=b:=by
   refine Eq.trans ?_ h1
   unfold aM
   rw [Jt]
   refine JL fun m hm=>?_
   obtain ⟨x,y,rfl⟩:=ha m hm
   show [_,_]=[_,_]
   congr 1
   ·lia
   ·congr 1
    lia
  match a,na with
  | c::a,_=>
   obtain ⟨x,y,rfl⟩:=ha c IQ
   have h3:mvd ([x,y]::a) b=mv (mnI (b.map fs)-mnI (([x,y]::a).map fs)) (mnI (b.map sn)-mnI (([x,y]::a).map sn)):=by
    unfold mvd
    generalize hM:mnI (b.map fs)-mnI (([x,y]::a).map fs)=M at h2 ⊢
    generalize hN:mnI (b.map sn)-mnI (([x,y]::a).map sn)=N at h2 ⊢
    rw [<- h2]
    show mv (x+M-x) (y+N-y)=_
    congr 1 <;> lia
   rw [h3]
   exact h2
 ·intro h
  rw [<- h]
  exact (cC ha).symm
abbrev Rw:=List (List (List Int))
def eR (rss:Rw):D:=.lst (rss.map eL)
def Tn (k:Int) (bo st:List Int) (rss:Rw):Prop:=∀(i:Nat) a b,rss[i]?=some a->rss[i+1]?=some b->nx k bo st a=b
def Lv (rss:Rw):Prop:=(∀r∈rss,r≠[])/\(rss.map aM).Nodup
def Pcs (rss:Rw):Prop:=(∀r∈rss,Pc r)/\rss.length<=900
def pAt:List D->(D->Prop)->Prop:=fun ds R=>∃k bo st rss,ds=[rl k bo st,eR rss]/\Kd k/\0∉bo/\Pcs rss/\Tn k bo st rss/\R (.bl true)
def HP:List D->(D->Prop)->Prop:=fun ds R=>∃rss,ds=[eR rss]/\Pcs rss/\Lv rss/\R (.bl true)
def Ends (rss:Rw):Ft->Prop
 | .on=>Lv rss
 | .gone t=>∃ys:Rw,rss=ys++[[]]/\t=(ys.length:Int)/\∀r∈ys,r≠[]
 | .comes m n v=>∃(ys:Rw) (z a:List (List Int)) (i:Nat),rss=ys++[z]/\m=(i:Int)/\n=(ys.length:Int)-(i:Int)/\ys[i]?=some a/\Lv ys/\v=mvb a z/\a.map (mvd a z)=z
def Shw (rss:Rw) (x:Ft):Prop:=∃(ys:Rw) (z:List (List Int)),rss=ys++[z]/\((z=[]/\x=.gone (ys.length:Int))\/(z≠[]/\(∀a∈ys,a.map (mvd a z)≠z)/\x=.on) \/
 (z≠[]/\∃(i:Nat) (a:List (List Int)),ys[i]?=some a/\x=.comes (i:Int) ((ys.length:Int)-(i:Int)) (mvb a z)/\a.map (mvd a z)=z))
theorem wO {α:Type} {xs ys:List α} {a b:α} (h:xs++[a]=ys++[b]):xs=ys/\a=b:=by
 obtain ⟨h1,h2⟩:=List.append_inj' h rfl
 exact ⟨h1,by simpa using h2⟩
theorem Pcs.sub {rss tss:Rw} (h:Pcs rss) (s:tss.Sublist rss):Pcs tss:=⟨fun r hr=>h.1 r (s.mem hr),KB s.length_le h.2⟩
def Bx:List D->(D->Prop)->Prop:=fun ds R=>∃rss x,ds=[eR rss,fE x]/\Pcs rss/\Ends rss x/\R (.bl true)
def wQ:List D->(D->Prop)->Prop:=fun ds R=>∃k bo st rss x,ds=[rl k bo st,eR rss,fE x]/\Kd k/\0∉bo/\Pcs rss/\Tn k bo st rss/\Ends rss x/\R (.bl true)
def By:List D->(D->Prop)->Prop:=fun ds R=>∃a b,ds=[eL a,eL b]/\b≠[]/\Pc a/\Pc b/\(a.map (mvd a b)=b->R (eT (mvb a b)))/\(a.map (mvd a b)≠b->R .non)
def pC:List D->(D->Prop)->Prop:=fun ds R=>∃rss,ds=[eR rss]/\rss≠[]/\Pcs rss/\∀x,Shw rss x->R (fE x)
theorem wR (ds:List D):cutD ds (some 1) none=ds.tail:=by
 unfold cutD
 cases ds with
 | nil=>rfl
 | cons d r=>
  have e1:HT.sIx (d::r).length 0 (some 1)=1:=by simp [HT.sIx]
  have e2:HT.sIx (d::r).length (d::r).length none=r.length+1:=by simp [HT.sIx]
  rw [e1,e2]
  simp
theorem Ez {rss:Rw} {i:Nat} (h:(zpD (rss.map eL) (rss.tail.map eL))[i]?=some d):∃a b,rss[i]?=some a/\rss[i+1]?=some b/\d=.tup [eL a,eL b]:=by
 unfold zpD at h
 rw [Jh] at h
 obtain ⟨x,hx,rfl⟩:=Option.map_eq_some_iff.mp h
 obtain ⟨h1,h2⟩:=List.getElem?_zip_eq_some.mp hx
 rw [Jh] at h1 h2
 obtain ⟨a,ha,e1⟩:=Option.map_eq_some_iff.mp h1
 obtain ⟨b,hb,e2⟩:=Option.map_eq_some_iff.mp h2
 rw [List.getElem?_tail] at hb
 exact ⟨a,b,ha,hb,by rw [e1,e2]⟩
section
variable {P:Jp} {w:JQ} {K:IJ} {mg:Str->Option IP} {base:Heap}
theorem HQ (S:Src K mg "are_turns" ir) (T:Txt mg) (e2_:Has P w K mg base 4 "next_turn" ["rule","picture"] (spP K pNx)):Has P w K mg base 5 "are_turns" ["rule","rows"] (spP K pAt):=by
 refine bA S fO (by walk_at "2") (by walk_at "L") fun f cdv A outer s H E hr=>⟨_,_,(ah (cA Kb rfl (D2 rfl (by rfl) T.zip_ (aa (ae 1 (pv 1)) (aa (oX rfl (ae 1 (pv 1)) (gm ab) lC) af))) (bF (n:=2) rfl rfl (az (aq (ao (i:=2) fO.nd rfl (IW rfl) (IW rfl))) (az (aq (ao (i:=3) fO.nd rfl (IW rfl) (IW rfl))) bf))) (ak (aR (aG (fI (K:=K) rfl hr.units) dI (aY e2_ hr (aa (ae 0 (pv 0)) (aa (ae 2 (pv 2)) af))) (ae 3 (pv 3)) (aB _)) (ak (ay cG)) aD)))
  (ak (ay cG))),?_⟩
 rintro ds R ⟨k,bo,st,rss,rfl,hk,h0,hp,ht,q⟩
 walk_at "sl"
 walk_at "rd"
 unfold eR
 walk_at "rd"
 refine D3 ?_
 rw [wR,<- List.map_tail]
 refine eJ (fun _ S2=>∃a b,S2=[.val (rl k bo st),.val (.lst (rss.map eL)),a,b]) ⟨_,_,rfl⟩ (fun i d S2 hd ⟨x,y,e⟩=>?_) (fun S2 ⟨_,_,e⟩=>?_)
 ·subst e
  obtain ⟨a,b,ha,hb,rfl⟩:=Ez hd
  refine FS rfl ?_
  walk_at "rd"
  have pa:=hp.1 a (Jy ha)
  refine ⟨k,bo,st,a,rfl,hk,h0,pa.1,by have:=pa.2;lia,?_⟩
  walk_at "rd"
  refine js cL (ht i a b ha hb) ?_
  walk_at "rc"
  exact ⟨_,_,rfl⟩
 ·subst e
  walk_at "rd"
  exact q
theorem HR (S:Src K mg "all_live_unlike" cz) (T:Txt mg) (e4_:Has P w K mg base 3 "key_of" ["picture"] (spP K Ew)):Has P w K mg base 4 "all_live_unlike" ["rows"] (spP K HP):=by
 refine bA S iJ (by walk_at "1") (by walk_at "L") fun f cdv A outer s H E hr=>⟨_,_,(ak (ay (jg (aO (wb rfl) wd (by rfl) T.all_ tX (aa (ae 0 (pv 0)) af)) (jf (cT bW dr (wa (tg:=["row"]) (cs:=[]) (ix:=[]) rfl hr.units (by rfl) T.len_ (aP (aj cz) ["rows"] (by decide +kernel)) rfl (bQ (by decide)) (by decide) (bq rfl (ae 0 (pv 0))) (fun _ _ _ _=>(aq (ao (i:=0) (show (["row"]:List Str).Nodup by decide +kernel) rfl (IW rfl) (by first | exact IW rfl | exact Kr rfl)))) (fun _ _ _ _=>bY) (fun _ _ _ _=>(aY e4_ hr (aa (ae 0 (pv 0)) af)))) (aO (ef (K:=K) rfl) d9 (by rfl) T.len_ ck (aa (ae 0 (pv 0)) af)) (aB _)))))),?_⟩
 rintro ds R ⟨rss,rfl,hp,⟨hl,hn⟩,q⟩
 walk_at "sl"
 walk_at "rd"
 have e1:(rss.map fun r=>r.map eT).all (fun d=>!d.isEmpty)=true:=by
  rw [List.all_map,LZ]
  intro r hr
  have:=hl r hr
  cases r with
  | nil=>exact absurd rfl this
  | cons _ _=>rfl
 refine ⟨rss.map fun r=>r.map eT,by simp [eR],?_⟩
 rw [e1]
 walk_at "rc"
 refine ⟨rss.map eL,rfl,by have:=hp.2;simp;lia,fun i cs S2=>cs=(rss.take i).map aM/\S2=[.val (eR rss)],⟨rfl,rfl⟩,fun i d cs S2 hd hI=>?_,fun cs S2 hI=>?_⟩
 ·obtain ⟨rfl,rfl⟩:=hI
  rw [Jh] at hd
  obtain ⟨a,ha,rfl⟩:=Option.map_eq_some_iff.mp hd
  refine ⟨Jn rfl,?_⟩
  dsimp only [tS]
  rw [if_pos rfl]
  walk_at "rd"
  refine ⟨a,rfl,hp.1 a (Jy ha),?_⟩
  refine ⟨aM a,rfl,?_,rfl⟩
  have hi:=(List.getElem?_eq_some_iff.mp ha).1
  have et:rss.take (i+1)=rss.take i++[a]:=by
   rw [List.take_succ,ha];rfl
  rw [et,Jc]
  have hn':=((PM (i+1) rss).map aM).nodup hn
  rw [et,Jc,Lr] at hn'
  unfold oW
  rw [if_neg fun z=>hn'.2.2 _ z _ (List.mem_singleton.mpr rfl) rfl]
  rfl
 ·obtain ⟨rfl,rfl⟩:=hI
  walk_at "rd"
  have e2:((rss.take (rss.map eL).length).map aM).length=(rss.map eL).length:=by simp
  rw [e2]
  change Cr [.lst (rss.map eL)] _
  walk_at "rd"
  rw [decide_eq_true rfl]
  exact q
end
end My
namespace My
open PySem L2 VL
def c9 (i:Nat):List Int:=[(0+(i:Int)) / 3,(0+(i:Int))%3]
section
variable {P:Jp} {w:JQ} {K:IJ} {mg:Str->Option IP} {base:Heap}
theorem sH (S:Src K mg "_law_number" jR) (T:Txt mg) (e0_:Has P w K mg base 1 "_law_draw" ["_law_pen_here","_law_many"] (spI K 0 gN)):Has P w K mg base 2 "_law_number" ["_law_pen_here"] (spI K 0 qK):=by
 refine kC 0 S kU (by walk_at "1") (by walk_at "L") fun f cdv A outer s H E hr=>⟨_,_,(ah (aI (i:=1) kU.nd rfl (IW rfl) (aU e0_ hr (aa (ae 0 (pv 0)) (aa ab af))))
  (ah (aR (aG i4 aC (ae 1 (pv 1)) ab (aB _)) (ak (ay (au bj aC (aU e0_ hr (aa (ae 0 (pv 0)) (aa ab af))) ab))) aD)
  (ah (aR (aG bW dr (ae 1 (pv 1)) ab (aB _)) (ak (ay (au bj aC (aU e0_ hr (aa (ae 0 (pv 0)) (aa (au cQ bE ab ab) af))) (au b0 bE ab (au cQ bE ab ab))))) aD)
  (ak (ay (au b0 bE (au bj aC (au bj aC (au cQ bE ab ab) ab) (aU e0_ hr (aa (ae 0 (pv 0)) (aa ab af)))) (au bj aC ab (au b0 bE ab (aU e0_ hr (aa (ae 0 (pv 0)) (aa ab af))))))))))),?_⟩
 rintro a pn ds es R hl ⟨b,e,hpn,hb,q⟩
 obtain rfl:ds=[]:=Kg hl
 obtain rfl:es=[]:=e
 walk_at "sl"
 walk_at "rd"
 refine ⟨b,12,rfl,hpn,by lia,by decide,by decide,fun pn1 r1 h1 r1a r1b=>?_⟩
 walk_at "rd"
 refine bH (fun c1=>?_) (fun c1=>?_)
 ·walk_at "rd"
  refine ⟨b+1,9,rfl,h1,by lia,by decide,by decide,fun pn2 r2 h2 r2a r2b=>?_⟩
  walk_at "rd"
  exact ⟨_,rfl,q _ _ (h2.le (by lia))⟩
 ·walk_at "rd"
  refine bH (fun c2=>?_) (fun c2=>?_)
  ·walk_at "rd"
   refine ⟨b+1,1000000000,rfl,h1,by lia,by decide,by decide,fun pn2 r2 h2 r2a r2b=>?_⟩
   walk_at "rd"
   exact ⟨_,rfl,q _ _ (h2.le (by lia))⟩
  ·walk_at "rd"
   refine ⟨b+1,3,rfl,h1,by lia,by decide,by decide,fun pn2 r2 h2 r2a r2b=>?_⟩
   walk_at "rd"
   refine ⟨b+2,2,rfl,h2,by lia,by decide,by decide,fun pn3 r3 h3 r3a r3b=>?_⟩
   walk_at "rd"
   exact ⟨_,rfl,q _ _ (h3.le (by lia))⟩
theorem zZ (S:Src K mg "_law_rule" jS) (T:Txt mg) (e0_:Has P w K mg base 1 "_law_draw" ["_law_pen_here","_law_many"] (spI K 0 gN)):Has P w K mg base 2 "_law_rule" ["_law_pen_here"] (spI K 0 Bu):=by
 refine kC 0 S gI (by walk_at "1") (by walk_at "L") fun f cdv A outer s H E hr=>⟨_,_,(ah (aI (i:=1) gI.nd rfl (IW rfl) (aF rfl (aH (aN (aa ab (aa ab (aa ab af))))) (aU e0_ hr (aa (ae 0 (pv 0)) (aa ab af))) (fun _ _=>rfl)))
  (ah (aR (aG d8 aC (aU e0_ hr (aa (ae 0 (pv 0)) (aa ab af))) ab (aB _)) (ah (aI (i:=2) gI.nd rfl (IW rfl) (uY (by decide) (aH (aN (aa (ai (aa ab af)) (aa (ai (aa ab af)) (aa (ai (aa ab (aa ab af))) af))))) (aH (aN (aa (ai (aa ab af)) (aa (ai (aa ab (aa ab af))) (aa (ai (aa ab (aa ab af))) af))))) (aH (aN (aa (ai (aa ab af)) (aa (ai (aa ab af)) (aa (ai (aa ab (aa ab af))) af))))) (ae 1 (pv 1)) (fun _ _=>rfl)))
  (ah (aI (i:=3) gI.nd rfl (IW rfl) (uY (by decide) (aH (aN (aa (ai af) (aa (ai (aa ab (aa ab af))) (aa (ai (aa ab (aa ab af))) af))))) (aH (aN (aa (ai (aa ab (aa ab af))) (aa (ai af) (aa (ai (aa ab af)) af))))) (aH (aN (aa (ai (aa ab (aa ab af))) (aa (ai af) (aa (ai (aa ab (aa ab af))) af))))) (ae 1 (pv 1)) (fun _ _=>rfl)))
  (ak (ay (ai (aa (aK (ae 1 (pv 1))) (aa (aK (aF rfl (ae 2 (pv 2)) (aU e0_ hr (aa (ae 0 (pv 0)) (aa ab af))) (fun _ _=>rfl))) (aa (aK (aF rfl (ae 3 (pv 3)) (aU e0_ hr (aa (ae 0 (pv 0)) (aa ab af))) (fun _ _=>rfl))) af)))))))) aD)
  (ah (aI (i:=2) gI.nd rfl (IW rfl) (fH rfl (by rfl) T.tuple_ (aa (aH (bM (tg:=["_law_count"]) (cs:=["_law_pen_here"]) (ix:=[0]) (aP (aj jS) ["_law_pen_here","_law_kind","_law_born","_law_stay"] (by decide +kernel)) rfl (bQ (by decide)) (by decide) (rq rfl T.range (aa ab (aa (au aS aC (ae 1 (pv 1)) ab) af))) (fun _ _ _ _=>(aq (ao (i:=0) (show (["_law_count","_law_pen_here"]:List Str).Nodup by decide +kernel) rfl (IW rfl) (by first | exact IW rfl | exact Kr rfl)))) (fun _ _ _ _=>(eX (aG bW dr (aU e0_ hr (aa (ae 1 (pv 1)) (aa ab af))) ab (aB _)))) (fun _ _ _ _=>(aK (ae 0 (pv 0)))))) af)))
  (ak (ay (ai (aa (aK (ae 1 (pv 1))) (aa (aK (ae 2 (pv 2))) (aa (fH rfl (by rfl) T.tuple_ (aa (aH (bM (tg:=["_law_count"]) (cs:=["_law_pen_here"]) (ix:=[0]) (aP (aj jS) ["_law_pen_here","_law_kind","_law_born","_law_stay"] (by decide +kernel)) rfl (bQ (by decide)) (by decide) (b9 rfl T.range (aa (au aS aC (ae 1 (pv 1)) ab) af)) (fun _ _ _ _=>(aq (ao (i:=0) (show (["_law_count","_law_pen_here"]:List Str).Nodup by decide +kernel) rfl (IW rfl) (by first | exact IW rfl | exact Kr rfl)))) (fun _ _ _ _=>(eX (aG bW dr (aU e0_ hr (aa (ae 1 (pv 1)) (aa ab af))) ab (aB _)))) (fun _ _ _ _=>(aK (ae 0 (pv 0)))))) af)) af))))))))),?_⟩
 rintro a pn ds es R hl ⟨b,e,hpn,hb,q⟩
 obtain rfl:ds=[]:=Kg hl
 obtain rfl:es=[]:=e
 walk_at "sl"
 walk_at "rd"
 refine ⟨b,3,rfl,hpn,by lia,by decide,by decide,fun pn1 r1 h1 r1a r1b=>?_⟩
 walk_at "rd"
 obtain ⟨k,hk,ek⟩:=HK r1a r1b
 have hkb:4<=k/\k<=8:=by rcases hk with rfl | rfl | rfl <;> lia
 refine aZ rfl rfl ek ?_
 walk_at "rd"
 refine ⟨b+1,3,rfl,h1,by lia,by decide,by decide,fun pn2 r2 h2 r2a r2b=>?_⟩
 walk_at "rd"
 refine bH (fun c1=>?_) (fun c1=>?_)
 ·walk_at "rd"
  rcases hk with rfl | rfl | rfl
  ·refine uZ ?_
   walk_at "rd"
   refine uZ ?_
   walk_at "rd"
   refine ⟨b+2,3,rfl,h2,by lia,by decide,by decide,fun pn3 r3 h3 r3a r3b=>?_⟩
   obtain ⟨bo,e1,z1,l1⟩:∃bo:List Int,atI [D.tup [.int 1],D.tup [.int 2],D.tup [.int 1,.int 2]] r3=some (.tup (bo.map .int))/\0∉bo/\bo.length<=20:=by
    rcases (by lia:r3=0\/r3=1\/r3=2) with e | e | e <;> rw [e]
    ·exact ⟨[1],rfl,by decide,by decide⟩
    ·exact ⟨[2],rfl,by decide,by decide⟩
    ·exact ⟨[1,2],rfl,by decide,by decide⟩
   walk_at "rd"
   refine aZ rfl rfl e1 ?_
   refine bZ (aW _) ?_
   walk_at "rd"
   refine ⟨b+3,3,rfl,h3,by lia,by decide,by decide,fun pn4 r4 h4 r4a r4b=>?_⟩
   obtain ⟨sy,e2⟩:∃sy:List Int,atI [D.tup [],D.tup [.int 1,.int 2],D.tup [.int 2,.int 3]] r4=some (.tup (sy.map .int)):=by
    rcases (by lia:r4=0\/r4=1\/r4=2) with e | e | e <;> rw [e]
    ·exact ⟨[],rfl⟩
    ·exact ⟨[1,2],rfl⟩
    ·exact ⟨[2,3],rfl⟩
   walk_at "rd"
   refine aZ rfl rfl e2 ?_
   refine bZ (aW _) ?_
   walk_at "rd"
   exact ⟨_,rfl,q 4 bo sy _ (.inl rfl) z1 l1 (h4.le (by lia))⟩
  ·refine u6 ?_
   walk_at "rd"
   refine u6 ?_
   walk_at "rd"
   refine ⟨b+2,3,rfl,h2,by lia,by decide,by decide,fun pn3 r3 h3 r3a r3b=>?_⟩
   obtain ⟨bo,e1,z1,l1⟩:∃bo:List Int,atI [D.tup [.int 2],D.tup [.int 2,.int 3],D.tup [.int 2,.int 6]] r3=some (.tup (bo.map .int))/\0∉bo/\bo.length<=20:=by
    rcases (by lia:r3=0\/r3=1\/r3=2) with e | e | e <;> rw [e]
    ·exact ⟨[2],rfl,by decide,by decide⟩
    ·exact ⟨[2,3],rfl,by decide,by decide⟩
    ·exact ⟨[2,6],rfl,by decide,by decide⟩
   walk_at "rd"
   refine aZ rfl rfl e1 ?_
   refine bZ (aW _) ?_
   walk_at "rd"
   refine ⟨b+3,3,rfl,h3,by lia,by decide,by decide,fun pn4 r4 h4 r4a r4b=>?_⟩
   obtain ⟨sy,e2⟩:∃sy:List Int,atI [D.tup [.int 3,.int 4],D.tup [],D.tup [.int 2]] r4=some (.tup (sy.map .int)):=by
    rcases (by lia:r4=0\/r4=1\/r4=2) with e | e | e <;> rw [e]
    ·exact ⟨[3,4],rfl⟩
    ·exact ⟨[],rfl⟩
    ·exact ⟨[2],rfl⟩
   walk_at "rd"
   refine aZ rfl rfl e2 ?_
   refine bZ (aW _) ?_
   walk_at "rd"
   exact ⟨_,rfl,q 6 bo sy _ (.inr (.inl rfl)) z1 l1 (h4.le (by lia))⟩
  ·refine u7 ?_
   walk_at "rd"
   refine u7 ?_
   walk_at "rd"
   refine ⟨b+2,3,rfl,h2,by lia,by decide,by decide,fun pn3 r3 h3 r3a r3b=>?_⟩
   obtain ⟨bo,e1,z1,l1⟩:∃bo:List Int,atI [D.tup [.int 3],D.tup [.int 2],D.tup [.int 3,.int 6]] r3=some (.tup (bo.map .int))/\0∉bo/\bo.length<=20:=by
    rcases (by lia:r3=0\/r3=1\/r3=2) with e | e | e <;> rw [e]
    ·exact ⟨[3],rfl,by decide,by decide⟩
    ·exact ⟨[2],rfl,by decide,by decide⟩
    ·exact ⟨[3,6],rfl,by decide,by decide⟩
   walk_at "rd"
   refine aZ rfl rfl e1 ?_
   refine bZ (aW _) ?_
   walk_at "rd"
   refine ⟨b+3,3,rfl,h3,by lia,by decide,by decide,fun pn4 r4 h4 r4a r4b=>?_⟩
   obtain ⟨sy,e2⟩:∃sy:List Int,atI [D.tup [.int 2,.int 3],D.tup [],D.tup [.int 2,.int 3]] r4=some (.tup (sy.map .int)):=by
    rcases (by lia:r4=0\/r4=1\/r4=2) with e | e | e <;> rw [e]
    ·exact ⟨[2,3],rfl⟩
    ·exact ⟨[],rfl⟩
    ·exact ⟨[2,3],rfl⟩
   walk_at "rd"
   refine aZ rfl rfl e2 ?_
   refine bZ (aW _) ?_
   walk_at "rd"
   exact ⟨_,rfl,q 8 bo sy _ (.inr (.inr rfl)) z1 l1 (h4.le (by lia))⟩
 ·walk_at "rd"
  have hvt:∀(b':Nat) (pn':List Int) (x:Int) (A:Bool->List Sl->Prop),Pn b' pn'->b'<=1000000->(∀v pn2,Pn (b'+1) pn2->A v [.val (.int x),.pen (some a) pn2])->(f9 (v2 wEq (x6 0 gN (fw (mO 1) (fw (vC (D.int 2)) ot))) (vC (D.int 0)))) [.val (.int x),.pen (some a) pn'] A:=by
   intro b' pn' x A h1 h2 h3
   walk_at "rd"
   refine ⟨b',2,rfl,h1,by lia,by decide,by decide,fun pn3 r3 h4 r3a r3b=>?_⟩
   walk_at "rd"
   exact h3 _ _ h4
  refine qJ (b:=b+2) (by lia) h2 hvt fun p1 pn4 h4=>?_
  walk_at "rd"
  refine lA rfl (iw _ _) ?_
  walk_at "rd"
  refine bZ (iw _ _) ?_
  walk_at "rd"
  refine qJ (b:=b+2+(k+1-1).toNat) (by lia) h4 hvt fun p2 pn5 h5=>?_
  walk_at "rd"
  refine lA rfl (iw _ _) ?_
  walk_at "rd"
  rw [qH,qH]
  exact ⟨_,rfl,q k _ _ _ hk (Et (by lia)) (by have:=MM p1 (JS (k+1-1).toNat);rw [Kj] at this;rw [IR];unfold fr;lia) (h5.le (by lia))⟩
theorem wU (S:Src K mg "_law_cells" iW) (T:Txt mg) (e0_:Has P w K mg base 1 "_law_draw" ["_law_pen_here","_law_many"] (spI K 0 gN)):Has P w K mg base 2 "_law_cells" ["_law_pen_here"] (spI K 0 wF):=by
 refine kC 0 S cW (by walk_at "1") (by walk_at "L") fun f cdv A outer s H E hr=>⟨_,_,(ah (aI (i:=1) cW.nd rfl (IW rfl) (aU e0_ hr (aa (ae 0 (pv 0)) (aa ab af))))
  (ah (aR (aG bW dr (ae 1 (pv 1)) ab (aB _)) (ak (ay (aH (bM (tg:=["_law_k"]) (cs:=["_law_pen_here"]) (ix:=[0]) (aP (aj iW) ["_law_pen_here","_law_way","_law_goer","_law_side","_law_cells_here","_law_k","_law_cell"] (by decide +kernel)) rfl (bQ (by decide)) (by decide) (b9 rfl T.range (aa ab af)) (fun _ _ _ _=>(aq (ao (i:=0) (show (["_law_k","_law_pen_here"]:List Str).Nodup by decide +kernel) rfl (IW rfl) (by first | exact IW rfl | exact Kr rfl)))) (fun _ _ _ _=>(eX (aG bW dr (aU e0_ hr (aa (ae 1 (pv 1)) (aa ab af))) ab (aB _)))) (fun _ _ _ _=>(ai (aa (au iL bE (ae 0 (pv 0)) ab) (aa (au cP bE (ae 0 (pv 0)) ab) af)))))))) aD)
  (ah (aR (aG bW dr (ae 1 (pv 1)) ab (aB _)) (ah (qk (i:=2) cW.nd rfl (IW rfl) (aH (aN (aa (ai (aa ab (aa ab af))) (aa (ai (aa ab (aa ab af))) (aa (ai (aa ab (aa ab af))) (aa (ai (aa ab (aa ab af))) (aa (ai (aa ab (aa ab af))) af))))))))
  (ak (ay (Dq rfl (aN (aa (dW 2 (pv 2)) (aa (aH (aN (aa (ai (aa ab (aa ab af))) (aa (ai (aa ab (aa ab af))) (aa (ai (aa ab (aa ab af))) af))))) (aa (aH (aN (aa (ai (aa ab (aa ab af))) (aa (ai (aa ab (aa ab af))) (aa (ai (aa ab (aa ab af))) (aa (ai (aa ab (aa ab af))) af)))))) (aa (aH (aN af)) af))))) (aU e0_ hr (aa (ae 0 (pv 0)) (aa ab af))) (fun _ _=>rfl))))) aD)
  (ah (aI (i:=3) cW.nd rfl (IW rfl) (au aS aC ab (aU e0_ hr (aa (ae 0 (pv 0)) (aa ab af)))))
  (ah (dS (fun _ h=>bU (i:=4) cW.nd rfl (IW rfl) h) (aN af))
  (ah (cA Kb rfl (b9 rfl T.range (aa (aU e0_ hr (aa (ae 0 (pv 0)) (aa ab af))) af)) (aq (ao (i:=5) cW.nd rfl (IW rfl) (IW rfl))) (ah (aI (i:=6) cW.nd rfl (IW rfl) (ai (aa (aU e0_ hr (aa (ae 0 (pv 0)) (aa (ae 3 (pv 3)) af))) (aa (aU e0_ hr (aa (ae 0 (pv 0)) (aa (ae 3 (pv 3)) af))) af))))
  (ak (aR (aG (kF (K:=K) rfl hr.units) pW (ae 6 (pv 6)) (ae 4 (pv 4)) (by with_unfolding_all rfl)) (ak (de (ox 4 rfl (pv 4) (aK (ae 6 (pv 6)))))) aD))))
  (ak (ay (aH (eN rfl rfl (by rfl) T.sorted_ dJ (aa (ae 4 (pv 4)) af))))))))))),?_⟩
 rintro a pn ds es R hl ⟨b,e,hpn,hb,q⟩
 obtain rfl:ds=[]:=Kg hl
 obtain rfl:es=[]:=e
 walk_at "sl"
 walk_at "rd"
 refine ⟨b,4,rfl,hpn,by lia,by decide,by decide,fun pn1 r1 h1 r1a r1b=>?_⟩
 walk_at "rd"
 refine bH (fun c1=>?_) (fun c1=>?_)
 ·walk_at "rd"
  have hvt:∀(b':Nat) (pn':List Int) (x:Int) (A:Bool->List Sl->Prop),Pn b' pn'->b'<=1000000->(∀v pn2,Pn (b'+1) pn2->A v [.val (.int x),.pen (some a) pn2])->(f9 (v2 wEq (x6 0 gN (fw (mO 1) (fw (vC (D.int 2)) ot))) (vC (D.int 0)))) [.val (.int x),.pen (some a) pn'] A:=by
   intro b' pn' x A h1 h2 h3
   walk_at "rd"
   refine ⟨b',2,rfl,h1,by lia,by decide,by decide,fun pn3 r3 h4 r3a r3b=>?_⟩
   walk_at "rd"
   exact h3 _ _ h4
  refine qI (g:=fun x=>eT [x / 3,x%3]) (b:=b+1) (by lia) h1 (fun x pn' Q h=>by walk_at "rd";exact h) hvt fun p1 pn4 h4=>?_
  walk_at "rd"
  have e9:D.lst ((fr p1 (MN 9)).map fun (i:Nat)=>eT [(0+(i:Int)) / 3,(0+(i:Int))%3])=eL ((fr p1 (MN 9)).map c9):=by
   show D.lst _=D.lst (QG eT (QG c9 _))
   congr 1
   rw [Jt]
   exact JL fun i _=>rfl
  rw [e9]
  refine ⟨_,rfl,q _ _ (fun p hp=>?_) ?_ (h4.le (by lia))⟩
  ·obtain ⟨i,_,rfl⟩:=List.mem_map.mp hp
   exact ⟨_,_,rfl⟩
  ·have:=MM p1 (JS 9)
   rw [Kj] at this
   rw [IR]
   unfold fr
   lia
 ·walk_at "rd"
  refine bH (fun c2=>?_) (fun c2=>?_)
  ·walk_at "rd"
   refine qj (Jn rfl) ?_
   dsimp only [JM,JN]
   walk_at "rd"
   refine ⟨b+1,4,rfl,h1,by lia,by decide,by decide,fun pn2 r2 h2 r2a r2b=>?_⟩
   obtain ⟨l,el,ol,hlp⟩:∃l:List (List Int),atI [eL [[0,2],[1,0],[1,2],[2,1],[2,2]],eL [[0,0],[1,0],[2,0]],eL [[0,0],[0,1],[1,0],[1,1]],eL []] r2=some (eL l)/\l.length<=11/\(∀m∈l,Pr m):=by
    rcases (by lia:r2=0\/r2=1\/r2=2\/r2=3) with e | e | e | e <;> rw [e]
    ·exact ⟨_,rfl,by decide,jW (by decide)⟩
    ·exact ⟨_,rfl,by decide,jW (by decide)⟩
    ·exact ⟨_,rfl,by decide,jW (by decide)⟩
    ·exact ⟨_,rfl,by decide,jW (by decide)⟩
   walk_at "rd"
   refine yG rfl el ?_
   walk_at "rd"
   exact ⟨_,rfl,q l _ hlp ol (h2.le (by lia))⟩
  ·walk_at "rd"
   refine ⟨b+1,5,rfl,h1,by lia,by decide,by decide,fun pn2 r2 h2 r2a r2b=>?_⟩
   walk_at "rd"
   refine ⟨b+2,11,rfl,h2,by lia,by decide,by decide,fun pn3 r3 h3 r3a r3b=>?_⟩
   walk_at "rd"
   refine gh (fun i S=>∃pn mss v5 v6,S=[.pen (some a) pn,.val (.int r1),.no,.val (.int (1+r2)),.own (mss.map eT),v5,v6]/\Pn (b+3+2*i) pn/\mss.length<=i/\∀ms∈mss,Pr ms) ⟨pn3,[],_,_,rfl,h3,by simp,by simp⟩ ?_ ?_
   ·rintro i S hi ⟨pn,mss,v5,v6,rfl,g1,gl,g3⟩
    have hi':i < 11:=by lia
    walk_at "rd"
    refine ⟨_,1+r2,rfl,g1,by lia,by lia,by lia,fun pn7 x g7 xa xb=>?_⟩
    walk_at "rd"
    refine ⟨_,1+r2,rfl,g7,by lia,by lia,by lia,fun pn8 y g8 ya yb=>?_⟩
    walk_at "rd"
    rw [show D.tup [.int x,.int y]=eT [x,y] from rfl]
    by_cases hin:[x,y]∈mss
    ·refine AK b6 hin ?_
     walk_at "rc"
     exact ⟨pn8,mss,_,_,rfl,g8.le (by lia),by lia,g3⟩
    ·refine AJ b6 hin ?_
     walk_at "rc"
     refine ⟨pn8,mss++[[x,y]],_,_,by rw [Jc];rfl,g8.le (by lia),by rw [Ji,Kc];lia,fun ms hm=>?_⟩
     rcases List.mem_append.mp hm with hm | hm
     ·exact g3 ms hm
     ·obtain rfl:ms=[x,y]:=by simpa using hm
      exact ⟨_,_,rfl⟩
   ·rintro S ⟨pn,mss,v5,v6,rfl,g1,gl,g3⟩
    walk_at "rd"
    refine eO (mss:=mss) rfl (fun m hm=>by obtain ⟨x,y,rfl⟩:=g3 m hm;simp) ?_
    walk_at "rd"
    have hr3:r3.toNat<=10:=by lia
    refine ⟨_,rfl,q _ _ (fun p hp=>g3 p ((bD _).mem_iff.mp hp)) (by rw [(bD _).length_eq];lia) (g1.le (by lia))⟩
theorem wV (S:Src K mg "_law_known" iV) (T:Txt mg) (e0_:Has P w K mg base 1 "_law_draw" ["_law_pen_here","_law_many"] (spI K 0 gN)):Has P w K mg base 2 "_law_known" ["_law_pen_here"] (spI K 0 wG):=by
 refine kC 0 S nN (by walk_at "1") (by walk_at "L") fun f cdv A outer s H E hr=>⟨_,_,(ah (aI (i:=1) nN.nd rfl (IW rfl) (aU e0_ hr (aa (ae 0 (pv 0)) (aa ab af))))
  (ah (aR (aG d8 aC (ae 1 (pv 1)) ab (aB _)) (ak (ay (ai (aa (ai (aa ab (aa (ai (aa ab af)) (aa (ai (aa ab (aa ab af))) af)))) (aa (aH (bM (tg:=["_law_at"]) (cs:=[]) (ix:=[]) (aP (aj iV) ["_law_pen_here","_law_way"] (by decide +kernel)) rfl (bQ (by decide)) (by decide) (b9 rfl T.range (aa (aF rfl (aH (aN (aa ab (aa ab (aa ab (aa ab af)))))) (au bj aC (ae 1 (pv 1)) ab) (fun _ _=>rfl)) af)) (fun _ _ _ _=>(aq (ao (i:=0) (show (["_law_at"]:List Str).Nodup by decide +kernel) rfl (IW rfl) (by first | exact IW rfl | exact Kr rfl)))) (fun _ _ _ _=>bY) (fun _ _ _ _=>(ai (aa ab (aa (aK (ae 0 (pv 0))) af)))))) af))))) aD)
  (ah (aR (aG bW dr (ae 1 (pv 1)) ab (aB _)) (ak (ay (ai (aa (ai (aa ab (aa (ai (aa ab af)) (aa (ai (aa ab (aa ab af))) af)))) (aa (aH (aN (aa (ai (aa ab (aa ab af))) (aa (ai (aa ab (aa ab af))) (aa (ai (aa ab (aa ab af))) (aa (ai (aa ab (aa ab af))) (aa (ai (aa ab (aa ab af))) af))))))) af))))) aD)
  (ah (aR (aG bW dr (ae 1 (pv 1)) ab (aB _)) (ak (ay (ai (aa (ai (aa ab (aa (ai (aa ab af)) (aa (ai (aa ab (aa ab af))) af)))) (aa (aH (aN (aa (ai (aa ab (aa ab af))) (aa (ai (aa ab (aa ab af))) (aa (ai (aa ab (aa ab af))) (aa (ai (aa ab (aa ab af))) (aa (ai (aa ab (aa ab af))) af))))))) af))))) aD)
  (ah (aR (aG bW dr (ae 1 (pv 1)) ab (aB _)) (ak (ay (ai (aa (ai (aa ab (aa (ai (aa ab af)) (aa (ai af) af)))) (aa (aH (aN (aa (ai (aa ab (aa ab af))) (aa (ai (aa ab (aa ab af))) (aa (ai (aa ab (aa ab af))) (aa (ai (aa ab (aa ab af))) (aa (ai (aa ab (aa ab af))) (aa (ai (aa ab (aa ab af))) af)))))))) af))))) aD)
  (ah (aR (aG bW dr (ae 1 (pv 1)) ab (aB _)) (ak (ay (ai (aa (ai (aa ab (aa (ai (aa ab (aa ab af))) (aa (ai (aa ab (aa ab af))) af)))) (aa (aH (aN (aa (ai (aa ab (aa ab af))) (aa (ai (aa ab (aa ab af))) (aa (ai (aa ab (aa ab af))) (aa (ai (aa ab (aa ab af))) (aa (ai (aa ab (aa ab af))) (aa (ai (aa ab (aa ab af))) (aa (ai (aa ab (aa ab af))) (aa (ai (aa ab (aa ab af))) (aa (ai (aa ab (aa ab af))) af))))))))))) af))))) aD)
  (ah (aR (aG bW dr (ae 1 (pv 1)) ab (aB _)) (ak (ay (ai (aa (ai (aa ab (aa (ai (aa ab af)) (aa (ai (aa ab (aa ab af))) af)))) (aa (aH (aN (aa (ai (aa ab (aa ab af))) (aa (ai (aa ab (aa ab af))) (aa (ai (aa ab (aa ab af))) (aa (ai (aa ab (aa ab af))) (aa (ai (aa ab (aa ab af))) (aa (ai (aa ab (aa ab af))) af)))))))) af))))) aD)
  (ak (ay (ai (aa (ai (aa ab (aa (ai (aa ab af)) (aa (ai (aa ab (aa ab (aa ab (aa ab af))))) af)))) (aa (aH (aN (aa (ai (aa ab (aa ab af))) (aa (ai (aa ab (aa ab af))) (aa (ai (aa ab (aa ab af))) (aa (ai (aa ab (aa ab af))) af)))))) af)))))))))))),?_⟩
 rintro a pn ds es R hl ⟨b,e,hpn,hb,q⟩
 obtain rfl:ds=[]:=Kg hl
 obtain rfl:es=[]:=e
 have fin:∀(k:Int) (bo sy:List Int) mss pn',Kd k->(decide (0∉bo)&&mss.all (fun p=>p.length==2)&&decide (mss.length<=11))=true->Pn (b+1) pn'->R (.tup [rl k bo sy,eL mss]) pn':=fun k bo sy mss pn' hk h hpn=>by
  simp only [JF,decide_eq_true_eq] at h
  exact q k bo sy mss pn' hk h.1.1 (jW h.1.2) h.2 (hpn.le (by lia))
 walk_at "sl"
 walk_at "rd"
 refine ⟨b,10,rfl,hpn,by lia,by decide,by decide,fun pn1 r1 h1 r1a r1b=>?_⟩
 walk_at "rd"
 refine bH (fun c1=>?_) (fun c1=>?_)
 ·walk_at "rd"
  obtain ⟨m,hm,em⟩:∃m:Nat,m<=10/\atI [D.int 10,.int 8,.int 7,.int 10] (r1-6)=some (.int m):=by
   rcases (by lia:r1-6=0\/r1-6=1\/r1-6=2\/r1-6=3) with e | e | e | e <;> rw [e]
   ·exact ⟨10,by lia,rfl⟩
   ·exact ⟨8,by lia,rfl⟩
   ·exact ⟨7,by lia,rfl⟩
   ·exact ⟨10,by lia,rfl⟩
  refine aZ rfl rfl em ?_
  walk_at "rd"
  rw [Lp]
  refine comp_map (xs:=JS m) (en:=fun (i:Nat)=>.int (0+(i:Int))) (f:=fun (i:Nat)=>eT [0,0+(i:Int)]) (by simp;lia) (fun i hi A B hA=>?_) ?_
  ·dsimp only [bz,JP,Jd,JW,JU,J6]
   walk_at "rd"
   exact hA _ rfl
  ·rw [show (JS m).map (fun (i:Nat)=>eT [0,0+(i:Int)])=((JS m).map fun (i:Nat)=>[0,0+(i:Int)]).map eT by rw [Jt];rfl]
   walk_at "rd"
   exact ⟨_,rfl,q 8 [3] [2,3] _ _ (.inr (.inr rfl)) (by decide) (fun p hp=>by obtain ⟨i,_,rfl⟩:=List.mem_map.mp hp;exact ⟨_,_,rfl⟩) (by simp;lia) (h1.le (by lia))⟩
 ·walk_at "rd"
  refine bH (fun c1=>?_) (fun c1=>?_)
  ·walk_at "rd"
   exact ⟨_,rfl,fin 8 [3] [2,3] [[0,2],[1,0],[1,2],[2,1],[2,2]] _ (.inr (.inr rfl)) (by decide +kernel) h1⟩
  ·walk_at "rd"
   refine bH (fun c1=>?_) (fun c1=>?_)
   ·walk_at "rd"
    exact ⟨_,rfl,fin 8 [3] [2,3] [[0,1],[1,0],[1,1],[1,2],[2,0]] _ (.inr (.inr rfl)) (by decide +kernel) h1⟩
   ·walk_at "rd"
    refine bH (fun c1=>?_) (fun c1=>?_)
    ·walk_at "rd"
     exact ⟨_,rfl,fin 8 [2] [] [[0,0],[0,1],[0,2],[0,3],[1,1],[1,2]] _ (.inr (.inr rfl)) (by decide +kernel) h1⟩
    ·walk_at "rd"
     refine bH (fun c1=>?_) (fun c1=>?_)
     ·walk_at "rd"
      exact ⟨_,rfl,fin 8 [3,6] [2,3] [[0,0],[0,3],[1,4],[2,0],[2,4],[3,1],[3,2],[3,3],[3,4]] _ (.inr (.inr rfl)) (by decide +kernel) h1⟩
     ·walk_at "rd"
      refine bH (fun c1=>?_) (fun c1=>?_)
      ·walk_at "rd"
       exact ⟨_,rfl,fin 6 [2] [3,4] [[0,0],[0,1],[1,0],[1,2],[2,1],[2,2]] _ (.inr (.inl rfl)) (by decide +kernel) h1⟩
      ·walk_at "rd"
       exact ⟨_,rfl,fin 4 [2] [0,1,2,3] [[0,0],[1,1],[2,2],[4,4]] _ (.inl rfl) (by decide +kernel) h1⟩
end
end My
namespace My
open PySem L2 VL
section
variable {P:Jp} {w:JQ} {K:IJ} {mg:Str->Option IP} {base:Heap}
theorem qO (k:Int) (bo sy:List Int):flat (rl k bo sy)=true:=by
 show (true&&(flats (bo.map .int)&&(flats (sy.map .int)&&true)))=true
 rw [aW,aW]
 rfl
def cs6 (A B C E dx dy:Int) (m:List Int):List Int:=match m with
 | [x,y]=>[A*x+B*y+dx,C*x+E*y+dy]
 | _=>[]
def tn4:List (List Int):=[[1,0,0,1],[-1,0,0,-1],[0,1,1,0],[0,-1,-1,0]]
theorem Aa (S:Src K mg "_law_case" jT) (T:Txt mg) (e14_:Has P w K mg base 2 "_law_rule" ["_law_pen_here"] (spI K 0 Bu)) (e28_:Has P w K mg base 2 "_law_cells" ["_law_pen_here"] (spI K 0 wF)) (e0_:Has P w K mg base 1 "_law_draw" ["_law_pen_here","_law_many"] (spI K 0 gN)) (e23_:Has P w K mg base 2 "_law_known" ["_law_pen_here"] (spI K 0 wG)) (e8_:Has P w K mg base 2 "_law_number" ["_law_pen_here"] (spI K 0 qK)):Has P w K mg base 3 "_law_case" ["_law_pen_here"] (spI K 0 Bv):=by
 refine kC 0 S bO (by walk_at "1") (by walk_at "L") fun f cdv A outer s H E hr=>⟨_,_,(ah (aI (i:=1) bO.nd rfl (IW rfl) (aU e14_ hr (aa (ae 0 (pv 0)) af)))
  (ah (aI (i:=2) bO.nd rfl (IW rfl) (aU e28_ hr (aa (ae 0 (pv 0)) af)))
  (ah (aR (aG bW dr (aU e0_ hr (aa (ae 0 (pv 0)) (aa ab af))) ab (aB _)) (ak (gY (aU e23_ hr (aa (ae 0 (pv 0)) af)) (bF (n:=2) rfl rfl (az (aq (ao (i:=1) bO.nd rfl (IW rfl) (IW rfl))) (az (aq (ao (i:=2) bO.nd rfl (IW rfl) (IW rfl))) bf))))) aD)
  (ah (gY (aF rfl (aH (aN (aa (ai (aa ab (aa ab (aa ab (aa ab af))))) (aa (ai (aa (b8 bB ab) (aa ab (aa ab (aa (b8 bB ab) af))))) (aa (ai (aa ab (aa ab (aa ab (aa ab af))))) (aa (ai (aa ab (aa (b8 bB ab) (aa (b8 bB ab) (aa ab af))))) af)))))) (aU e0_ hr (aa (ae 0 (pv 0)) (aa ab af))) (fun _ _=>rfl)) (bF (n:=4) rfl rfl (az (aq (ao (i:=3) bO.nd rfl (Kr rfl) (IW rfl))) (az (aq (ao (i:=4) bO.nd rfl (Kr rfl) (IW rfl))) (az (aq (ao (i:=5) bO.nd rfl (Kr rfl) (IW rfl))) (az (aq (ao (i:=6) bO.nd rfl (Kr rfl) (IW rfl))) bf))))))
  (ah (aI (i:=7) bO.nd rfl (Kr rfl) (aU e8_ hr (aa (ae 0 (pv 0)) af)))
  (ah (aI (i:=8) bO.nd rfl (Kr rfl) (aU e8_ hr (aa (ae 0 (pv 0)) af)))
  (ah (dS (fun _ h=>bU (i:=9) bO.nd rfl (IW rfl) h) (eN rfl rfl (by rfl) T.sorted_ dJ (aa (aH (bM (tg:=["_law_x","_law_y"]) (cs:=["_law_dx","_law_dy","_law_a","_law_b","_law_c","_law_d"]) (ix:=[7,8,3,4,5,6]) (aP (aj jT) ["_law_pen_here","_law_told","_law_cells_here","_law_a","_law_b","_law_c","_law_d","_law_dx","_law_dy","_law_found","_law_away","_law_other"] (by decide +kernel)) rfl (bL (by decide) (by decide)) (by decide) (bq rfl (ae 2 (pv 2))) (fun _ _ _ _=>(bF (n:=2) rfl rfl (az (aq (ao (i:=0) (show (["_law_x","_law_y","_law_dx","_law_dy","_law_a","_law_b","_law_c","_law_d"]:List Str).Nodup by decide +kernel) rfl (IW rfl) (by first | exact IW rfl | exact Kr rfl))) (az (aq (ao (i:=1) (show (["_law_x","_law_y","_law_dx","_law_dy","_law_a","_law_b","_law_c","_law_d"]:List Str).Nodup by decide +kernel) rfl (IW rfl) (by first | exact IW rfl | exact Kr rfl))) bf)))) (fun _ _ _ _=>bY) (fun _ _ _ _=>(ai (aa (au aS aC (au aS aC (au b0 bE (ae 4 (pv 4)) (ae 0 (pv 0))) (au b0 bE (ae 5 (pv 5)) (ae 1 (pv 1)))) (ae 2 (pv 2))) (aa (au aS aC (au aS aC (au b0 bE (ae 6 (pv 6)) (ae 0 (pv 0))) (au b0 bE (ae 7 (pv 7)) (ae 1 (pv 1)))) (ae 3 (pv 3))) af)))))) af)))
  (ah (aR (aG d8 aC (aU e0_ hr (aa (ae 0 (pv 0)) (aa ab af))) ab (aB _)) (ak (zL 9 (ay (ai (aa (aK (ae 1 (pv 1))) (aa (dW 9 (pv 9)) af)))))) aD)
  (ah (aI (i:=10) bO.nd rfl (Kr rfl) (au b0 bE (aF rfl (aH (aN (aa (au cQ bE ab ab) (aa (au cQ bE ab ab) af)))) (aU e0_ hr (aa (ae 0 (pv 0)) (aa ab af))) (fun _ _=>rfl)) (au bj aC ab (au b0 bE ab (kz ke Au (by rfl) T.int_ oe (aa (cT d8 aC (ae 7 (pv 7)) ab (aB _)) af))))))
  (ah (aI (i:=11) bO.nd rfl (IW rfl) (aF rfl (aH (aN (aa (aH (aN (aa (ai (aa ab (aa ab af))) (aa (ai (aa ab (aa ab af))) (aa (ai (aa ab (aa ab af))) (aa (ai (aa ab (aa ab af))) af)))))) (aa (aH (aN (aa (ai (aa ab (aa ab af))) (aa (ai (aa ab (aa ab af))) (aa (ai (aa ab (aa ab af))) af))))) af)))) (aU e0_ hr (aa (ae 0 (pv 0)) (aa ab af))) (fun _ _=>rfl)))
  (ak (ay (ai (aa (aK (ae 1 (pv 1))) (aa (aH (eN rfl rfl (by rfl) T.sorted_ dJ (aa (aH (oC 9 (pv 9) (bM (tg:=["_law_x","_law_y"]) (cs:=["_law_away","_law_dy","_law_dx"]) (ix:=[10,8,7]) (aP (aj jT) ["_law_pen_here","_law_told","_law_cells_here","_law_a","_law_b","_law_c","_law_d","_law_dx","_law_dy","_law_found","_law_away","_law_other"] (by decide +kernel)) rfl (bL (by decide) (by decide)) (by decide) (bq rfl (ae 11 (pv 11))) (fun _ _ _ _=>(bF (n:=2) rfl rfl (az (aq (ao (i:=0) (show (["_law_x","_law_y","_law_away","_law_dy","_law_dx"]:List Str).Nodup by decide +kernel) rfl (IW rfl) (by first | exact IW rfl | exact Kr rfl))) (az (aq (ao (i:=1) (show (["_law_x","_law_y","_law_away","_law_dy","_law_dx"]:List Str).Nodup by decide +kernel) rfl (IW rfl) (by first | exact IW rfl | exact Kr rfl))) bf)))) (fun _ _ _ _=>bY) (fun _ _ _ _=>(ai (aa (au aS aC (au aS aC (ae 0 (pv 0)) (ae 4 (pv 4))) (ae 2 (pv 2))) (aa (au aS aC (ae 1 (pv 1)) (ae 3 (pv 3))) af))))))) af))) af))))))))))))))),?_⟩
 rintro a pn ds es R hl ⟨b,e,hpn,hb,q⟩
 obtain rfl:ds=[]:=Kg hl
 obtain rfl:es=[]:=e
 walk_at "sl"
 walk_at "rd"
 refine ⟨b,rfl,hpn,by lia,fun k bo sy pn1 hk h0 hbl h1=>?_⟩
 walk_at "rd"
 refine ⟨b+40,rfl,h1,by lia,fun mss pn2 hp hl h2=>?_⟩
 walk_at "rd"
 refine ⟨b+100,3,rfl,h2,by lia,by decide,by decide,fun pn3 r3 h3 r3a r3b=>?_⟩
 walk_at "rd"
 dsimp only [JM,JN]
 refine p8 (fun S'=>∃(k:Int) (bo sy:List Int) (mss:List (List Int)) (pn':List Int),Kd k/\0∉bo/\(∀p∈mss,Pr p)/\mss.length<=11/\Pn (b+110) pn'/\S'=[.pen (some a) pn',.val (rl k bo sy),.val (eL mss),.no,.no,.no,.no,.no,.no,.no,.no,.no]) ?_ ?_ ?_
 ·clear hk h0 hbl hp hl h1 h2 h3
  rintro S' ⟨k,bo,sy,mss,pn1,hk,h0,hp,hl,h1,rfl⟩
  walk_at "rd"
  refine ⟨b+110,4,rfl,h1,by lia,by decide,by decide,fun pn2 r2 h2 r2a r2b=>?_⟩
  obtain ⟨A,B,C,E',et,hA,hB,hC,hE⟩:∃A B C E':Int,atI (tn4.map eT) r2=some (eT [A,B,C,E'])/\(-1<=A/\A<=1)/\(-1<=B/\B<=1)/\(-1<=C/\C<=1)/\(-1<=E'/\E'<=1):=by
   rcases (by lia:r2=0\/r2=1\/r2=2\/r2=3) with e | e | e | e <;> rw [e]
   ·exact ⟨1,0,0,1,rfl,by decide,by decide,by decide,by decide⟩
   ·exact ⟨-1,0,0,-1,rfl,by decide,by decide,by decide,by decide⟩
   ·exact ⟨0,1,1,0,rfl,by decide,by decide,by decide,by decide⟩
   ·exact ⟨0,-1,-1,0,rfl,by decide,by decide,by decide,by decide⟩
  walk_at "rd"
  refine aZ rfl rfl et ?_
  walk_at "rd"
  refine ⟨_,rfl,h2,by lia,fun dx pn3 h3=>?_⟩
  walk_at "rd"
  refine ⟨_,rfl,h3,by lia,fun dy pn4 h4=>?_⟩
  walk_at "rd"
  refine comp_map (xs:=mss) (en:=eT) (f:=fun m=>eT (cs6 A B C E' dx dy m)) (by lia) (fun m hm A' B' hA'=>?_) ?_
  ·obtain ⟨x,y,rfl⟩:=hp m hm
   dsimp only [bz,JP,Jd,JW,JU,J6]
   walk_at "rd"
   exact hA' _ rfl
  rw [show mss.map (fun m=>eT (cs6 A B C E' dx dy m))=(mss.map (cs6 A B C E' dx dy)).map eT by rw [Jt];rfl]
  have hp2:∀p∈mss.map (cs6 A B C E' dx dy),Pr p:=fun p hm=>by
   obtain ⟨m,hm',rfl⟩:=List.mem_map.mp hm
   obtain ⟨x,y,rfl⟩:=hp m hm'
   exact ⟨_,_,rfl⟩
  have hl2:(mss.map (cs6 A B C E' dx dy)).length<=11:=by rw [IR];exact hl
  generalize mss.map (cs6 A B C E' dx dy)=nss at hp2 hl2
  walk_at "rd"
  refine eO (mss:=nss) rfl (fun m hm=>by obtain ⟨x,y,rfl⟩:=hp2 m hm;simp) ?_
  have hp3:∀p∈srt nss,Pr p:=fun p hm=>hp2 p ((bD _).mem_iff.mp hm)
  have hl3:(srt nss).length<=11:=by rw [(bD _).length_eq];exact hl2
  walk_at "rd"
  refine ⟨b+120,8,rfl,h4.le (by lia),by lia,by lia,by lia,fun pn5 r5 h5 r5a r5b=>?_⟩
  walk_at "rd"
  refine bH (fun c1=>?_) (fun c1=>?_)
  ·walk_at "rd"
   refine bZ (qO k bo sy) ?_
   walk_at "rd"
   exact ⟨_,rfl,q k bo sy (srt nss) _ hk h0 hp3 (by lia) (h5.le (by lia))⟩
  ·walk_at "rd"
   refine ⟨b+121,2,rfl,h5.le (by lia),by lia,by lia,by lia,fun pn6 r6 h6 r6a r6b=>?_⟩
   obtain ⟨aw,eaw⟩:∃aw:Int,atI [D.int (10 ^ MN 9),.int (10 ^ MN 40)] r6=some (.int aw):=by
    rcases (by lia:r6=0\/r6=1) with e | e <;> rw [e]
    ·exact ⟨_,rfl⟩
    ·exact ⟨_,rfl⟩
   walk_at "rd"
   refine aZ rfl rfl eaw ?_
   walk_at "rd"
   refine .inr ⟨_,rfl,?_⟩
   walk_at "rd"
   refine ⟨b+122,2,rfl,h6.le (by lia),by lia,by lia,by lia,fun pn7 r7 h7 r7a r7b=>?_⟩
   obtain ⟨l,el,ol,hlp⟩:∃l:List (List Int),atI [eL [[0,0],[0,1],[1,0],[1,1]],eL [[0,0],[1,0],[2,0]]] r7=some (eL l)/\l.length<=4/\(∀m∈l,Pr m):=by
    rcases (by lia:r7=0\/r7=1) with e | e <;> rw [e]
    ·exact ⟨_,rfl,by decide,jW (by decide)⟩
    ·exact ⟨_,rfl,by decide,jW (by decide)⟩
   dsimp only [ofV]
   generalize aw*(1-2*if decide (0 < dx)=true then 1 else 0)=W
   walk_at "rd"
   refine aZ rfl rfl el ?_
   walk_at "rd"
   refine bZ (qO k bo sy) ?_
   walk_at "rd"
   refine comp_map (xs:=l) (en:=eT) (f:=fun m=>eT (mv (dx+W) dy m)) (by lia) (fun m hm A' B' hA'=>?_) ?_
   ·obtain ⟨x,y,rfl⟩:=hlp m hm
    dsimp only [bz,JP,Jd,JW,JU,J6]
    walk_at "rd"
    show A' (.tup [.int (x+dx+W),.int (y+dy)]) _
    rw [Int.add_assoc]
    exact hA' _ rfl
   rw [show l.map (fun m=>eT (mv (dx+W) dy m))=(l.map (mv (dx+W) dy)).map eT by rw [Jt];rfl]
   have hp4:∀p∈l.map (mv (dx+W) dy),Pr p:=fun p hm=>by
    obtain ⟨m,hm',rfl⟩:=List.mem_map.mp hm
    obtain ⟨x,y,rfl⟩:=hlp m hm'
    exact ⟨_,_,rfl⟩
   have hl4:(l.map (mv (dx+W) dy)).length<=4:=by rw [IR];exact ol
   generalize l.map (mv (dx+W) dy)=oss at hp4 hl4
   walk_at "rd"
   refine lD rfl (by rw [IR,IR];lia) ?_
   walk_at "rd"
   have hp5:∀p∈srt nss++oss,Pr p:=fun p h=>(List.mem_append.mp h).elim (hp3 p) (hp4 p)
   rw [<- Jc]
   refine eO (mss:=srt nss++oss) rfl (fun m hm=>by obtain ⟨x,y,rfl⟩:=hp5 m hm;simp) ?_
   walk_at "rd"
   exact ⟨_,rfl,q k bo sy (srt (srt nss++oss)) _ hk h0 (fun p hm=>hp5 p ((bD _).mem_iff.mp hm)) (by rw [(bD _).length_eq,Ji];lia) (h7.le (by lia))⟩
 ·intro nx hnx c1
  walk_at "rd"
  refine ⟨b+101,rfl,h3.le (by lia),by lia,fun k bo sy mss pn5 hk h0 hp hl h5=>?_⟩
  walk_at "rd"
  exact hnx _ ⟨k,bo,sy,mss,_,hk,h0,hp,hl,h5.le (by lia),rfl⟩
 ·intro nx hnx c1
  walk_at "rd"
  exact hnx _ ⟨k,bo,sy,mss,_,hk,h0,hp,hl,h3.le (by lia),rfl⟩
end
end My
namespace My
open PySem L2 VL
section
variable {P:Jp} {w:JQ} {K:IJ} {mg:Str->Option IP} {base:Heap}
theorem wW (S:Src K mg "_law_steps" lY) (T:Txt mg):Has P w K mg base 1 "_law_steps" ["_law_kind"] (spP K wH):=by
 refine bA S gK (by walk_at "1") (by walk_at "L") fun f cdv A outer s H E hr=>⟨_,_,(ah (dS (fun _ h=>bU (i:=1) gK.nd rfl (IW rfl) h) (aN (aa (ai (aa ab (aa (b8 bB ab) af))) (aa (ai (aa (b8 bB ab) (aa ab af))) (aa (ai (aa ab (aa ab af))) (aa (ai (aa ab (aa ab af))) af))))))
  (ah (aR (aG d8 aC (ae 0 (pv 0)) ab (aB _)) (ak (dS (fun _ h=>bU (i:=1) gK.nd rfl (IW rfl) h) (oC 1 (pv 1) (aN (aa (ai (aa (b8 bB ab) (aa (b8 bB ab) af))) (aa (ai (aa ab (aa ab af))) af)))))) aD)
  (ah (aR (aG bW dr (ae 0 (pv 0)) ab (aB _)) (ak (dS (fun _ h=>bU (i:=1) gK.nd rfl (IW rfl) h) (oC 1 (pv 1) (aN (aa (ai (aa (b8 bB ab) (aa ab af))) (aa (ai (aa ab (aa (b8 bB ab) af))) af)))))) aD)
  (ak (ay (aK (ae 1 (pv 1)))))))),?_⟩
 rintro ds R ⟨k,rfl,hk,q⟩
 walk_at "sl"
 rcases hk with rfl | rfl | rfl
 ·walk_at "rc"
  exact q
 ·walk_at "rc"
  refine lD rfl (Jn rfl) ?_
  walk_at "rc"
  exact q
 ·walk_at "rc"
  refine lD rfl (Jn rfl) ?_
  walk_at "rc"
  refine lD rfl (Jn rfl) ?_
  walk_at "rc"
  exact q
theorem wX (S:Src K mg "_law_next" lZ) (T:Txt mg) (e29_:Has P w K mg base 1 "_law_steps" ["_law_kind"] (spP K wH)):Has P w K mg base 2 "_law_next" ["_law_told","_law_live"] (spP K wJ):=by
 refine bA S d0 (by walk_at "2") (by walk_at "L") fun f cdv A outer s H E hr=>⟨_,_,(ah (gv (fun _ h=>bU (i:=2) d0.nd rfl (Kr rfl) h) oG)
  (ah (cA Kb rfl (bq rfl (ae 1 (pv 1))) (aq (ao (i:=3) d0.nd rfl (IW rfl) (IW rfl))) (ah (iO 2 rfl hr.units (pv 2) (lL rfl hr.units (ae 2 (pv 2)) (ae 3 (pv 3))) (ae 3 (pv 3)))
  (ak (cA Kb rfl (bq rfl (aY e29_ hr (aa (aF rfl (ae 0 (pv 0)) ab (fun _ _=>rfl)) af))) (aq (ao (i:=4) d0.nd rfl (IW rfl) (IW rfl))) (ah (aI (i:=5) d0.nd rfl (IW rfl) (ai (aa (au aS aC (aF rfl (ae 3 (pv 3)) ab (fun _ _=>rfl)) (aF rfl (ae 4 (pv 4)) ab (fun _ _=>rfl))) (aa (au aS aC (aF rfl (ae 3 (pv 3)) ab (fun _ _=>rfl)) (aF rfl (ae 4 (pv 4)) ab (fun _ _=>rfl))) af))))
  (ak (iO 2 rfl hr.units (pv 2) (au aS aC (lL rfl hr.units (ae 2 (pv 2)) (ae 5 (pv 5))) ab) (ae 5 (pv 5)))))))))
  (ah (gv (fun _ h=>bU (i:=6) d0.nd rfl (Kr rfl) h) oG)
  (ah (cA Kb rfl (bq rfl (ae 1 (pv 1))) (aq (ao (i:=3) d0.nd rfl (IW rfl) (IW rfl))) (ak (iO 6 rfl hr.units (pv 6) cG (ae 3 (pv 3)))))
  (ak (zb 2 (ay (aH (eN rfl rfl (by rfl) T.sorted_ dJ (aa (aH (bM (tg:=["_law_cell"]) (cs:=["_law_near","_law_told","_law_alive"]) (ix:=[2,0,6]) (aP (aj lZ) ["_law_told","_law_live","_law_near","_law_cell","_law_step","_law_there","_law_alive"] (by decide +kernel)) rfl (bQ (by decide)) (by decide) (y9 (ae 2 (pv 2))) (fun _ _ _ _=>(aq (ao (i:=0) (show (["_law_cell","_law_near","_law_told","_law_alive"]:List Str).Nodup by decide +kernel) rfl (IW rfl) (by first | exact IW rfl | exact Kr rfl)))) (fun _ _ _ _=>(eX (aG (tV (K:=K) rfl hr.units) pW (DR rfl hr.units (ae 1 (pv 1)) (ae 0 (pv 0)) (fun _ _=>rfl)) (aF rfl (ae 2 (pv 2)) (au aS aC ab (kz ke Au (by rfl) T.int_ oe (aa (cT (AR (K:=K) rfl hr.units) AQ (ae 0 (pv 0)) (ae 3 (pv 3)) (by with_unfolding_all rfl)) af))) (fun _ _=>rfl)) (by with_unfolding_all rfl)))) (fun _ _ _ _=>(aK (ae 0 (pv 0)))))) af)))))))))),?_⟩
 rintro ds R ⟨k,bo,st,xs,rfl,hk,hp,hl,q⟩
 walk_at "sl"
 unfold rl
 walk_at "rd"
 have nl:=jU hk
 have bl:=gO k
 have sl:(sp k).length<=8:=by rcases hk with rfl | rfl | rfl <;> decide
 refine eJ (fun i S=>∃kvs s3 s4 s5,Wt (bes k (xs.take i)) (xs.take i) kvs/\S=[.val (rl k bo st),.val (eL xs),od kvs,s3,s4,s5,.no]) ⟨[],_,_,_,⟨by simp,by simp [bes],by simp,by simp⟩,rfl⟩ ?_ ?_
 ·rintro i d S2 e ⟨kvs,s3,s4,s5,tc,rfl⟩
  obtain ⟨c,h1,rfl,hm,ht⟩:=bp e
  have hi:i < xs.length:=(List.getElem?_eq_some_iff.mp h1).1
  obtain ⟨x,y,rfl⟩:=hp c hm
  have b1:=bl (xs.take i)
  have l1:(xs.take i).length<=15625:=by rw [Kf];lia
  have l2:(xs.take i).length*(nr k).length<=15625*8:=ME l1 nl
  have t2:=tc.len
  unfold rl
  walk_at "rd"
  refine oI (kvs:=kvs) (ms:=[x,y]) rfl rfl (tc.get _) ?_
  walk_at "rd"
  refine gw (kvs:=kvs) (ms:=[x,y]) rfl rfl (by lia) ?_
  have tc1:Wt (bes k (xs.take i)) (xs.take (i+1)) (cu kvs [x,y] (.int ((bes k (xs.take i)).count [x,y]:Nat))):=by
   rw [ht]
   refine tc.upd (fun c=>⟨fun h=>?_,fun h=>?_⟩) (fun c hc=>rfl) rfl ?_
   ·rcases h with h | h
    ·exact .inl (.inl h)
    ·rcases List.mem_append.mp h with h | h
     ·exact .inl (.inr h)
     ·exact .inr (List.mem_singleton.mp h)
   ·rcases h with (h | h) | h
    ·exact .inl h
    ·exact .inr (List.mem_append.mpr (.inl h))
    ·exact .inr (List.mem_append.mpr (.inr (List.mem_singleton.mpr h)))
   ·simp only [Ji,Kc];lia
  walk_at "rd"
  refine ⟨k,rfl,hk,?_⟩
  walk_at "rd"
  have l3:(xs.take (i+1)).length<=15625:=by rw [Kf];lia
  refine eJ (fun j S=>∃kvs s4 s5,Wt (bes k (xs.take i)++((sp k).take j).map (ad [x,y])) (xs.take (i+1)) kvs/\S=[.val (rl k bo st),.val (eL xs),od kvs,.val (eT [x,y]),s4,s5,.no]) ⟨_,_,_,by simpa using tc1,rfl⟩ ?_ ?_
  ·rintro j d S3 e' ⟨kvs,s4,s5,tc,rfl⟩
   obtain ⟨n,h2,rfl,hm',ht'⟩:=bp e'
   obtain ⟨dx,dy,rfl⟩:=qF hk ((qL hk).mem_iff.mp hm')
   have t2:=tc.len
   rw [Ji,IR,Kf] at t2
   unfold rl
   walk_at "rd"
   refine oI (kvs:=kvs) (ms:=[x+dx,y+dy]) rfl rfl (tc.get _) ?_
   walk_at "rd"
   refine gw (kvs:=kvs) (ms:=[x+dx,y+dy]) rfl rfl (by lia) ?_
   refine ⟨_,_,_,?_,rfl⟩
   rw [ht',Jc,<- Jm]
   show Wt (_++[[x+dx,y+dy]]) _ _
   refine tc.upd (fun c=>⟨fun h=>?_,fun h=>?_⟩) (fun c hc=>?_) ?_ ?_
   ·rcases h with h | h
    ·rcases List.mem_append.mp h with h | h
     ·exact .inl (.inl h)
     ·exact .inr (List.mem_singleton.mp h)
    ·exact .inl (.inr h)
   ·rcases h with (h | h) | h
    ·exact .inl (List.mem_append.mpr (.inl h))
    ·exact .inr h
    ·exact .inl (List.mem_append.mpr (.inr (List.mem_singleton.mpr h)))
   ·rw [N2]
    simp [Ni,LS hc]
   ·rw [N2 (l₂:=[[x+dx,y+dy]])]
    simp only [List.count_singleton_self]
    push_cast
    rfl
   ·simp only [Ji,Kc];lia
  ·rintro S3 ⟨kvs,s4,s5,tc,rfl⟩
   rw [IR,KQ] at tc
   refine ⟨kvs,_,_,_,?_,rfl⟩
   have e1:bes k (xs.take (i+1))=bes k (xs.take i)++(nr k).map (ad [x,y]):=by rw [ht];simp [bes]
   rw [e1]
   exact Wt.perm tc (((qL hk).map _).append_left _)
 ·rintro S2 ⟨kvs,s3,s4,s5,tc,rfl⟩
  rw [IR,KQ] at tc
  walk_at "rd"
  refine eJ (fun i S=>∃s3,S=[.val (rl k bo st),.val (eL xs),od kvs,s3,s4,s5,od (fol (xs.take i))]) ⟨_,rfl⟩ ?_ ?_
  ·rintro i d S2 e ⟨s3,rfl⟩
   obtain ⟨c,h1,rfl,hm,ht⟩:=bp e
   have hi:i < xs.length:=(List.getElem?_eq_some_iff.mp h1).1
   have fl:=zU (xs.take i)
   rw [Kf] at fl
   walk_at "rd"
   refine gw (kvs:=fol (xs.take i)) (ms:=c) rfl rfl (by lia) ?_
   rw [<- wD,<- ht]
   exact ⟨_,rfl⟩
  ·rintro S2 ⟨s3,rfl⟩
   rw [IR,KQ]
   have b1:=bl xs
   have l2:xs.length*(nr k).length<=15625*8:=ME hl nl
   have t2:=tc.len
   walk_at "rd"
   refine di (xs:=kvs.map (·.1)) (en:=kT) (f:=eT) (p:=liv k bo st xs) (by rw [IR];lia) (fun c hc A B hA hB=>?_) ?_
   ·dsimp only [bz,JP,Jd,JW,JU,J6]
    obtain ⟨pq,hpq,rfl⟩:=List.mem_map.mp hc
    have hal:decide (pq.1∈(fol xs).map (·.1))=decide (pq.1∈xs):=by
     congr 1
     exact propext nT
    unfold rl
    walk_at "rd"
    refine ze (kvs:=kvs) (ms:=pq.1) rfl rfl ((jV tc.nd hpq).trans (by rw [tc.vals pq hpq])) ?_
    walk_at "rd"
    refine ur (ms:=pq.1) rfl rfl ?_
    rw [if_neg IT,hal]
    walk_at "rd"
    refine .inr ⟨_,rfl,?_⟩
    walk_at "rd"
    have hv:decide ((((bes k xs).count pq.1:Nat):Int)∈if decide (pq.1∈xs)=true then st else bo)=liv k bo st xs pq.1:=rfl
    refine AG rfl rfl (show atI _ _=some (.tup ((if decide (pq.1∈xs)=true then st else bo).map .int)) from by by_cases h:pq.1∈xs <;> simp only [h,decide_true,decide_false,if_true,if_false,Jk] <;> rfl) ?_
    walk_at "rd"
    refine oH (f:=D.int) eY ?_
    rw [hv]
    cases hw:liv k bo st xs pq.1 with
    | true=>walk_at "rc";refine bZ (nR _) ?_;walk_at "rc";exact hA _ rfl hw
    | false=>walk_at "rc";exact hB _ rfl hw
   walk_at "rd"
   refine eO (mss:=(kvs.map (·.1)).filter (liv k bo st xs)) rfl (fun ms hms=>?_) ?_
   ·have hk2:=(tc.keys ms).mp (List.mem_filter.mp hms).1
    obtain ⟨a,b,e⟩:=hk2.elim (mh hk hp ms) (hp ms)
    rw [e];exact List.cons_ne_nil _ _
   ·rw [Bs (k:=k) (bo:=bo) (st:=st) (xs:=xs) (tc.nd.filter _) fun c=>by rw [OP,tc.keys c]]
    walk_at "rd"
    exact q
end
end My
namespace My
open PySem L2 VL
theorem BA (ys:Rw) (z:List (List Int)):atI ((ys++[z]).map eL) (-1)=some (eL z):=by
 rw [Jc]
 exact L2.fU _ _
theorem nU (ys:Rw) (z:List (List Int)):cutD ((ys++[z]).map eL) none (some (-1))=ys.map eL:=by
 unfold cutD
 have e1:HT.sIx ((ys++[z]).map eL).length ((ys++[z]).map eL).length (some (-1))=ys.length:=by
  show (if (-1:Int) < 0 then ((-1:Int)+(((ys++[z]).map eL).length:Int)).toNat else min (-1:Int).toNat ((ys++[z]).map eL).length)=ys.length
  rw [if_pos (by decide),IR,Ji]
  simp
  lia
 rw [e1,HT.sX]
 simp
theorem wY {ys:Rw} (h:∀r∈ys,r≠[]):(ys.map fun r=>r.map eT).all (fun d=>!d.isEmpty)=true:=by
 rw [List.all_map,LZ]
 intro r hr
 have:=h r hr
 cases r with
 | nil=>exact absurd rfl this
 | cons _ _=>rfl
section
variable {P:Jp} {w:JQ} {K:IJ} {mg:Str->Option IP} {base:Heap}
theorem HS (S:Src K mg "bears_out" iu) (T:Txt mg) (e1_:Has P w K mg base 2 "refuse_loud" ["rule"] (spP K nP)) (e33_:Has P w K mg base 5 "ends_as_told" ["rows","told"] (spP K Bx)) (e16_:Has P w K mg base 5 "are_turns" ["rule","rows"] (spP K pAt)):Has P w K mg base 6 "bears_out" ["rule","rows","told"] (spP K wQ):=by
 refine bA S o6 (by walk_at "3") (by walk_at "L") fun f cdv A outer s H E hr=>⟨_,_,(ah (de (aY e1_ hr (aa (ae 0 (pv 0)) af)))
  (ak (ay (jg (aY e33_ hr (aa (ae 1 (pv 1)) (aa (ae 2 (pv 2)) af))) (jf (aY e16_ hr (aa (ae 0 (pv 0)) (aa (ae 1 (pv 1)) af)))))))),?_⟩
 rintro ds R ⟨k,bo,st,rss,x,rfl,hk,h0,hp,ht,he,q⟩
 walk_at "sl"
 walk_at "rd"
 refine ⟨k,bo,st,rfl,h0,?_⟩
 walk_at "rd"
 refine ⟨rss,x,rfl,hp,he,?_⟩
 walk_at "rc"
 refine ⟨k,bo,st,rss,rfl,hk,h0,hp,ht,?_⟩
 walk_at "rd"
 exact q
theorem HU (S:Src K mg "_law_move" md) (T:Txt mg):Has P w K mg base 2 "_law_move" ["_law_one","_law_other"] (spP K By):=by
 refine bA S qD (by walk_at "2") (by walk_at "L") fun f cdv A outer s H E hr=>⟨_,_,(ah (aR (aG Ao Fo (aO (ef (K:=K) rfl) d9 (by rfl) T.len_ ck (aa (ae 0 (pv 0)) af)) (aO (ef (K:=K) rfl) d9 (by rfl) T.len_ ck (aa (ae 1 (pv 1)) af)) (aB _)) (ak (ay je)) aD)
  (ah (aI (i:=2) qD.nd rfl (Kr rfl) (ai (aa (au bj aC (aF rfl (aF rfl (ae 1 (pv 1)) ab (fun _ _=>rfl)) ab (fun _ _=>rfl)) (aF rfl (aF rfl (ae 0 (pv 0)) ab (fun _ _=>rfl)) ab (fun _ _=>rfl))) (aa (au bj aC (aF rfl (aF rfl (ae 1 (pv 1)) ab (fun _ _=>rfl)) ab (fun _ _=>rfl)) (aF rfl (aF rfl (ae 0 (pv 0)) ab (fun _ _=>rfl)) ab (fun _ _=>rfl))) af))))
  (ah (aR (aG (fI (K:=K) rfl hr.units) dI (aH (bM (tg:=["_law_x","_law_y"]) (cs:=["_law_move_here"]) (ix:=[2]) (aP (aj md) ["_law_one","_law_other","_law_move_here"] (by decide +kernel)) rfl (bL (by decide) (by decide)) (by decide) (bq rfl (ae 0 (pv 0))) (fun _ _ _ _=>(bF (n:=2) rfl rfl (az (aq (ao (i:=0) (show (["_law_x","_law_y","_law_move_here"]:List Str).Nodup by decide +kernel) rfl (IW rfl) (by first | exact IW rfl | exact Kr rfl))) (az (aq (ao (i:=1) (show (["_law_x","_law_y","_law_move_here"]:List Str).Nodup by decide +kernel) rfl (IW rfl) (by first | exact IW rfl | exact Kr rfl))) bf)))) (fun _ _ _ _=>bY) (fun _ _ _ _=>(ai (aa (au aS aC (ae 0 (pv 0)) (aF rfl (ae 2 (pv 2)) ab (fun _ _=>rfl))) (aa (au aS aC (ae 1 (pv 1)) (aF rfl (ae 2 (pv 2)) ab (fun _ _=>rfl))) af)))))) (ae 1 (pv 1)) (aB _)) (ak (ay je)) aD)
  (ak (ay (aK (ae 2 (pv 2)))))))),?_⟩
 rintro ds R ⟨a,b,rfl,hb,pa,pb,q1,q2⟩
 walk_at "sl"
 walk_at "rd"
 refine CJ (fun c=>?_) (fun c=>?_)
 ·walk_at "rd"
  refine q2 fun z=>c ?_
  have:=congrArg K4 z
  rw [IR] at this
  rw [IR,IR,this]
 ·have hab:a.length=b.length:=by rw [IR,IR] at c;lia
  match a,b,hb,hab,pa,pb,q1,q2 with
  | [],d::b,_,hab,_,_,_,_=>cases hab
  | c'::a,d::b,_,_,pa,pb,q1,q2=>
   obtain ⟨x,y,rfl⟩:=pa.1 c' IQ
   obtain ⟨u,v,rfl⟩:=pb.1 d IQ
   walk_at "rd"
   refine aZ rfl rfl (bu (xs:=([u,v]::b).map eT) (j:=0) rfl) ?_
   walk_at "rd"
   refine aZ rfl rfl (bu (xs:=([x,y]::a).map eT) (j:=0) rfl) ?_
   walk_at "rd"
   refine aZ rfl rfl (bu (xs:=([u,v]::b).map eT) (j:=0) rfl) ?_
   walk_at "rd"
   refine aZ rfl rfl (bu (xs:=([x,y]::a).map eT) (j:=0) rfl) ?_
   walk_at "rd"
   refine comp_map (xs:=[x,y]::a) (en:=eT) (f:=fun m=>eT (mvd ([x,y]::a) ([u,v]::b) m)) (by have:=pa.2;lia) (fun m hm A B hA=>?_) ?_
   ·obtain ⟨x',y',rfl⟩:=pa.1 m hm
    dsimp only [bz,JP,Jd,JW,JU,J6]
    walk_at "rd"
    exact hA _ rfl
   ·rw [show ([x,y]::a).map (fun m=>eT (mvd ([x,y]::a) ([u,v]::b) m))=(([x,y]::a).map (mvd ([x,y]::a) ([u,v]::b))).map eT by rw [Jt];rfl]
    walk_at "rd"
    change eH true (eL (([x,y]::a).map (mvd ([x,y]::a) ([u,v]::b)))) (eL ([u,v]::b)) _
    by_cases h2:([x,y]::a).map (mvd ([x,y]::a) ([u,v]::b))=[u,v]::b
    ·refine js cL h2 ?_
     walk_at "rc"
     exact q1 h2
    ·refine qa cL h2 ?_
     walk_at "rc"
     exact q2 h2
theorem HV (S:Src K mg "_law_ended" me) (T:Txt mg) (e22_:Has P w K mg base 2 "_law_move" ["_law_one","_law_other"] (spP K By)):Has P w K mg base 3 "_law_ended" ["_law_rows_here"] (spP K pC):=by
 refine bA S gL (by walk_at "1") (by walk_at "L") fun f cdv A outer s H E hr=>⟨_,_,(ah (aI (i:=1) gL.nd rfl (IW rfl) (au bj aC (aO (ef (K:=K) rfl) d9 (by rfl) T.len_ ck (aa (ae 0 (pv 0)) af)) ab))
  (ah (aR (aG (g9 (K:=K) rfl hr.units) dI (aF rfl (ae 0 (pv 0)) (ae 1 (pv 1)) (fun _ _=>rfl)) (aH (aN af)) (aB _)) (ak (ay (ai (aa bV (aa (aK (ae 1 (pv 1))) af))))) aD)
  (ah (cA Kb rfl (b9 rfl T.range (aa (ae 1 (pv 1)) af)) (aq (ao (i:=2) gL.nd rfl (IW rfl) (IW rfl))) (ah (aI (i:=3) gL.nd rfl (IW rfl) (aY e22_ hr (aa (aF rfl (ae 0 (pv 0)) (ae 2 (pv 2)) (fun _ _=>rfl)) (aa (aF rfl (ae 0 (pv 0)) (ae 1 (pv 1)) (fun _ _=>rfl)) af))))
  (ak (aR (aG xA Co (ae 3 (pv 3)) je (aB _)) (ak (ay (ai (aa bV (aa (aK (ae 2 (pv 2))) (aa (au bj aC (ae 1 (pv 1)) (ae 2 (pv 2))) (aa (aK (ae 3 (pv 3))) af))))))) aD))))
  (ak (ay (ai (aa bV af))))))),?_⟩
 rintro ds R ⟨rss,rfl,hne,hp,q⟩
 obtain ⟨ys,z,rfl⟩:∃ys z,rss=ys++[z]:=⟨rss.dropLast,rss.getLast hne,(M6 hne).symm⟩
 have hl:ys.length<=900:=by have:=hp.2;simp at this;lia
 have el:(((ys++[z]).map eL).length:Int)-1=(ys.length:Int):=by simp
 have hz:((ys++[z]).map eL)[ys.length]?=some (eL z):=by simp
 walk_at "sl"
 unfold eR
 walk_at "rd"
 rw [el]
 refine aZ rfl rfl (bu (j:=ys.length) hz) ?_
 walk_at "rd"
 change eH false (eL z) (eL []) _
 by_cases h0:z=[]
 ·refine kG cL h0 ?_
  walk_at "rc"
  exact q _ ⟨ys,z,rfl,.inl ⟨h0,rfl⟩⟩
 ·refine p9 cL h0 ?_
  walk_at "rc"
  rw [Lp]
  refine gh (fun i S2=>(∀j,j < i->∀a,ys[j]?=some a->a.map (mvd a z)≠z)/\∃x y,S2=[.val (.lst ((ys++[z]).map eL)),.val (.int ys.length),x,y]) ⟨fun j hj=>absurd hj (Kn j),_,_,rfl⟩ (fun i S2 hi hI=>?_) (fun S2 hI=>?_)
  ·obtain ⟨hI,x,y,rfl⟩:=hI
   have ha:ys[i]?=some ys[i]:=IL hi
   have ha':((ys++[z]).map eL)[i]?=some (eL ys[i]):=by rw [Jh,Jj hi,ha];rfl
   generalize ys[i]=a at ha ha'
   walk_at "rd"
   rw [Qg]
   refine aZ rfl rfl (bu (j:=i) ha') ?_
   walk_at "rd"
   refine aZ rfl rfl (bu (j:=ys.length) hz) ?_
   walk_at "rd"
   refine ⟨a,z,rfl,h0,hp.1 a (J3 _ (Jy ha)),hp.1 z (IU _ IQ),fun h=>?_,fun h=>?_⟩
   ·walk_at "rc"
    exact q _ ⟨ys,z,rfl,.inr (.inr ⟨h0,i,a,ha,rfl,h⟩)⟩
   ·walk_at "rc"
    refine ⟨fun j hj b hb=>?_,_,_,rfl⟩
    by_cases e:j=i
    ·subst e
     rw [ha] at hb
     cases hb
     exact h
    ·exact hI j (by lia) b hb
  ·obtain ⟨hI,x,y,rfl⟩:=hI
   walk_at "rd"
   refine q _ ⟨ys,z,rfl,.inr (.inl ⟨h0,fun a ha=>?_,rfl⟩)⟩
   obtain ⟨j,hj,rfl⟩:=K5 ha
   exact hI j hj _ (IL hj)
theorem HW (S:Src K mg "ends_as_told" eU) (T:Txt mg) (e7_:Has P w K mg base 4 "all_live_unlike" ["rows"] (spP K HP)) (e5_:Has P w K mg base 1 "moved" ["picture","move"] (spP K pB)):Has P w K mg base 5 "ends_as_told" ["rows","told"] (spP K Bx):=by
 refine bA S bT (by walk_at "2") (by walk_at "L") fun f cdv A outer s H E hr=>⟨_,_,(ah (aI (i:=2) bT.nd rfl (IW rfl) (au bj aC (aO (ef (K:=K) rfl) d9 (by rfl) T.len_ ck (aa (ae 0 (pv 0)) af)) ab))
  (ah (aR (aG bW dr (aF rfl (ae 1 (pv 1)) ab (fun _ _=>rfl)) bV (aB _)) (ak (ay (jg (cT bW dr (aF rfl (ae 1 (pv 1)) ab (fun _ _=>rfl)) (ae 2 (pv 2)) (aB _)) (jg (zG rfl (aF rfl (ae 0 (pv 0)) (b8 bB ab) (fun _ _=>rfl))) (jf (aO (wb rfl) wd (by rfl) T.all_ tX (aa (oX rfl (ae 0 (pv 0)) lC (gm (b8 bB ab))) af))))))) aD)
  (ah (aR (aG bW dr (aF rfl (ae 1 (pv 1)) ab (fun _ _=>rfl)) bV (aB _)) (ak (ay (aY e7_ hr (aa (ae 0 (pv 0)) af)))) aD)
  (ah (gY (ae 1 (pv 1)) (bF (n:=4) rfl rfl (az (aq (ao (i:=3) bT.nd rfl (IW rfl) (IW rfl))) (az (aq (ao (i:=4) bT.nd rfl (IW rfl) (IW rfl))) (az (aq (ao (i:=5) bT.nd rfl (IW rfl) (IW rfl))) (az (aq (ao (i:=6) bT.nd rfl (IW rfl) (IW rfl))) bf))))))
  (ah (aR (eu (ku (aG i4 aC (ae 4 (pv 4)) ab (aB _)) (ku (aG i4 aC (ae 5 (pv 5)) ab (aB _)) (lu (aG Ao Fo (au aS aC (ae 4 (pv 4)) (ae 5 (pv 5))) (ae 2 (pv 2)) (aB _)))))) (ak (ay cG)) aD)
  (ak (ay (jg (aY e7_ hr (aa (oX rfl (ae 0 (pv 0)) lC (gm (b8 bB ab))) af)) (jf (cT (g9 (K:=K) rfl hr.units) dI (aF rfl (ae 0 (pv 0)) (b8 bB ab) (fun _ _=>rfl)) (aY e5_ hr (aa (aF rfl (ae 0 (pv 0)) (ae 4 (pv 4)) (fun _ _=>rfl)) (aa (ae 6 (pv 6)) af))) (aB _))))))))))),?_⟩
 rintro ds R ⟨rss,x,rfl,hp,he,q⟩
 cases x with
 | on=>
  walk_at "sl"
  dsimp only [fE,eR]
  walk_at "rd"
  have el:((rss.map eL).length:Int)-1=(rss.length:Int)-1:=by rw [IR]
  rw [el]
  walk_at "rc"
  refine ⟨rss,rfl,hp,he,?_⟩
  walk_at "rc"
  exact q
 | gone t=>
  obtain ⟨ys,rfl,rfl,hy⟩:=he
  walk_at "sl"
  dsimp only [fE,eR]
  walk_at "rd"
  have el:(((ys++[[]]).map eL).length:Int)-1=(ys.length:Int):=by simp
  rw [el]
  walk_at "rc"
  rw [decide_eq_true rfl]
  walk_at "rc"
  refine aZ rfl rfl (BA ys []) ?_
  walk_at "rc"
  rw [nU]
  refine ⟨ys.map fun r=>r.map eT,by simp,?_⟩
  rw [wY hy]
  walk_at "rc"
  exact q
 | comes m n v=>
  obtain ⟨ys,z,a,i,rfl,rfl,rfl,ha,hl,rfl,hm⟩:=he
  walk_at "sl"
  dsimp only [fE,eR]
  walk_at "rd"
  have el:(((ys++[z]).map eL).length:Int)-1=(ys.length:Int):=by simp
  rw [el]
  walk_at "rc"
  have hi:=(List.getElem?_eq_some_iff.mp ha).1
  have ha':((ys++[z]).map eL)[i]?=some (eL a):=by rw [Jh,Jj hi,ha];rfl
  rw [decide_eq_false (by lia)]
  walk_at "rc"
  rw [decide_eq_true (by lia)]
  walk_at "rc"
  rw [nU]
  refine ⟨ys,rfl,hp.sub (List.sublist_append_left _ _),hl,?_⟩
  walk_at "rc"
  refine aZ rfl rfl (BA ys z) ?_
  walk_at "rd"
  refine aZ rfl rfl (bu (j:=i) ha') ?_
  walk_at "rd"
  refine ⟨a,_,_,rfl,hp.1 a (J3 _ (Jy ha)),?_⟩
  walk_at "rd"
  refine kG cL hm.symm ?_
  walk_at "rc"
  exact q
end
end My
namespace My
open PySem L2 VL
def Stop (f:Nat->List (List Int)) (t:Nat):Prop:=f t=[]\/∃m,m < t/\aM (f m)=aM (f t)
theorem Un.no {f:Nat->List (List Int)} {s t:Nat} (h:Un f s) (e:t < s):¬Stop f t:=by
 rintro (z | ⟨m,hm,z⟩)
 ·exact h.1 t e z
 ·exact h.2 m t hm e z
theorem Un.one {f:Nat->List (List Int)} {t m n:Nat} (h:Un f t) (hm:m < t) (hn:n < t) (e:aM (f m)=aM (f n)):m=n:=by
 rcases LO m n with c | c | c
 ·exact absurd e (h.2 m n c hn)
 ·exact c
 ·exact absurd e.symm (h.2 n m c hm)
theorem gP {f:Nat->List (List Int)} {s t:Nat} (a:Un f s) (b:Un f t) (c:Stop f s) (d:Stop f t):s=t:=by
 rcases LO s t with e | e | e
 ·exact absurd c (b.no e)
 ·exact e
 ·exact absurd d (a.no e)
theorem Fd.uniq {f:Nat->List (List Int)} {T:Nat} {x y:Ft} (hx:Fd f T x) (hy:Fd f T y):x=y:=by
 rcases hx with ⟨t,a,b,c,rfl⟩ | ⟨t,m,a,b,c,d,e,rfl⟩ | ⟨a,rfl⟩ <;> rcases hy with ⟨t',a',b',c',rfl⟩ | ⟨t',m',a',b',c',d',e',rfl⟩ | ⟨a',rfl⟩
 ·rw [gP b b' (.inl c) (.inl c')]
 ·obtain rfl:=gP b c' (.inl c) (.inr ⟨m',b',e'⟩);exact absurd c d'
 ·exact absurd (.inl c) (a'.no (show t < T+1 by lia))
 ·obtain rfl:=gP b' c (.inl c') (.inr ⟨m,b,e⟩);exact absurd c' d
 ·obtain rfl:=gP c c' (.inr ⟨m,b,e⟩) (.inr ⟨m',b',e'⟩)
  obtain rfl:=c.one b b' (e.trans e'.symm)
  rfl
 ·exact absurd (.inr ⟨m,b,e⟩) (a'.no (show t < T+1 by lia))
 ·exact absurd (.inl c') (a.no (show t' < T+1 by lia))
 ·exact absurd (.inr ⟨m',b',e'⟩) (a.no (show t' < T+1 by lia))
 ·rfl
def Fx (f:Nat->List (List Int)) (L:Nat) (x:Ft):Prop:=Un f L/\((f L=[]/\x=.gone L)\/(∃m,m < L/\f L≠[]/\aM (f m)=aM (f L)/\x=.comes m ((L:Int)-m) (mvb (f m) (f L)))\/(Un f (L+1)/\x=.on))
theorem Fx.fd {f:Nat->List (List Int)} {L:Nat} {x:Ft} (h:Fx f L x):Fd f L x:=by
 obtain ⟨u,⟨a,b⟩ | ⟨m,a,b,c,d⟩ | c⟩:=h
 ·exact .inl ⟨L,IS _,u,a,b⟩
 ·exact .inr (.inl ⟨L,m,IS _,a,u,b,c,d⟩)
 ·exact .inr (.inr c)
theorem Fx.more {f:Nat->List (List Int)} {L T:Nat} {x:Ft} (h:Fx f L x) (hx:x≠.on) (hT:L<=T):Fd f T x:=by
 obtain ⟨u,⟨a,b⟩ | ⟨m,a,b,c,d⟩ | c⟩:=h
 ·exact .inl ⟨L,hT,u,a,b⟩
 ·exact .inr (.inl ⟨L,m,hT,a,u,b,c,d⟩)
 ·exact absurd c.2 hx
theorem Fx.less {f:Nat->List (List Int)} {L:Nat} {x:Ft} (h:Fx f L x) (hL:0 < L):Fd f (L-1) .on:=.inr (.inr ⟨by rw [show L-1+1=L by lia];exact h.1,rfl⟩)
theorem Fx.stop {f:Nat->List (List Int)} {L:Nat} {x:Ft} (h:Fx f L x) (hx:x≠.on):Stop f L:=by
 obtain ⟨u,⟨a,b⟩ | ⟨m,a,b,c,d⟩ | c⟩:=h
 ·exact .inl a
 ·exact .inr ⟨m,a,c⟩
 ·exact absurd c.2 hx
theorem Fx.fit {f:Nat->List (List Int)} {L T:Nat} {x:Ft} (h:Fx f L x) (hp:∀m,m<=L->Pc (f m)) (hx:x≠.on):wM f T:=fun t _ u=>by
 by_cases e:t<=L
 ·exact hp t e
 ·exact absurd (h.stop hx) (u.no (by lia))
theorem fit_le {f:Nat->List (List Int)} {L T:Nat} (hp:∀m,m<=L->Pc (f m)) (h:T<=L):wM f T:=fun t a _=>hp t (by lia)
theorem pD {k:Int} (hk:Kd k) {a b:Int}:∀{xs:List (List Int)},(∀p∈xs,Pr p)->bes k (xs.map (mv a b))=(bes k xs).map (mv a b)
 | [],_=>rfl
 | p::xs,h=>by
  have ih:=pD hk (a:=a) (b:=b) (xs:=xs) fun q hq=>h q (IZ _ hq)
  obtain ⟨x,y,rfl⟩:=h p IQ
  unfold bes at ih ⊢
  rw [Jd,N1,N1,Jc,ih,Jt]
  congr 1
  refine JL fun s hs=>?_
  obtain ⟨u,v,rfl⟩:=qF hk hs
  show [_,_]=[_,_]
  congr 1
  ·lia
  ·congr 1;lia
theorem wZ {a b:Int} {m n:List Int} (hm:Pr m) (hn:Pr n) (e:mv a b m=mv a b n):m=n:=by
 obtain ⟨x,y,rfl⟩:=hm
 obtain ⟨z,u,rfl⟩:=hn
 simp only [mv,OD,and_true] at e ⊢
 exact ⟨by lia,by lia⟩
theorem mi {a b:Int} {c:List Int} {l:List (List Int)} (hc:Pr c) (h:∀p∈l,Pr p):mv a b c∈l.map (mv a b)↔c∈l:=by
 rw [NA]
 exact ⟨fun zt1=>by obtain ⟨n,hn,e⟩:=zt1;exact wZ (h n hn) hc e▸hn,fun h=>⟨c,h,rfl⟩⟩
theorem nV {a b:Int} {c:List Int} (hc:Pr c):∀{l:List (List Int)},(∀p∈l,Pr p)->(l.map (mv a b)).count (mv a b c)=l.count c
 | [],_=>rfl
 | m::l,h=>by
  rw [Jd,Ni,Ni,nV hc fun m hm=>h m (IZ _ hm)]
  congr 1
  have:(mv a b m==mv a b c)=(m==c):=by
   rw [Ky,beq_iff_eq,beq_iff_eq]
   exact ⟨fun e=>wZ (h m IQ) hc e,fun e=>by rw [e]⟩
  rw [this]
theorem EA {m n:List Int} {a b:Int} (hm:Pr m) (hn:Pr n):HT.lexLt (mv a b m) (mv a b n)=HT.lexLt m n:=by
 obtain ⟨x,y,rfl⟩:=hm
 obtain ⟨x',y',rfl⟩:=hn
 simp only [mv,HT.cR]
 by_cases h:x=x'
 ·subst h
  rw [if_pos rfl,if_pos rfl]
  by_cases h2:y=y'
  ·subst h2;rw [if_pos rfl,if_pos rfl]
  ·rw [if_neg h2,if_neg (by lia)]
   congr 1
   exact propext ⟨fun h=>by lia,fun h=>by lia⟩
 ·rw [if_neg h,if_neg (by lia)]
  congr 1
  exact propext ⟨fun h=>by lia,fun h=>by lia⟩
theorem EB {l:List (List Int)} {a b:Int} (h:∀m∈l,Pr m):srt (l.map (mv a b))=(srt l).map (mv a b):=by
 refine (lr ((bD l).map _) ?_).symm
 rw [KZ]
 refine Kt (fun {x y} hx hy hxy=>?_) (fG l)
 have px:=h x ((bD l).mem_iff.mp hx)
 have py:=h y ((bD l).mem_iff.mp hy)
 unfold lexLe at *
 rw [EA py px]
 exact hxy
theorem w4 {a b:Int}:∀{l:List (List Int)},(∀p∈l,Pr p)->ddp (l.map (mv a b))=(ddp l).map (mv a b)
 | [],_=>rfl
 | m::l,h=>by
  have ih:=w4 (a:=a) (b:=b) (l:=l) fun m hm=>h m (IZ _ hm)
  rw [Jd]
  unfold ddp
  by_cases c:m∈l
  ·rw [if_pos c,if_pos ((mi (h m IQ) fun m hm=>h m (IZ _ hm)).mpr c),ih]
  ·rw [if_neg c,if_neg fun z=>c ((mi (h m IQ) fun m hm=>h m (IZ _ hm)).mp z),ih];rfl
theorem HX {k:Int} (hk:Kd k) {bo st:List Int} {a b:Int} {xs:List (List Int)} (hp:∀p∈xs,Pr p):nx k bo st (xs.map (mv a b))=(nx k bo st xs).map (mv a b):=by
 have hb:=mh hk hp
 have ha:∀p∈bes k xs++xs,Pr p:=fun p h=>(List.mem_append.mp h).elim (hb p) (hp p)
 unfold nx
 rw [pD hk hp,<- Jc,w4 ha,List.filter_map,<- EB fun m hm=>ha m ((dq _).mp (List.mem_filter.mp hm).1)]
 congr 2
 refine Qa fun c hc=>?_
 have pc:=ha c ((dq _).mp hc)
 show liv k bo st (xs.map (mv a b)) (mv a b c)=liv k bo st xs c
 unfold liv
 rw [pD hk hp,nV pc hb]
 by_cases h:c∈xs
 ·simp only [h,(mi pc hp).mpr h,decide_true,if_true]
 ·have h':¬ mv a b c∈xs.map (mv a b):=fun z=>h ((mi pc hp).mp z)
  simp only [h,h',decide_false,Jk,if_false]
theorem dC {k:Int} (hk:Kd k) {bo st:List Int} {xs:List (List Int)} (hp:∀p∈xs,Pr p):∀n,∀p∈aft k bo st n xs,Pr p
 | 0=>hp
 | n+1=>Bt hk (dC hk hp n)
theorem mj {k:Int} (hk:Kd k) {bo st:List Int} {a b:Int} {xs:List (List Int)} (hp:∀p∈xs,Pr p):∀n,aft k bo st n (xs.map (mv a b))=(aft k bo st n xs).map (mv a b)
 | 0=>rfl
 | n+1=>by
  show nx k bo st (aft k bo st n (xs.map (mv a b)))=(nx k bo st (aft k bo st n xs)).map (mv a b)
  rw [mj hk hp n,HX hk (dC hk hp n)]
theorem EC {l r:List (List Int)} {a b:Int} (hl:∀m∈l,Pr m) (hr:∀m∈r,Pr m) (nl:l≠[]) (nr:r≠[]):mvb (l.map (mv a b)) (r.map (mv a b))=mvb l r:=by
 match l,r,nl,nr with
 | c::l,d::r,_,_=>
  obtain ⟨x,y,rfl⟩:=hl c IQ
  obtain ⟨u,v,rfl⟩:=hr d IQ
  show [u+a-(x+a),v+b-(y+b)]=[u-x,v-y]
  congr 1
  ·lia
  ·congr 1;lia
theorem Un.mv {f g:Nat->List (List Int)} {a b:Int} {t:Nat} (hg:∀m,g m=(f m).map (mv a b)) (hp:∀m,∀p∈f m,Pr p) (h:Un f t):Un g t:=
 ⟨fun m hm z=>h.1 m hm (by rw [hg m] at z;simpa using z),fun m n h1 h2 z=>h.2 m n h1 h2 (by rw [hg,hg,cC (hp m),cC (hp n)] at z;exact z)⟩
theorem Fd.mv {f g:Nat->List (List Int)} {a b:Int} {T:Nat} {x:Ft} (hg:∀m,g m=(f m).map (mv a b)) (hp:∀m,∀p∈f m,Pr p) (h:Fd f T x):Fd g T x:=by
 rcases h with ⟨t,h1,h2,h3,rfl⟩ | ⟨t,m,h1,h2,h3,h4,h5,rfl⟩ | ⟨h1,rfl⟩
 ·exact .inl ⟨t,h1,h2.mv hg hp,by rw [hg,h3];rfl,rfl⟩
 ·exact .inr (.inl ⟨t,m,h1,h2,h3.mv hg hp,fun z=>h4 (by rw [hg] at z;simpa using z),by rw [hg,hg,cC (hp m),cC (hp t)];exact h5,by rw [hg,hg,EC (hp m) (hp t) (h3.1 m h2) h4]⟩)
 ·exact .inr (.inr ⟨h1.mv hg hp,rfl⟩)
def lft (j:Nat):Ft->Ft
 | .on=>.on
 | .gone t=>.gone (t-j)
 | .comes m n v=>.comes (max 0 (m-j)) n v
theorem Ab {a:List (List Int)} {dx dy:Int} (ha:∀m∈a,Pr m) (na:a≠[]):mvb a (a.map (mv dx dy))=[dx,dy]/\mvd a (a.map (mv dx dy))=mv dx dy:=by
 match a,na with
 | c::a,_=>
  obtain ⟨x,y,rfl⟩:=ha c IQ
  have h1:x+dx-x=dx:=by lia
  have h2:y+dy-y=dy:=by lia
  constructor
  ·show [x+dx-x,y+dy-y]=_
   rw [h1,h2]
  ·show mv (x+dx-x) (y+dy-y)=_
   rw [h1,h2]
theorem qP (a b:List (List Int)):mvd a b=mv (fs (mvb a b)) (sn (mvb a b)):=rfl
theorem Ac {f:Nat->List (List Int)} {L j:Nat} {x:Ft} (hp:∀m,∀p∈f m,Pr p) (hm:∀m n a b,f m=(f n).map (mv a b)->∀i,f (m+i)=(f (n+i)).map (mv a b)) (h:Fx f L x) (hx:x≠.on) (hj:j < L):Fd (fun t=>f (j+t)) L (lft j x):=by
 obtain ⟨u,⟨h1,rfl⟩ | ⟨m,h1,h2,h3,rfl⟩ | c⟩:=h
 ·refine .inl ⟨L-j,by lia,⟨fun m hm=>u.1 _ (by lia),fun m n a b=>u.2 _ _ (by lia) (by lia)⟩,?_,?_⟩
  ·show f (j+(L-j))=[]
   rw [show j+(L-j)=L by lia];exact h1
  ·show Ft.gone ((L:Int)-j)=_
   congr 1;lia
 ·have nm:=u.1 m h1
  have key:=(iZ (hp m) (hp L) nm).mp h3
  rw [qP] at key
  have per:=hm L m _ _ key.symm
  by_cases hmj:j<=m
  ·refine .inr (.inl ⟨L-j,m-j,by lia,by lia,⟨fun m hm=>u.1 _ (by lia),fun m n a b=>u.2 _ _ (by lia) (by lia)⟩,?_,?_,?_⟩)
   ·show f (j+(L-j))≠[]
    rw [show j+(L-j)=L by lia];exact h2
   ·show aM (f (j+(m-j)))=aM (f (j+(L-j)))
    rw [show j+(L-j)=L by lia,show j+(m-j)=m by lia];exact h3
   ·show Ft.comes (max 0 ((m:Int)-j)) ((L:Int)-m) (mvb (f m) (f L))=.comes ((m-j:Nat):Int) _ (mvb (f (j+(m-j))) (f (j+(L-j))))
    rw [show j+(L-j)=L by lia,show j+(m-j)=m by lia]
    congr 1 <;> lia
  ·-- from turn L on the row goes as from turn m on,moved
   have at_:∀s,j<=s->s < j+(L-m)->∃s',s' < L/\(s < L->s'=s)/\(L<=s->s'+(L-m)=s)/\(f s≠[]↔f s'≠[])/\aM (f s)=aM (f s'):=fun s hs1 hs2=>by
    by_cases hs:s < L
    ·exact ⟨s,hs,fun _=>rfl,fun z=>absurd z (by lia),Iff.rfl,rfl⟩
    ·have e:=per (s-L)
     rw [show L+(s-L)=s by lia] at e
     refine ⟨m+(s-L),by lia,fun z=>absurd z (by lia),fun _=>by lia,?_,?_⟩
     ·rw [e];simp
     ·rw [e,cC (hp _)]
   have e0:=per (j-m)
   rw [show L+(j-m)=j+(L-m) by lia,show m+(j-m)=j by lia] at e0
   have nj:=u.1 j hj
   refine .inr (.inl ⟨L-m,0,by lia,by lia,⟨fun s hs=>?_,fun s t hst ht z=>?_⟩,?_,?_,?_⟩)
   ·obtain ⟨s',a,_,_,b,_⟩:=at_ (j+s) (by lia) (by lia)
    exact b.mpr (u.1 s' a)
   ·obtain ⟨s',a,b,c,_,d⟩:=at_ (j+s) (by lia) (by lia)
    obtain ⟨t',a',b',c',_,d'⟩:=at_ (j+t) (by lia) (by lia)
    have:=u.one a a' (d.symm.trans (z.trans d'))
    by_cases q1:j+s < L <;> by_cases q2:j+t < L
    ·have:=b q1;have:=b' q2;lia
    ·have:=b q1;have:=c' (by lia);lia
    ·have:=c (by lia);have:=b' q2;lia
    ·have:=c (by lia);have:=c' (by lia);lia
   ·show f (j+(L-m))≠[]
    rw [e0];simpa using nj
   ·show aM (f (j+0))=aM (f (j+(L-m)))
    rw [e0,cC (hp _)];rfl
   ·show Ft.comes (max 0 ((m:Int)-j)) ((L:Int)-m) (mvb (f m) (f L))=.comes ((0:Nat):Int) _ (mvb (f (j+0)) (f (j+(L-m))))
    rw [e0,show j+0=j from rfl]
    have e1:mvb (f j) ((f j).map (mv (fs (mvb (f m) (f L))) (sn (mvb (f m) (f L)))))=mvb (f m) (f L):=by
     exact (Ab (hp j) nj).1
    rw [e1]
    congr 1 <;> lia
 ·exact absurd c.2 hx
end My
namespace My
open PySem L2 VL
def rws (k:Int) (bo st:List Int) (T:Nat) (xs:List (List Int)):List (List (List Int)):=(JS (T+1)).map fun m=>aft k bo st m xs
theorem jX (k:Int) (bo st:List Int) (T:Nat) (xs:List (List Int)):rws k bo st (T+1) xs=rws k bo st T xs++[aft k bo st (T+1) xs]:=by
 unfold rws
 rw [Nj,Jc]
 rfl
theorem gQ (k:Int) (bo st:List Int) (T:Nat) (xs:List (List Int)):(rws k bo st T xs).length=T+1:=by simp [rws]
theorem fU {l:List D}:atI (l++[d]) (-1)=some d:=by
 have h:ixN (l++[d]).length (-1)=some l.length:=by
  unfold ixN
  rw [Ji,Kc,if_neg (by lia),if_pos (by lia)]
  congr 1
  lia
 unfold atI
 rw [h]
 show (l++[d])[l.length]?=some d
 simp
theorem jY (k:Int) (bo st:List Int) (T:Nat) (xs:List (List Int)):atI ((rws k bo st T xs).map eL) (-1)=some (eL (aft k bo st T xs)):=by
 cases T with
 | zero=>rfl
 | succ T=>rw [jX,Jc];exact fU
theorem mm {k:Int} {bo st:List Int} {T:Nat} {xs:List (List Int)} {i:Nat} {a:List (List Int)} (h:(rws k bo st T xs)[i]?=some a):i<=T/\a=aft k bo st i xs:=by
 unfold rws at h
 rw [Jh] at h
 obtain ⟨j,hj,e⟩:=Option.map_eq_some_iff.mp h
 have h1:=(List.getElem?_eq_some_iff.mp hj)
 obtain ⟨h2,h3⟩:=h1
 rw [Kj] at h2
 rw [NC] at h3
 exact ⟨by lia,by rw [<- e,h3]⟩
theorem qQ {k:Int} {bo st:List Int} {T:Nat} {xs:List (List Int)} {i:Nat} (h:i<=T):(rws k bo st T xs)[i]?=some (aft k bo st i xs):=by
 unfold rws
 rw [Jh,List.getElem?_range (by lia)]
 rfl
def ini (k:Int) (bo st:List Int) (T:Nat) (xs:List (List Int)):Rw:=(JS T).map fun m=>aft k bo st m xs
theorem d7 (k:Int) (bo st:List Int) (T:Nat) (xs:List (List Int)):rws k bo st T xs=ini k bo st T xs++[aft k bo st T xs]:=by
 unfold rws ini
 rw [Nj,Jc];rfl
theorem fh (k:Int) (bo st:List Int) (T:Nat) (xs:List (List Int)):(ini k bo st T xs).length=T:=by simp [ini]
theorem w6 {k:Int} {bo st:List Int} {T:Nat} {xs:List (List Int)} {i:Nat} {a:List (List Int)} (h:(ini k bo st T xs)[i]?=some a):i < T/\a=aft k bo st i xs:=by
 have hi:=(List.getElem?_eq_some_iff.mp h).1
 rw [fh] at hi
 have:=mm (k:=k) (bo:=bo) (st:=st) (T:=T) (xs:=xs) (i:=i) (a:=a) (by rw [d7,Jj (by rw [fh];exact hi)];exact h)
 exact ⟨hi,this.2⟩
theorem ED (k:Int) (bo st:List Int) (T:Nat) (xs:List (List Int)):Tn k bo st (rws k bo st T xs):=fun i a b h1 h2=>by
 rw [(mm h1).2,(mm h2).2];rfl
theorem mn {k:Int} {bo st:List Int} {T:Nat} {xs:List (List Int)} (h:∀m,m<=T->Pc (aft k bo st m xs)) (hT:T<=100):Pcs (rws k bo st T xs):=⟨fun r hr=>by
 obtain ⟨i,hi,e⟩:=K5 hr
 have:=mm (List.getElem?_eq_some_iff.mpr ⟨hi,e⟩)
 rw [this.2];exact h i this.1,by rw [gQ];lia⟩
theorem pE {k:Int} {bo st:List Int} {T:Nat} {xs:List (List Int)} (u:Un (fun m=>aft k bo st m xs) T):Lv (ini k bo st T xs):=by
 refine ⟨fun r hr=>?_,?_⟩
 ·obtain ⟨i,hi,e⟩:=K5 hr
  have:=w6 (List.getElem?_eq_some_iff.mpr ⟨hi,e⟩)
  rw [this.2];exact u.1 i this.1
 ·unfold ini
  rw [Jt]
  refine List.pairwise_map.mpr (Kt (fun {a b} ha hb hab=>?_) (Mn (n:=T)))
  exact u.2 a b hab (List.mem_range.mp hb)
theorem BB {k:Int} {bo st:List Int} {L:Nat} {xs:List (List Int)} {x:Ft} (hk:Kd k) (hp:∀p∈xs,Pr p) (u:Un (fun m=>aft k bo st m xs) L) (s:Shw (rws k bo st L xs) x):Fx (fun m=>aft k bo st m xs) L x:=by
 obtain ⟨ys,z,e,s⟩:=s
 rw [d7] at e
 obtain ⟨e1,e2⟩:=wO e
 have kk:∀i,i < L->(aM (aft k bo st i xs)=aM (aft k bo st L xs)↔(aft k bo st i xs).map (mvd (aft k bo st i xs) (aft k bo st L xs))=aft k bo st L xs):=fun i hi=>iZ (dC hk hp i) (dC hk hp L) (u.1 i hi)
 subst e1 e2
 refine ⟨u,?_⟩
 rw [fh] at s
 rcases s with ⟨h1,rfl⟩ | ⟨h1,h2,rfl⟩ | ⟨h1,i,a,h2,rfl,h3⟩
 ·exact .inl ⟨h1,rfl⟩
 ·refine .inr (.inr ⟨⟨fun m hm=>?_,fun m n a b z=>?_⟩,rfl⟩)
  ·by_cases c:m < L
   ·exact u.1 m c
   ·obtain rfl:m=L:=by lia
    exact h1
  ·by_cases c:n < L
   ·exact u.2 m n a c z
   ·obtain rfl:n=L:=by lia
    exact h2 _ (List.mem_map.mpr ⟨m,List.mem_range.mpr a,rfl⟩) ((kk m a).mp z)
 ·obtain ⟨hi,rfl⟩:=w6 h2
  exact .inr (.inl ⟨i,hi,h1,(kk i hi).mpr h3,rfl⟩)
theorem Ad {k:Int} {bo st:List Int} {L:Nat} {xs:List (List Int)} {x:Ft} (hk:Kd k) (hp:∀p∈xs,Pr p) (h:Fx (fun m=>aft k bo st m xs) L x):Ends (rws k bo st L xs) x:=by
 obtain ⟨u,⟨a,rfl⟩ | ⟨m,a,b,c,rfl⟩ | ⟨a,rfl⟩⟩:=h
 ·exact ⟨ini k bo st L xs,by rw [d7];congr 2,by rw [fh],(pE u).1⟩
 ·refine ⟨ini k bo st L xs,aft k bo st L xs,aft k bo st m xs,m,d7 ..,rfl,by rw [fh],?_,pE u,rfl,(iZ (dC hk hp m) (dC hk hp L) (u.1 m a)).mp c⟩
  have:=qQ (k:=k) (bo:=bo) (st:=st) (xs:=xs) (show m<=L by lia)
  rw [d7,Jj (by rw [fh];exact a)] at this
  exact this
 ·have:=pE a
  rw [show ini k bo st (L+1) xs=rws k bo st L xs from rfl] at this
  exact this
def Fit (k:Int) (bo st:List Int) (T:Nat) (xs:List (List Int)):Prop:=∀m,m<=T->Pc (aft k bo st m xs)
def w9:List D->(D->Prop)->Prop:=fun ds R=>∃k bo st xs,∃T:Nat,ds=[rl k bo st,eL xs,.int T]/\Kd k/\0∉bo/\T<=100/\Fit k bo st T xs/\R (eR (rws k bo st T xs))
def BC:List D->(D->Prop)->Prop:=fun ds R=>∃k bo st xs,∃T:Nat,ds=[rl k bo st,eL xs,.int T]/\Kd k/\(∀p∈xs,Pr p)/\xs.length<=15/\T<=100/\∀L,L<=T->Un (fun m=>aft k bo st m xs) L->(∀m,m<=L->Pc (aft k bo st m xs))->R (eR (rws k bo st L xs))
def pIsF:List D->(D->Prop)->Prop:=fun ds R=>∃k bo st xs,∃T:Nat,∃x,ds=[rl k bo st,eL xs,.int T,fE x]/\Kd k/\0∉bo/\T<=1000/\wM (fun m=>aft k bo st m xs) T/\Fd (fun m=>aft k bo st m xs) T x/\R (.bl true)
def EE (j:Int):Ft->Ft
 | .on=>.on
 | .gone t=>.gone (t-j)
 | .comes m n v=>.comes (max 0 (m-j)) n v
def BD:List D->(D->Prop)->Prop:=fun ds R=>∃x j,ds=[fE x,.int j]/\x≠.on/\R (fE (EE j x))
def HY:List D->(D->Prop)->Prop:=fun ds R=>∃xs,ds=[eL xs]/\(∀p∈xs,Pr p)/\xs.length<=15/\∀b,R (.bl b)
section
variable {P:Jp} {w:JQ} {K:IJ} {mg:Str->Option IP} {base:Heap}
theorem xf (S:Src K mg "turns" o3) (T:Txt mg) (e1_:Has P w K mg base 2 "refuse_loud" ["rule"] (spP K nP)) (e2_:Has P w K mg base 4 "next_turn" ["rule","picture"] (spP K pNx)):Has P w K mg base 5 "turns" ["rule","picture","many"] (spP K w9):=by
 refine bA S lW (by walk_at "3") (by walk_at "L") fun f cdv A outer s H E hr=>⟨_,_,(ah (de (aY e1_ hr (aa (ae 0 (pv 0)) af)))
  (ah (dS (fun _ h=>bU (i:=3) lW.nd rfl (IW rfl) h) (aN (aa (aH (gb rfl (by rfl) T.list_ (aa (ae 1 (pv 1)) af))) af)))
  (ah (cA Kb rfl (b9 rfl T.range (aa (ae 2 (pv 2)) af)) (aq (ao (i:=4) lW.nd rfl (IW rfl) (IW rfl))) (ak (de (ox 3 rfl (pv 3) (aY e2_ hr (aa (ae 0 (pv 0)) (aa (aF rfl (ae 3 (pv 3)) (b8 bB ab) (fun _ _=>rfl)) af)))))))
  (ak (ay (aK (ae 3 (pv 3)))))))),?_⟩
 rintro ds R ⟨k,bo,st,xs,T',rfl,hk,h0,hT,hf,q⟩
 walk_at "sl"
 walk_at "rd"
 refine ⟨k,bo,st,rfl,h0,?_⟩
 walk_at "rd"
 refine mV rfl (dG _) ?_
 walk_at "rd"
 refine gh (fun i S=>∃v4,S=[.val (rl k bo st),.val (eL xs),.val (.int T'),.own ((rws k bo st i xs).map eL),v4]) ⟨_,rfl⟩ ?_ ?_
 ·rintro i S2 hi ⟨v4,rfl⟩
  have hi':i < T':=by lia
  obtain ⟨h1,h2⟩:=hf i (by lia)
  walk_at "rd"
  refine aZ rfl rfl (jY k bo st i xs) ?_
  walk_at "rd"
  refine ⟨k,bo,st,_,rfl,hk,h0,h1,by lia,?_⟩
  walk_at "rd"
  refine oA (ds:=(rws k bo st i xs).map eL) rfl (by rw [IR,gQ];lia) ?_
  walk_at "rd"
  exact ⟨_,by rw [jX,Jc];rfl⟩
 ·rintro S2 ⟨v4,rfl⟩
  walk_at "rd"
  exact q
theorem mq {xs:List Int} {s0 s1 s2 s3 s4 s5 s6:Sl} {Q:VR->List Sl->Prop} (hl:xs.length<=10) (h:Q (.d (.bl true)) [s0,s1,s2,s3,s4,s5,s6]):iC 1 [] (vgN 0) (vOr (Cp (f9 (vCB xZ (fw (mO 0) (fw (vC (D.ty "int")) ot))))) (f9 (vCB xZ (fw (mO 0) (fw (vC (D.ty "bool")) ot))))) (pT (mO 0)) (CW (k2a (eH false) (xY (Cq ot)) Q)) (xs.map .int) [s0,s1,s2,s3,s4,s5,s6]:=by
 refine di (xs:=xs) (en:=D.int) (f:=D.int) (p:=fun _=>false) (by lia) (fun n hn A B hA hB=>?_) ?_
 ·dsimp only [bz,JP,Jd,JW,JU,J6]
  walk_at "rc"
  exact hB _ rfl rfl
 ·rw [show xs.filter (fun _=>false)=[] by simp]
  walk_at "rd"
  change eH false (eL []) (eL []) _
  refine kG cL (x:=[]) (y:=[]) rfl ?_
  exact h
theorem Ae (S:Src K mg "_law_left" o9) (T:Txt mg):Has P w K mg base 1 "_law_left" ["_law_due","_law_turn"] (spP K BD):=by
 refine bA S zP (by walk_at "2") (by walk_at "L") fun f cdv A outer s H E hr=>⟨_,_,(ah (aR (aG bW dr (aF rfl (ae 0 (pv 0)) ab (fun _ _=>rfl)) bV (aB _)) (ak (ay (ai (aa bV (aa (au bj aC (aF rfl (ae 0 (pv 0)) ab (fun _ _=>rfl)) (ae 1 (pv 1))) af))))) aD)
  (ak (ay (ai (aa bV (aa (aO (qX rfl) Ik (by rfl) T.max_ oz (aa ab (aa (au bj aC (aF rfl (ae 0 (pv 0)) ab (fun _ _=>rfl)) (ae 1 (pv 1))) af))) (aa (aK (aF rfl (ae 0 (pv 0)) ab (fun _ _=>rfl))) (aa (aK (aF rfl (ae 0 (pv 0)) ab (fun _ _=>rfl))) af)))))))),?_⟩
 rintro ds R ⟨x,j,rfl,hx,q⟩
 cases x with
 | on=>exact absurd rfl hx
 | gone t=>
  unfold fE
  walk_at "sl"
  walk_at "rc"
  exact q
 | comes m n v=>
  unfold fE
  walk_at "sl"
  walk_at "rc"
  rw [show (if m-j > 0 then m-j else 0)=max 0 (m-j) by lia]
  exact q
theorem Af (S:Src K mg "_law_rows" o8) (T:Txt mg) (e6_:Has P w K mg base 3 "_law_ended" ["_law_rows_here"] (spP K pC)) (e10_:Has P w K mg base 2 "_law_next" ["_law_told","_law_live"] (spP K wJ)):Has P w K mg base 4 "_law_rows" ["_law_told","_law_live","_law_most"] (spG K BC):=by
 refine HA S qE (by walk_at "3") (by walk_at "L") fun f cdv A outer s H E hr=>⟨_,_,(ah (dS (fun _ h=>bU (i:=3) qE.nd rfl (IW rfl) h) (aN (aa (dW 1 (pv 1)) af)))
  (ah (uv Kb (eu (dt (aG (g9 (K:=K) rfl hr.units) dI (aY e6_ hr (aa (ae 3 (pv 3)) af)) (ai (aa bV af)) (aB _)) (dt (aG E3 aC (aO (ef (K:=K) rfl) d9 (by rfl) T.len_ ck (aa (ae 3 (pv 3)) af)) (ae 2 (pv 2)) (aB _)) (dR (aG i4 aC (aO (ef (K:=K) rfl) d9 (by rfl) T.len_ ck (aa (aF rfl (ae 3 (pv 3)) (b8 bB ab) (fun _ _=>rfl)) af)) ab (aB _)))))) (ak (de (ox 3 rfl (pv 3) (aY e10_ hr (aa (ae 0 (pv 0)) (aa (aF rfl (ae 3 (pv 3)) (b8 bB ab) (fun _ _=>rfl)) af)))))))
  (ak (ay (aK (ae 3 (pv 3))))))),?_⟩
 rintro ds R ⟨k,bo,st,xs,T',rfl,hk,hp,hl,hT,q⟩
 show x4 _ _ _ [.fre (rl k bo st),.fre (eL xs),.fre (.int T'),.no]
 walk_at "rd"
 refine ⟨fun n S=>∃i:Nat,i<=T'/\n+i=T'/\Un (fun m=>aft k bo st m xs) i/\(∀m,m<=i->Pc (aft k bo st m xs))/\S=[.fre (rl k bo st),.fre (eL xs),.fre (.int T'),.own ((rws k bo st i xs).map eL)],⟨T',0,by lia,by lia,⟨fun m hm=>absurd hm (Kn m),fun m n _ hn=>absurd hn (Kn n)⟩,fun m hm=>?_,rfl⟩,?_⟩
 ·obtain rfl:m=0:=by lia
  exact ⟨hp,by show xs.length<=2000;lia⟩
 ·rintro n S2 ⟨i,hi,hn,un,fit,rfl⟩
  have pz:=fit i (IS _)
  have hi':i<=100:=by lia
  have ex:∀L,L<=T'->Un (fun m=>aft k bo st m xs) L->(∀m,m<=L->Pc (aft k bo st m xs))->R (eR (rws k bo st L xs)):=q
  walk_at "rd"
  refine ⟨rws k bo st i xs,rfl,by rw [d7];simp,mn fit hi',fun x sx=>?_⟩
  have fx:=BB hk hp un sx
  walk_at "rd"
  change eH false (fE x) (fE .on) _
  by_cases hx:x=.on
  ·refine kG fP hx ?_
   have un':Un (fun m=>aft k bo st m xs) (i+1):=by
    subst hx
    obtain ⟨_,⟨_,z⟩ | ⟨_,_,_,_,z⟩ | ⟨z,_⟩⟩:=fx
    ·cases z
    ·cases z
    ·exact z
   walk_at "rc"
   rw [IR,gQ]
   by_cases c1:i+1<=T'
   ·rw [decide_eq_true (by lia)]
    walk_at "rc"
    refine aZ rfl rfl (jY k bo st i xs) ?_
    walk_at "rc"
    rw [IR]
    by_cases c2:(aft k bo st i xs).length < 150
    ·rw [decide_eq_true (by lia)]
     walk_at "rc"
     rw [if_pos rfl]
     walk_at "rd"
     refine aZ rfl rfl (jY k bo st i xs) ?_
     walk_at "rd"
     refine ⟨k,bo,st,_,rfl,hk,pz.1,by lia,?_⟩
     walk_at "rd"
     refine oA (ds:=(rws k bo st i xs).map eL) rfl (by rw [IR,gQ];lia) ?_
     refine ⟨T'-(i+1),by lia,i+1,by lia,by lia,un',fun m hm=>?_,by rw [jX,Jc];rfl⟩
     by_cases hm':m<=i
     ·exact fit m hm'
     ·obtain rfl:m=i+1:=by lia
      have nl:=Eu (bo:=bo) (st:=st) hk (aft k bo st i xs)
      exact ⟨Bt hk pz.1,by show (nx k bo st (aft k bo st i xs)).length<=2000;lia⟩
    ·rw [decide_eq_false (by lia)]
     walk_at "rc"
     rw [if_neg IT]
     walk_at "rd"
     exact ex i hi un fit
   ·rw [decide_eq_false (by lia)]
    walk_at "rc"
    rw [if_neg IT]
    walk_at "rd"
    exact ex i hi un fit
  ·refine p9 fP hx ?_
   walk_at "rc"
   rw [if_neg IT]
   walk_at "rd"
   exact ex i hi un fit
theorem EF (S:Src K mg "_law_is_fate" gM) (T:Txt mg) (e21_:Has P w K mg base 5 "fate" ["rule","picture","most"] (spP K Bw)):Has P w K mg base 6 "_law_is_fate" ["_law_told","_law_live","_law_most","_law_due"] (spP K pIsF):=by
 refine bA S dO (fun _ _ _ _ _ _ us hl=>match us,hl with | [_,_,_,_],_=>rfl) (by walk_at "L") fun f cdv A outer s H E hr=>⟨_,_,(ah (aI (i:=4) dO.nd rfl (IW rfl) (aH (gb rfl (by rfl) T.list_ (aa (ae 1 (pv 1)) af))))
  (ah (aI (i:=5) dO.nd rfl (IW rfl) (aY e21_ hr (aa (ae 0 (pv 0)) (aa (ae 4 (pv 4)) (aa (ae 2 (pv 2)) af)))))
  (ah (aR (eu (ku (cK (cq (aO (pX (K:=K) rfl) pU (by rfl) T.isinstance_ cD (aa (ae 5 (pv 5)) (aa (pS (iK (v:=.ty "tuple") (by rfl) T.tuple_ i9 rfl) (fun _ _=>.ty _)) af))))) (ku (aG (fI (K:=K) rfl hr.units) dI (ae 5 (pv 5)) (ae 3 (pv 3)) (aB _)) (lu (aG (fI (K:=K) rfl hr.units) dI (ae 4 (pv 4)) (ae 1 (pv 1)) (aB _)))))) (ak (ay cG)) aD)
  (ah (aI (i:=6) dO.nd rfl (IW rfl) (aH (gb rfl (by rfl) T.list_ (aa (DZ rfl (ae 5 (pv 5)) (gm ab) (gm ab)) af))))
  (ah (aR (aG bW dr (aF rfl (ae 3 (pv 3)) ab (fun _ _=>rfl)) bV (aB _)) (ah (aR (cK (cq (aO (pX (K:=K) rfl) pU (by rfl) T.isinstance_ cD (aa (aF rfl (ae 5 (pv 5)) ab (fun _ _=>rfl)) (aa (pS (iK (v:=.ty "tuple") (by rfl) T.tuple_ i9 rfl) (fun _ _=>.ty _)) af))))) (ak (ay cG)) aD)
  (ak (aI (i:=6) dO.nd rfl (IW rfl) (aH (yP rfl (ae 6 (pv 6)) (gb rfl (by rfl) T.list_ (aa (aF rfl (ae 5 (pv 5)) ab (fun _ _=>rfl)) af))))))) aD)
  (ak (ay (cT (g9 (K:=K) rfl hr.units) dI (aH (bM (tg:=["_law_n"]) (cs:=[]) (ix:=[]) (aP (aj gM) ["_law_told","_law_live","_law_most","_law_due","_law_handed","_law_found","_law_numbers"] (by decide +kernel)) rfl (bQ (by decide)) (by decide) (bq rfl (ae 6 (pv 6))) (fun _ _ _ _=>(aq (ao (i:=0) (show (["_law_n"]:List Str).Nodup by decide +kernel) rfl (IW rfl) (by first | exact IW rfl | exact Kr rfl)))) (fun _ _ _ _=>(eX (eu (ku (cK (cq (aO (pX (K:=K) rfl) pU (by rfl) T.isinstance_ cD (aa (ae 0 (pv 0)) (aa (pS (iK (v:=.ty "int") (by rfl) T.int_ oe rfl) (fun _ _=>.ty _)) af))))) (lu (cq (aO (pX (K:=K) rfl) pU (by rfl) T.isinstance_ cD (aa (ae 0 (pv 0)) (aa (pS (iK (v:=.ty "bool") (by rfl) T.bool_ xK rfl) (fun _ _=>.ty _)) af))))))))) (fun _ _ _ _=>(aK (ae 0 (pv 0)))))) (aH (aN af)) (aB _))))))))),?_⟩
 rintro ds R ⟨k,bo,st,xs,T',x,rfl,hk,h0,hT,fit,fd,q⟩
 walk_at "sl"
 walk_at "rd"
 refine mV rfl (dG _) ?_
 walk_at "rd"
 refine ⟨k,bo,st,xs,T',rfl,hk,h0,hT,fit,fun y fy=>?_⟩
 obtain rfl:=fd.uniq fy
 have ok:=fd.ok
 walk_at "rd"
 refine AI (b:=true) (by cases x <;> exact fun _ z=>nomatch z) (by cases x <;> rfl) ?_ (by cases x <;> rfl)
 walk_at "rc"
 refine js fP (x:=x) (y:=x) rfl ?_
 walk_at "rc"
 refine js cL (x:=xs) (y:=xs) rfl ?_
 cases x with
 | on=>
  unfold fE
  walk_at "rc"
  refine ⟨1,rfl,3,rfl,[.str "on"],rfl,rfl,(by simp [HT.sIx]),?_⟩
  rw [show cutD [D.str "on"] (some 1) (some 3)=[] by rfl]
  walk_at "rc"
  refine eI (ds:=[]) rfl rfl ?_
  walk_at "rc"
  refine mq (xs:=[]) (by simp) ?_
  walk_at "rc"
  exact q
 | gone t=>
  unfold fE
  walk_at "rc"
  refine ⟨1,rfl,3,rfl,[.str "gone",.int t],rfl,rfl,(by simp [HT.sIx]),?_⟩
  rw [show cutD [D.str "gone",.int t] (some 1) (some 3)=[.int t] by rfl]
  walk_at "rc"
  refine eI (ds:=[.int t]) rfl rfl ?_
  walk_at "rc"
  refine mq (xs:=[t]) (by simp) ?_
  walk_at "rc"
  exact q
 | comes m n v=>
  obtain ⟨x,y,rfl⟩:=ok
  unfold fE
  walk_at "rc"
  refine ⟨1,rfl,3,rfl,[.str "comes",.int m,.int n,eT [x,y]],rfl,rfl,(by simp [HT.sIx]),?_⟩
  rw [show cutD [D.str "comes",.int m,.int n,eT [x,y]] (some 1) (some 3)=[.int m,.int n] by rfl]
  walk_at "rc"
  refine eI (ds:=[.int m,.int n]) rfl rfl ?_
  walk_at "rc"
  refine eI (ds:=[.int x,.int y]) rfl rfl ?_
  walk_at "rc"
  refine DF (ds:=[.int m,.int n]) rfl rfl (by simp) ?_
  walk_at "rc"
  refine mq (xs:=[m,n,x,y]) (by simp) ?_
  walk_at "rc"
  exact q
theorem xg (S:Src K mg "_law_is_row" gJ) (T:Txt mg):Has P w K mg base 1 "_law_is_row" ["_law_live"] (spP K HY):=by
 refine bA S wj (by walk_at "1") (by walk_at "L") fun f cdv A outer s H E hr=>⟨_,_,(ak (ay (Fv (cT bW dr (jx rfl rfl (by rfl) T.len_ (by rfl) T.set_ (aa (aH (bM (tg:=["_law_x","_law_y"]) (cs:=[]) (ix:=[]) (aP (aj gJ) ["_law_live"] (by decide +kernel)) rfl (bL (by decide) (by decide)) (by decide) (bq rfl (ae 0 (pv 0))) (fun _ _ _ _=>(bF (n:=2) rfl rfl (az (aq (ao (i:=0) (show (["_law_x","_law_y"]:List Str).Nodup by decide +kernel) rfl (IW rfl) (by first | exact IW rfl | exact Kr rfl))) (az (aq (ao (i:=1) (show (["_law_x","_law_y"]:List Str).Nodup by decide +kernel) rfl (IW rfl) (by first | exact IW rfl | exact Kr rfl))) bf)))) (fun _ _ _ _=>bY) (fun _ _ _ _=>(aK (ae 0 (pv 0)))))) af)) ab (aB _)) (jf (cT bW dr (jx rfl rfl (by rfl) T.len_ (by rfl) T.set_ (aa (aH (bM (tg:=["_law_x","_law_y"]) (cs:=[]) (ix:=[]) (aP (aj gJ) ["_law_live"] (by decide +kernel)) rfl (bL (by decide) (by decide)) (by decide) (bq rfl (ae 0 (pv 0))) (fun _ _ _ _=>(bF (n:=2) rfl rfl (az (aq (ao (i:=0) (show (["_law_x","_law_y"]:List Str).Nodup by decide +kernel) rfl (IW rfl) (by first | exact IW rfl | exact Kr rfl))) (az (aq (ao (i:=1) (show (["_law_x","_law_y"]:List Str).Nodup by decide +kernel) rfl (IW rfl) (by first | exact IW rfl | exact Kr rfl))) bf)))) (fun _ _ _ _=>bY) (fun _ _ _ _=>(aK (ae 1 (pv 1)))))) af)) ab (aB _)))))),?_⟩
 rintro ds R ⟨xs,rfl,hp,hl,q⟩
 walk_at "sl"
 walk_at "rd"
 refine comp_map (f:=fun m=>.int (fs m)) (by lia) (fun m hm A B hA=>?_) ?_
 ·obtain ⟨x,y,rfl⟩:=hp m hm
  dsimp only [bz,JP,Jd,JW,JU,J6]
  walk_at "rd"
  exact hA _ rfl
 walk_at "rd"
 rw [show xs.map (fun m=>D.int (fs m))=(xs.map fs).map .int by rw [Jt];rfl]
 refine jy (ns:=xs.map fs) (.inl rfl) (by rw [IR];lia) ?_
 walk_at "rd"
 generalize decide (((dl (xs.map fs):Nat):Int)=1)=b
 cases b with
 | true=>
  walk_at "rc"
  exact q _
 | false=>
  walk_at "rc"
  refine comp_map (f:=fun m=>.int (sn m)) (by lia) (fun m hm A B hA=>?_) ?_
  ·obtain ⟨x,y,rfl⟩:=hp m hm
   dsimp only [bz,JP,Jd,JW,JU,J6]
   walk_at "rd"
   exact hA _ rfl
  walk_at "rd"
  rw [show xs.map (fun m=>D.int (sn m))=(xs.map sn).map .int by rw [Jt];rfl]
  refine jy (ns:=xs.map sn) (.inl rfl) (by rw [IR];lia) ?_
  walk_at "rd"
  exact q _
end
end My
namespace My
open PySem L2 VL
theorem BE {a b:Int} {xs:List (List Int)} (h:Pc xs):Pc (xs.map (mv a b)):=⟨fun m hm=>by
 obtain ⟨n,hn,rfl⟩:=List.mem_map.mp hm
 obtain ⟨x,y,rfl⟩:=h.1 n hn
 exact ⟨_,_,rfl⟩,by rw [IR];exact h.2⟩
theorem Ag (j:Nat) (x:Ft):EE (j:Int) x=lft j x:=by cases x <;> rfl
theorem xh {f:Nat->List (List Int)} {L j:Nat} {x:Ft} (hp:∀m,∀p∈f m,Pr p) (hm:∀m n a b,f m=(f n).map (mv a b)->∀i,f (m+i)=(f (n+i)).map (mv a b)) (h:Fx f L x) (hx:x≠.on) (hj:j < L) (fit:∀m,m<=L->Pc (f m)):wM (fun t=>f (j+t)) L:=fun t _ u=>by
 obtain ⟨u0,⟨h1,rfl⟩ | ⟨m,h1,h2,h3,rfl⟩ | c⟩:=h
 ·by_cases e:j+t<=L
  ·exact fit _ e
  ·exact absurd (.inl (show f (j+(L-j))=[] by rw [show j+(L-j)=L by lia];exact h1)) (u.no (show L-j < t by lia))
 ·have key:=(iZ (hp m) (hp L) (u0.1 m h1)).mp h3
  rw [qP] at key
  have per:=hm L m _ _ key.symm
  have all:∀s,Pc (f s):=fun s=>by
   induction s using Nat.strongRecOn with
   | _ s ih=>
    by_cases e:s<=L
    ·exact fit s e
    ·have:=per (s-L)
     rw [show L+(s-L)=s by lia] at this
     rw [this]
     exact BE (ih (m+(s-L)) (by lia))
  exact all _
 ·exact absurd c.2 hx
theorem EG {L c:Int} {i:Nat} (hc:0 < c) (h:(rg3 1 c (Jr 1 L c).toNat)[i]?=some d):∃j:Nat,d=.int j/\1<=j/\(j:Int) < L:=by
 unfold rg3 at h
 rw [Jh] at h
 obtain ⟨j,hj,rfl⟩:=Option.map_eq_some_iff.mp h
 obtain ⟨h1,h2⟩:=List.getElem?_eq_some_iff.mp hj
 rw [Kj] at h1
 rw [NC] at h2
 subst h2
 unfold Jr at h1
 rw [if_pos hc] at h1
 by_cases e:1 < L
 ·rw [if_pos e] at h1
  have h3:(i:Int)<=(L-1-1) / c:=by lia
  have h4:=Int.mul_le_mul_of_nonneg_right h3 (Int.le_of_lt hc)
  have h5:=Int.ediv_mul_le (L-1-1) (Int.ne_of_gt hc)
  have h6:0<=(i:Int)*c:=Int.mul_nonneg (by lia) (Int.le_of_lt hc)
  exact ⟨(1+(i:Int)*c).toNat,by congr 1;lia,by lia,by lia⟩
 ·rw [if_neg e] at h1;simp at h1
theorem mr {t:VTS} {W:ba} (P:List Sl->Prop) (fin:∀S',P S'->W.nx S') (h:∀nx,(∀S',P S'->nx S')->t ⟨nx,W.rt,W.bk,W.ct⟩ S):t W S:=h W.nx fin
theorem qR {vu:VTT} {QT:Bool->List Sl->Prop} {b:Bool} (h:b=true->∀Q:Bool->List Sl->Prop,Q false S->vu S Q) (fin:QT false S):t7 vu QT b S:=jr (fun e=>h e _ fin) fun _=>fin
def xj:List D->(D->Prop)->Prop:=fun ds R=>∃k bo st xs,∃T:Nat,ds=[rl k bo st,eL xs,.int T]/\Kd k/\0∉bo/\(∀p∈xs,Pr p)/\xs.length<=15/\T<=100/\R (.bl true)
section
variable {P:Jp} {w:JQ} {K:IJ} {mg:Str->Option IP} {base:Heap}
theorem xk (S:Src K mg "_law_right" iX) (T:Txt mg) (e25_:Has P w K mg base 4 "_law_rows" ["_law_told","_law_live","_law_most"] (spG K BC)) (e6_:Has P w K mg base 3 "_law_ended" ["_law_rows_here"] (spP K pC)) (e3_:Has P w K mg base 6 "_law_is_fate" ["_law_told","_law_live","_law_most","_law_due"] (spP K pIsF)) (e24_:Has P w K mg base 6 "bears_out" ["rule","rows","told"] (spP K wQ)) (e12_:Has P w K mg base 5 "turns" ["rule","picture","many"] (spP K w9)) (e26_:Has P w K mg base 1 "_law_left" ["_law_due","_law_turn"] (spP K BD)):Has P w K mg base 7 "_law_right" ["_law_told","_law_live","_law_most"] (spF K xj):=by
 refine Hd S dP (by walk_at "3") (by walk_at "L") fun f cdv A outer s H E hr=>⟨_,_,(ah (qk (i:=3) dP.nd rfl (IW rfl) (Ej e25_ hr (aa (dW 0 (pv 0)) (aa (dW 1 (pv 1)) (aa (aK (ae 2 (pv 2))) af)))))
  (ah (aI (i:=4) dP.nd rfl (IW rfl) (aY e6_ hr (aa (ae 3 (pv 3)) af)))
  (ah (aI (i:=5) dP.nd rfl (IW rfl) (au bj aC (aO (ef (K:=K) rfl) d9 (by rfl) T.len_ ck (aa (ae 3 (pv 3)) af)) ab))
  (ah (aR (cK (cq (aY e3_ hr (aa (ae 0 (pv 0)) (aa (ae 1 (pv 1)) (aa (ae 5 (pv 5)) (aa (ae 4 (pv 4)) af))))))) (ak (ay cG)) aD)
  (ah (aR (eu (dt (aG d8 aC (ae 5 (pv 5)) ab (aB _)) (dR (cK (cq (aY e3_ hr (aa (ae 0 (pv 0)) (aa (ae 1 (pv 1)) (aa (au bj aC (ae 5 (pv 5)) ab) (aa (ai (aa bV af)) af)))))))))) (ak (ay cG)) aD)
  (ah (aR (eu (dt (aG d8 aC (ae 2 (pv 2)) (ae 5 (pv 5)) (aB _)) (dt (aG (fI (K:=K) rfl hr.units) dI (ae 4 (pv 4)) (ai (aa bV af)) (aB _)) (dR (cK (cq (aY e3_ hr (aa (ae 0 (pv 0)) (aa (ae 1 (pv 1)) (aa (ae 2 (pv 2)) (aa (ae 4 (pv 4)) af))))))))))) (ak (ay cG)) aD)
  (ah (aR (aG yv Dc (aY e24_ hr (aa (ae 0 (pv 0)) (aa (aY e12_ hr (aa (ae 0 (pv 0)) (aa (ae 1 (pv 1)) (aa (ae 5 (pv 5)) af)))) (aa (ae 4 (pv 4)) af)))) cG (aB _)) (ak (ay cG)) aD)
  (ah (jm (ii:=6) (tg:=["_law_x","_law_y"]) (cs:=[]) (ix:=[]) dP.nd rfl (IW rfl) (IW rfl) (aP (aj iX) ["_law_told","_law_live","_law_most","_law_rows_here","_law_due","_law_last","_law_far","_law_turn"] (by decide +kernel)) rfl (bL (by decide) (by decide)) (by decide) (bq rfl (ae 1 (pv 1))) (fun _ _ _ _=>(bF (n:=2) rfl rfl (az (aq (ao (i:=0) (show (["_law_x","_law_y"]:List Str).Nodup by decide +kernel) rfl (IW rfl) (by first | exact IW rfl | exact Kr rfl))) (az (aq (ao (i:=1) (show (["_law_x","_law_y"]:List Str).Nodup by decide +kernel) rfl (IW rfl) (by first | exact IW rfl | exact Kr rfl))) bf)))) (fun _ _ _ _=>bY) (fun _ _ _ _=>(ai (aa (au bj aC (ae 0 (pv 0)) (au cQ bE ab ab)) (aa (au aS aC (ae 1 (pv 1)) ab) af)))))
  (ah (aR (eu (ku (aG (g9 (K:=K) rfl hr.units) dI (ae 1 (pv 1)) (aH (aN af)) (aB _)) (lu (eu (dt (aG i4 aC (aO mB As (by rfl) T.abs_ tm (aa (aF rfl (aF rfl (ae 1 (pv 1)) ab (fun _ _=>rfl)) ab (fun _ _=>rfl)) af)) (au cQ bE ab ab) (aB _)) (dR (aG i4 aC (aO mB As (by rfl) T.abs_ tm (aa (aF rfl (aF rfl (ae 1 (pv 1)) ab (fun _ _=>rfl)) ab (fun _ _=>rfl)) af)) (au cQ bE ab ab) (aB _)))))))) (ak (aR (cK (cq (aY e3_ hr (aa (ae 0 (pv 0)) (aa (ae 6 (pv 6)) (aa (ae 5 (pv 5)) (aa (ae 4 (pv 4)) af))))))) (ak (ay cG)) aD)) aD)
  (ah (cA Kb rfl (rH rfl T.range (aa ab (aa (ae 5 (pv 5)) (aa (au aS aC ab (au iL bE (ae 5 (pv 5)) ab)) af)))) (aq (ao (i:=7) dP.nd rfl (IW rfl) (IW rfl))) (ak (aR (eu (dt (aG (fI (K:=K) rfl hr.units) dI (ae 4 (pv 4)) (ai (aa bV af)) (aB _)) (dR (cK (cq (aY e3_ hr (aa (ae 0 (pv 0)) (aa (aF rfl (ae 3 (pv 3)) (ae 7 (pv 7)) (fun _ _=>rfl)) (aa (ae 5 (pv 5)) (aa (aY e26_ hr (aa (ae 4 (pv 4)) (aa (ae 7 (pv 7)) af))) af)))))))))) (ak (ay cG)) aD)))
  (ak (ay cG)))))))))))),?_⟩
 rintro ds R ⟨k,bo,st,xs,T',rfl,hk,h0,hp,hl,hT,q⟩
 show x4 _ _ _ [.fre (rl k bo st),.fre (eL xs),.fre (.int T'),.no,.no,.no,.no,.no]
 walk_at "rd"
 refine ⟨k,bo,st,xs,T',rfl,hk,hp,hl,hT,fun L hL un fit=>?_⟩
 walk_at "rd"
 refine qj (Jn rfl) ?_
 dsimp only [JM,JN]
 walk_at "rd"
 unfold eR
 refine ⟨rws k bo st L xs,rfl,by rw [d7];simp,mn fit (by lia),fun x sx=>?_⟩
 have fx:=BB hk hp un sx
 have ok:=fx.fd.ok
 walk_at "rd"
 rw [show (((rws k bo st L xs).map eL).length:Int)-1=(L:Int) by rw [IR,gQ];lia]
 refine ⟨k,bo,st,xs,L,x,rfl,hk,h0,by lia,fit_le fit (IS _),fx.fd,?_⟩
 walk_at "rc"
 refine qR (fun c Q hq=>?_) ?_
 ·have c:(0:Int) < L:=of_decide_eq_true c
  walk_at "rd"
  refine ⟨k,bo,st,xs,L-1,.on,by rw [show ((L-1:Nat):Int)=(L:Int)-1 by lia];rfl,hk,h0,by lia,fit_le fit (by lia),fx.less (by lia),?_⟩
  walk_at "rc"
  exact hq
 walk_at "rc"
 refine qR (fun c Q hq=>?_) ?_
 ·walk_at "rd"
  change eH true (fE x) (fE .on) _
  by_cases hx:x=.on
  ·refine js fP hx ?_
   walk_at "rc"
   exact hq
  ·refine qa fP hx ?_
   walk_at "rc"
   refine ⟨k,bo,st,xs,T',x,rfl,hk,h0,by lia,fx.fit fit hx,fx.more hx hL,?_⟩
   walk_at "rc"
   exact hq
 walk_at "rc"
 refine ⟨k,bo,st,xs,L,rfl,hk,h0,by lia,fit,?_⟩
 walk_at "rc"
 refine ⟨k,bo,st,rws k bo st L xs,x,rfl,hk,h0,mn fit (by lia),ED _ _ _ _ _,Ad hk hp fx,?_⟩
 walk_at "rc"
 refine comp_map (xs:=xs) (en:=eT) (f:=fun m=>eT (mv (-(10 ^ MN 30)) 7 m)) (by lia) (fun m hm A B hA=>?_) ?_
 ·obtain ⟨u,v,rfl⟩:=hp m hm
  dsimp only [bz,JP,Jd,JW,JU,J6]
  walk_at "rd"
  exact hA _ rfl
 rw [show xs.map (fun m=>eT (mv (-(10 ^ MN 30)) 7 m))=(xs.map (mv (-(10 ^ MN 30)) 7)).map eT by rw [Jt];rfl]
 generalize -((10:Int) ^ MN 30)=W
 walk_at "rd1"
 walk_at "rd1"
 walk_at "rd1"
 walk_at "rd1"
 walk_at "rd1"
 refine mr (fun S'=>S'=[.fre (rl k bo st),.fre (eL xs),.fre (.int T'),.fre (eR (rws k bo st L xs)),.val (fE x),.val (.int L),.val (eL (xs.map (mv W 7))),.no]) ?_ fun nxk hn=>?_
 ·rintro S' rfl
  walk_at "rd"
  refine eJ (fun i S=>∃v7,S=[.fre (rl k bo st),.fre (eL xs),.fre (.int T'),.fre (eR (rws k bo st L xs)),.val (fE x),.val (.int L),.val (eL (xs.map (mv W 7))),v7]) ⟨_,rfl⟩ ?_ ?_
  ·rintro i d S2 e ⟨v7,rfl⟩
   obtain ⟨j,rfl,j1,j2⟩:=EG (by lia) e
   have j3:j < L:=by lia
   walk_at "rd"
   change eH true (fE x) (fE .on) _
   by_cases hx:x=.on
   ·refine js fP hx ?_
    walk_at "rc"
    exact ⟨_,rfl⟩
   ·refine qa fP hx ?_
    unfold eR
    walk_at "rc"
    refine aZ rfl rfl (bu (xs:=(rws k bo st L xs).map eL) (j:=j) (by rw [Jh,qQ (by lia)];rfl)) ?_
    walk_at "rc"
    refine ⟨x,j,rfl,hx,?_⟩
    walk_at "rc"
    have hm:∀m n a b,aft k bo st m xs=(aft k bo st n xs).map (mv a b)->∀i,aft k bo st (m+i) xs=(aft k bo st (n+i) xs).map (mv a b):=fun m n a b e i=>by rw [iY,iY,e,mj hk (dC hk hp n)]
    have eqf:(fun t=>aft k bo st t (aft k bo st j xs))=fun t=>aft k bo st (j+t) xs:=funext fun t=>(iY k bo st j xs t).symm
    refine ⟨k,bo,st,aft k bo st j xs,L,EE j x,rfl,hk,h0,by lia,?_,?_,?_⟩
    ·rw [eqf];exact xh (f:=fun m=>aft k bo st m xs) (dC hk hp) hm fx hx j3 fit
    ·rw [eqf,Ag];exact Ac (f:=fun m=>aft k bo st m xs) (dC hk hp) hm fx hx j3
    walk_at "rc"
    exact ⟨_,rfl⟩
  ·rintro S2 ⟨v7,rfl⟩
   walk_at "rd"
   exact ⟨q,rfl⟩
 ·have far:pIsF [rl k bo st,eL (xs.map (mv W 7)),.int L,fE x] (fun d=>d=.bl true):=⟨k,bo,st,xs.map (mv W 7),L,x,rfl,hk,h0,by lia,fit_le (L:=L) (fun m hm=>by show Pc (aft k bo st m (xs.map (mv W 7)));rw [mj hk hp];exact BE (fit m hm)) (IS _),Fd.mv (f:=fun m=>aft k bo st m xs) (a:=W) (b:=7) (fun m=>mj hk hp m) (fun m=>dC hk hp m) fx.fd,rfl⟩
  obtain ⟨k',bo',st',xs',L',x',f1,f2,f3,f4,f5,f6,_⟩:=far
  walk_at "rd"
  change eH false (eL xs) (eL []) _
  by_cases he:xs=[]
  ·refine kG cL he ?_
   walk_at "rc"
   refine ⟨k',bo',st',xs',L',x',f1,f2,f3,f4,f5,f6,?_⟩
   walk_at "rc"
   exact hn _ rfl
  ·refine p9 cL he ?_
   obtain ⟨u,v,e0⟩:∃u v:Int,(xs.map eT)[0]?=some (eT [u,v]):=by
    cases hc:xs with
    | nil=>exact absurd hc he
    | cons c r=>
     obtain ⟨u,v,rfl⟩:=hp c (by rw [hc];exact IQ)
     exact ⟨u,v,rfl⟩
   walk_at "rc"
   refine aZ rfl rfl (bu (xs:=xs.map eT) (j:=0) e0) ?_
   walk_at "rd"
   refine jr (fun c=>?_) (fun c=>?_)
   ·walk_at "rd"
    refine aZ rfl rfl (bu (xs:=xs.map eT) (j:=0) e0) ?_
    walk_at "rd"
    generalize decide ((if v < 0 then -v else v) < 10 ^ MN 59)=b
    cases b with
    | true=>
     walk_at "rc"
     refine ⟨k',bo',st',xs',L',x',f1,f2,f3,f4,f5,f6,?_⟩
     walk_at "rc"
     exact hn _ rfl
    | false=>
     walk_at "rc"
     exact hn _ rfl
   ·walk_at "rc"
    exact hn _ rfl
end
end My
namespace My
open PySem L2 VL
def eG (p:Int×List Int×List Int):D:=.tup [.int p.1,eT p.2.1,eT p.2.2]
theorem xl:Enc 2 eG where
 ty:=fun p=>by show (noTy (.int p.1)&&(noTy (eT p.2.1)&&(noTy (eT p.2.2)&&true)))=true;rw [b6.ty p.2.1,b6.ty p.2.2];rfl
 lay:=fun p=>by show Kv (.tuple [.int p.1,pd (eT p.2.1),pd (eT p.2.2)])=true;simp only [Kv,KY,b6.lay p.2.1,b6.lay p.2.2];decide +kernel
 dep:=fun p=>by
  have a:=b6.dep p.2.1
  have b:=b6.dep p.2.2
  show Ls (.tuple [.int p.1,pd (eT p.2.1),pd (eT p.2.2)])<=2
  simp [Ls,Lm]
  lia
 eq:=fun p q=>by
  obtain ⟨a,b,c⟩:=p
  obtain ⟨d,e,f⟩:=q
  show Kl (.tuple [.int a,pd (eT b),pd (eT c)]) (.tuple [.int d,pd (eT e),pd (eT f)])=true↔_
  simp [Kl,KJ,b6.eq b e,b6.eq c f]
section
variable {P:Jp} {w:JQ} {K:IJ} {mg:Str->Option IP} {base:Heap}
theorem EH (S:Src K mg "law" Ep) (T:Txt mg) (e27_:Has P w K mg base 1 "_law_pen" ["_law_script","_law_k"] (spP K HE)) (e15_:Has P w K mg base 3 "_law_case" ["_law_pen_here"] (spI K 0 Bv)) (e0_:Has P w K mg base 1 "_law_draw" ["_law_pen_here","_law_many"] (spI K 0 gN)) (e17_:Has P w K mg base 1 "_law_is_row" ["_law_live"] (spP K HY)) (e31_:Has P w K mg base 7 "_law_right" ["_law_told","_law_live","_law_most"] (spF K xj)):Has P w K mg base 8 "law" ["_law_script"] (spP K zQ):=by
 refine bA S iE (by walk_at "1") (by walk_at "L") fun f cdv A outer s H E hr=>⟨_,_,(ah (cA Kb rfl (b9 rfl T.range (aa ab af)) (aq (ao (i:=1) iE.nd rfl (IW rfl) (IW rfl))) (ah (x5 (fun _ h=>bU (i:=2) iE.nd rfl (IW rfl) h) (FC e27_ hr (aa (ae 0 (pv 0)) (aa (ae 1 (pv 1)) af))))
  (ah (zM (i:=3) (j:=4) (aU e15_ hr (aa (ae 2 (pv 2)) af)) (bF (n:=2) rfl rfl (az (aq (ao (i:=3) iE.nd rfl (IW rfl) (IW rfl))) (az (aq (ao (i:=4) iE.nd rfl (IW rfl) (IW rfl))) bf))))
  (ah (aI (i:=5) iE.nd rfl (IW rfl) (aU e0_ hr (aa (ae 2 (pv 2)) (aa ab af))))
  (ah (aR (eu (dt (aG d8 aC (aO (ef (K:=K) rfl) d9 (by rfl) T.len_ ck (aa (ae 4 (pv 4)) af)) ab (aB _)) (dt (aG (g9 (K:=K) rfl hr.units) dI (ae 3 (pv 3)) (ai (aa ab (aa (ai (aa ab af)) (aa (ai (aa ab (aa ab af))) af)))) (aB _)) (dR (cq (aY e17_ hr (aa (ae 4 (pv 4)) af))))))) (ak (aI (i:=5) iE.nd rfl (IW rfl) (au aS aC (ae 5 (pv 5)) (aF rfl (aH (aN (aa ab (aa ab (aa ab (aa ab (aa ab (aa ab (aa ab (aa ab af)))))))))) (aU e0_ hr (aa (ae 2 (pv 2)) (aa ab af))) (fun _ _=>rfl))))) aD)
  (ah (aR (eu (dt (aG (fI (K:=K) rfl hr.units) dI (ae 4 (pv 4)) (aH (aN af)) (aB _)) (dR (aG d8 aC (au bj aC (aF rfl (aF rfl (ae 4 (pv 4)) (b8 bB ab) (fun _ _=>rfl)) ab (fun _ _=>rfl)) (aF rfl (aF rfl (ae 4 (pv 4)) ab (fun _ _=>rfl)) ab (fun _ _=>rfl))) (au cQ bE ab ab) (aB _))))) (ak (aI (i:=5) iE.nd rfl (IW rfl) (au cP bE (ae 5 (pv 5)) ab))) aD)
  (ak (aR (cK (cq (DS e31_ hr (aa (dW 3 (pv 3)) (aa (dW 4 (pv 4)) (aa (aK (ae 5 (pv 5))) af)))))) (ak (ay cG)) aD))))))))
  (ak (ay cG))),?_⟩
 rintro ds R ⟨ns,rfl,hn,q⟩
 walk_at "sl"
 walk_at "rd"
 refine gh (fun i S=>∃v1 v2 v3 v4 v5,S=[.val (.lst (ns.map .int)),v1,v2,v3,v4,v5]) ⟨_,_,_,_,_,rfl⟩ ?_ ?_
 ·rintro i S2 hi ⟨v1,v2,v3,v4,v5,rfl⟩
  have hi':i < 2:=hi
  walk_at "rd"
  rw [Qg]
  refine ⟨ns,i,rfl,by lia,fun x y=>⟨_,rfl,rfl,?_⟩⟩
  refine pY (ns:=[x,y,0]) rfl ?_
  walk_at "rd"
  refine ⟨0,rfl,⟨x,y,0,rfl,by lia,by lia⟩,by lia,fun k bo sy xs pn1 hk h0 hp hl h1=>?_⟩
  walk_at "rd"
  refine ⟨200,12,rfl,h1.le (by lia),by lia,by lia,by lia,fun pn2 r2 h2 r2a r2b=>?_⟩
  walk_at "rd1"
  walk_at "rd1"
  walk_at "rd1"
  walk_at "rd1"
  refine mr (fun S'=>∃(m:Nat) (pn':List Int),m<=60/\Pn 300 pn'/\S'=[.val (.lst (ns.map .int)),.val (.int i),.pen none pn',.fre (rl k bo sy),.fre (eL xs),.val (.int m)]) ?_ fun nxk hn'=>?_
  ·rintro S' ⟨m,pn3,hm,h3,rfl⟩
   walk_at "rd1"
   walk_at "rd1"
   refine mr (fun S'=>∃m:Nat,m<=60/\S'=[.val (.lst (ns.map .int)),.val (.int i),.pen none pn3,.fre (rl k bo sy),.fre (eL xs),.val (.int m)]) ?_ fun nxk hn'=>?_
   ·rintro S' ⟨m,hm,rfl⟩
    walk_at "rd"
    refine ⟨k,bo,sy,xs,m,rfl,hk,h0,hp,by lia,by lia,fun _=>?_⟩
    walk_at "rc"
    exact ⟨_,_,_,_,_,rfl⟩
   ·walk_at "rd"
    change eH true (eL xs) (eL []) _
    by_cases he:xs=[]
    ·refine js cL he ?_
     walk_at "rc"
     exact hn' _ ⟨m,hm,rfl⟩
    ·refine qa cL he ?_
     obtain ⟨ys,z,ez⟩:∃ys z,xs=ys++[z]:=⟨xs.dropLast,xs.getLast he,(M6 he).symm⟩
     obtain ⟨u',v',rfl⟩:=hp z (by rw [ez];exact IU _ IQ)
     have e1:atI (xs.map eT) (-1)=some (eT [u',v']):=by rw [ez,Jc];exact L2.fU _ _
     obtain ⟨u,v,e0⟩:∃u v:Int,(xs.map eT)[0]?=some (eT [u,v]):=by
      cases hc:xs with
      | nil=>exact absurd hc he
      | cons c r=>
       obtain ⟨u,v,rfl⟩:=hp c (by rw [hc];exact IQ)
       exact ⟨u,v,rfl⟩
     walk_at "rc"
     refine aZ rfl rfl e1 ?_
     walk_at "rd"
     refine aZ rfl rfl (bu (xs:=xs.map eT) (j:=0) e0) ?_
     walk_at "rd"
     refine bH (fun c=>?_) (fun c=>?_)
     ·walk_at "rd"
      exact hn' _ ⟨m%8,by lia,by rw [show ((m%8:Nat):Int)=(m:Int)%8 by lia]⟩
     ·walk_at "rd"
      exact hn' _ ⟨m,hm,rfl⟩
  ·have out:nxk [.val (.lst (ns.map .int)),.val (.int i),.pen none pn2,.fre (rl k bo sy),.fre (eL xs),.val (.int r2)]:=hn' _ ⟨r2.toNat,pn2,by lia,h2.le (by lia),by rw [show ((r2.toNat:Nat):Int)=r2 by lia]⟩
   walk_at "rd"
   refine jr (fun c=>?_) (fun c=>?_)
   ·walk_at "rd"
    change eH false (eG (k,bo,sy)) (eG (8,[3],[2,3])) _
    by_cases e:(k,bo,sy)=((8,[3],[2,3]):Int×List Int×List Int)
    ·refine kG xl e ?_
     walk_at "rc"
     refine ⟨xs,rfl,hp,hl,fun b=>?_⟩
     cases b with
     | true=>
      walk_at "rc"
      refine ⟨202,8,rfl,h2.le (by lia),by lia,by lia,by lia,fun pn3 r3 h3 r3a r3b=>?_⟩
      obtain ⟨e,he,e3⟩:∃e:Int,(0<=e/\e<=48)/\atI [D.int 0,.int 9,.int 0,.int 0,.int 0,.int 0,.int 0,.int 48] r3=some (.int e):=by
       rcases (by lia:r3=0\/r3=1\/r3=2\/r3=3\/r3=4\/r3=5\/r3=6\/r3=7) with e | e | e | e | e | e | e | e <;> rw [e]
       ·exact ⟨0,by lia,rfl⟩
       ·exact ⟨9,by lia,rfl⟩
       ·exact ⟨0,by lia,rfl⟩
       ·exact ⟨0,by lia,rfl⟩
       ·exact ⟨0,by lia,rfl⟩
       ·exact ⟨0,by lia,rfl⟩
       ·exact ⟨0,by lia,rfl⟩
       ·exact ⟨48,by lia,rfl⟩
      walk_at "rd"
      refine aZ rfl rfl e3 ?_
      walk_at "rd"
      exact hn' _ ⟨(r2+e).toNat,_,by lia,h3.le (by lia),by rw [show (((r2+e).toNat:Nat):Int)=r2+e by lia]⟩
     | false=>
      walk_at "rc"
      exact out
    ·refine p9 xl e ?_
     walk_at "rc"
     exact out
   ·walk_at "rc"
    exact out
 ·rintro S2 ⟨v1,v2,v3,v4,v5,rfl⟩
  walk_at "rd"
  exact q
end
end My
namespace My
open PySem L2 VL
theorem EI {l:OA} {w:JQ} {h:Heap} {mg:Str->Option IP} {fa:Addr} {a_OFFSETS:Addr} (X:K.In h) (G:h.Ns JC mg) (hfa:mg "law"=some (.ref fa))
  (S0:Src K mg "_law_pen" wg) (S1:Src K mg "_law_draw" o7) (S2:Src K mg "offsets" jO) (S3:Src K mg "comes" oY) (S4:Src K mg "is_quiet" jP) (S5:Src K mg "refuse_loud" eQ) (S6:Src K mg "counts" lV) (S7:Src K mg "watched" jQ) (S8:Src K mg "living_next" cJ) (S9:Src K mg "next_turn" iq) (S10:Src K mg "moved" lS) (S11:Src K mg "box_of" jM) (S12:Src K mg "at_nought" ik) (S13:Src K mg "move_between" dZ) (S14:Src K mg "key_of" o4) (S15:Src K mg "fate" we) (S16:Src K mg "turns" o3) (S17:Src K mg "are_turns" ir) (S18:Src K mg "all_live_unlike" cz) (S19:Src K mg "ends_as_told" eU) (S20:Src K mg "bears_out" iu) (S21:Src K mg "_law_number" jR) (S22:Src K mg "_law_rule" jS) (S23:Src K mg "_law_known" iV) (S24:Src K mg "_law_cells" iW) (S25:Src K mg "_law_case" jT) (S26:Src K mg "_law_is_row" gJ) (S27:Src K mg "_law_steps" lY) (S28:Src K mg "_law_next" lZ) (S29:Src K mg "_law_move" md) (S30:Src K mg "_law_ended" me) (S31:Src K mg "_law_rows" o8) (S32:Src K mg "_law_left" o9) (S33:Src K mg "_law_is_fate" gM) (S34:Src K mg "_law_right" iX) (S35:Src K mg "law" Ep)
  (n_OFFSETS:J2 K JC "OFFSETS"=some (some (.ref a_OFFSETS))) (k_OFFSETS:okD K a_OFFSETS rows=true)
  (z0:J2 K JC "len"=some none) (z1:J2 K JC "range"=some none) (z2:J2 K JC "abs"=some none) (z3:J2 K JC "isinstance"=some none) (z4:J2 K JC "int"=some none) (z5:J2 K JC "bool"=some none) (z6:J2 K JC "list"=some none) (z7:J2 K JC "tuple"=some none) (z8:J2 K JC "sorted"=some none) (z9:J2 K JC "max"=some none) (z10:J2 K JC "min"=some none) (z11:J2 K JC "all"=some none) (z12:J2 K JC "any"=some none) (z13:J2 K JC "set"=some none) (z14:J2 K JC "sum"=some none) (z15:J2 K JC "str"=some none) (z16:J2 K JC "dict"=some none) (z17:J2 K JC "zip"=some none) :
  ∃fd:LN,(∀(s:IM) (v:IP),PL s fd ⟨[v],[]⟩ [("_law_script",v)])/\∀base:Heap,K.In base->base.Ns JC mg->jZ l.prog w K mg base CX0 8 fa fd ["_law_script"] (spP K zQ):=by
 have no:=fun {n:Str} (z:J2 K JC n=some none)=>PySem.W.mg_none_of X G z
 have T:Txt mg:=⟨no z0,no z1,no z2,no z3,no z4,no z5,no z6,no z7,no z8,no z9,no z10,no z11,no z12,no z13,no z14,no z15,no z16,no z17⟩
 refine xN S35 hfa (fun _ _ _ _ _ _ _=>rfl) fun base=>?_
 have e27_:=Er (P:=l.prog) (w:=w) (base:=base) S0 T
 have e0_:=zR (P:=l.prog) (w:=w) (base:=base) S1 T
 have e13_:=Es (P:=l.prog) (w:=w) (base:=base) S2 T  (PySem.W.mg_of X G n_OFFSETS) k_OFFSETS
 have e32_:=wy (P:=l.prog) (w:=w) (base:=base) S3 T
 have e11_:=wz (P:=l.prog) (w:=w) (base:=base) S4 T
 have e1_:=zS (P:=l.prog) (w:=w) (base:=base) S5 T e11_
 have e20_:=su (P:=l.prog) (w:=w) (base:=base) S6 T e13_
 have e34_:=pA (P:=l.prog) (w:=w) (base:=base) S7 T e20_
 have e30_:=HH (P:=l.prog) (w:=w) (base:=base) S8 T e32_
 have e2_:=HJ (P:=l.prog) (w:=w) (base:=base) S9 T e1_ e30_ e34_
 have e5_:=wN (P:=l.prog) (w:=w) (base:=base) S10 T
 have e19_:=Ex (P:=l.prog) (w:=w) (base:=base) S11 T
 have e18_:=sF (P:=l.prog) (w:=w) (base:=base) S12 T e19_ e5_
 have e9_:=HN (P:=l.prog) (w:=w) (base:=base) S13 T
 have e4_:=Ey (P:=l.prog) (w:=w) (base:=base) S14 T e18_
 have e21_:=zY (P:=l.prog) (w:=w) (base:=base) S15 T e1_ e2_ e4_ e9_
 have e12_:=xf (P:=l.prog) (w:=w) (base:=base) S16 T e1_ e2_
 have e16_:=HQ (P:=l.prog) (w:=w) (base:=base) S17 T e2_
 have e7_:=HR (P:=l.prog) (w:=w) (base:=base) S18 T e4_
 have e33_:=HW (P:=l.prog) (w:=w) (base:=base) S19 T e7_ e5_
 have e24_:=HS (P:=l.prog) (w:=w) (base:=base) S20 T e1_ e33_ e16_
 have e8_:=sH (P:=l.prog) (w:=w) (base:=base) S21 T e0_
 have e14_:=zZ (P:=l.prog) (w:=w) (base:=base) S22 T e0_
 have e23_:=wV (P:=l.prog) (w:=w) (base:=base) S23 T e0_
 have e28_:=wU (P:=l.prog) (w:=w) (base:=base) S24 T e0_
 have e15_:=Aa (P:=l.prog) (w:=w) (base:=base) S25 T e14_ e28_ e0_ e23_ e8_
 have e17_:=xg (P:=l.prog) (w:=w) (base:=base) S26 T
 have e29_:=wW (P:=l.prog) (w:=w) (base:=base) S27 T
 have e10_:=wX (P:=l.prog) (w:=w) (base:=base) S28 T e29_
 have e22_:=HU (P:=l.prog) (w:=w) (base:=base) S29 T
 have e6_:=HV (P:=l.prog) (w:=w) (base:=base) S30 T e22_
 have e25_:=Af (P:=l.prog) (w:=w) (base:=base) S31 T e6_ e10_
 have e26_:=Ae (P:=l.prog) (w:=w) (base:=base) S32 T
 have e3_:=EF (P:=l.prog) (w:=w) (base:=base) S33 T e21_
 have e31_:=xk (P:=l.prog) (w:=w) (base:=base) S34 T e25_ e6_ e3_ e24_ e12_ e26_
 exact EH (P:=l.prog) (w:=w) (base:=base) S35 T e27_ e15_ e0_ e17_ e31_
theorem walk {l:OA} {q:Jp} {loose:List Str} {XP:(Str->Option IP)->Heap->Prop} {YP:JQ->Heap->Prop} {d:DefRec} {K:Params->IJ} (hn:l.most=some 63) (hdf:d.params.defaults=[])
  (hY:∀(w:JQ) (h:Heap),YP w h->(K w.params).In h)
  (F:∀(w:JQ) (mg:Str->Option IP) (fa:Addr) (h:Heap),(K w.params).In h->h.Ns JC mg->mg d.name=some (.ref fa) ->
   ∃fd:LN,(∀(s:IM) (u:IP),PL s fd ⟨[u],[]⟩ [("_law_script",u)])/\∀base:Heap,(K w.params).In base->base.Ns JC mg->jZ l.prog w (K w.params) mg base CX0 8 fa fd ["_law_script"] (spP (K w.params) zQ)) :
  PySem.W.WalkO q loose XP YP l.row.toRowW d [] (fun f vs=>Qx f vs):=
 L2.xJ (n:=63) (k:=8) (x:="_law_script") (CX:=fun _=>CX0) (sp:=fun w=>spP (K w.params) zQ) hn (by decide) hdf ⟨rfl,by decide,by decide,rfl⟩ hY F
  (fun _ _ a ns hl _ hS=>⟨_,fun d=>d=.bl true,.cons (Rep.of_sqL hS trivial (fun _=>trivial) Reps.ints) .nil,⟨ns,rfl,hl,rfl⟩,fun d v H' e _ r=>by subst e;cases r;rfl⟩) fun _ _ _ _ _ z=>z
end My
def PySem.W.Fast.tw5962884675225031427:Unit:=()
def PySem.W.Fast.tw13633458067507952724:Unit:=()
def PySem.W.Fast.tw11863469597102401662:Unit:=()
def PySem.W.Fast.tw7806706005668319475:Unit:=()
def PySem.W.Fast.tw1744262958198006884:Unit:=()
def PySem.W.Fast.tw11698066303176605346:Unit:=()
def PySem.W.Fast.tw17137449306901934287:Unit:=()
def PySem.W.Fast.tw14588260190422164302:Unit:=()
def PySem.W.Fast.tw13038899631432985149:Unit:=()
def PySem.W.Fast.tw8478060426236110606:Unit:=()
def PySem.W.Fast.tw7651063243849575450:Unit:=()
def PySem.W.Fast.tw4087584001322672061:Unit:=()
def PySem.W.Fast.tw7123673631433138711:Unit:=()
def PySem.W.Fast.tw12340298148654900610:Unit:=()
def PySem.W.Fast.tw8397169746938096027:Unit:=()
def PySem.W.Fast.tw17371192147769194745:Unit:=()
def PySem.W.Fast.tw5675233697074606819:Unit:=()
def PySem.W.Fast.tw12141012920023388575:Unit:=()
def PySem.W.Fast.tw16845478521405629639:Unit:=()
def PySem.W.Fast.tw3453847466533423359:Unit:=()
def PySem.W.Fast.tw12875076362135923488:Unit:=()
def PySem.W.Fast.tw11740023939601654244:Unit:=()
def PySem.W.Fast.tw200392199937820781:Unit:=()
def PySem.W.Fast.tw3648364433895704910:Unit:=()
def PySem.W.Fast.tw9089686937953586991:Unit:=()
def PySem.W.Fast.tw17925468458920841664:Unit:=()
def PySem.W.Fast.tw12606682368824672713:Unit:=()
def PySem.W.Fast.tw73012529633335969:Unit:=()
def PySem.W.Fast.tw14309199071079556875:Unit:=()
def PySem.W.Fast.tw6908728780185749095:Unit:=()
def PySem.W.Fast.tw1874816089687402042:Unit:=()
def PySem.W.Fast.tw17566870496203082517:Unit:=()
def PySem.W.Fast.tw1038273160728040655:Unit:=()
def PySem.W.Fast.tw13211756454506302778:Unit:=()
open PySem PySem.W PyProof.Rows
set_option maxRecDepth 100000 in
set_option maxHeartbeats 0 in
theorem PySem.Challenge.cw_cellships_k23_whole_fates_holds : PySem.Challenge.rw_cellships_k23_whole_fates.Holds := by
 w_on;o_law;k_head;(case hw=>w_witness2)
 k_fill
 refine My.walk (l:=PySem.Challenge.rw_cellships_k23_whole_fates) rfl rfl (fun w h Y=>PySem.W.kIn_of Y) ?F
 case F=>
  intro w mg fa h KX G hmg
  refine' My.EI KX G hmg (L2.aQ KX G ?a0 ?l0 ?c0 ?k0) (L2.aQ KX G ?a1 ?l1 ?c1 ?k1) (L2.aQ KX G ?a2 ?l2 ?c2 ?k2) (L2.aQ KX G ?a3 ?l3 ?c3 ?k3) (L2.aQ KX G ?a4 ?l4 ?c4 ?k4) (L2.aQ KX G ?a5 ?l5 ?c5 ?k5) (L2.aQ KX G ?a6 ?l6 ?c6 ?k6) (L2.aQ KX G ?a7 ?l7 ?c7 ?k7) (L2.aQ KX G ?a8 ?l8 ?c8 ?k8) (L2.aQ KX G ?a9 ?l9 ?c9 ?k9) (L2.aQ KX G ?a10 ?l10 ?c10 ?k10) (L2.aQ KX G ?a11 ?l11 ?c11 ?k11) (L2.aQ KX G ?a12 ?l12 ?c12 ?k12) (L2.aQ KX G ?a13 ?l13 ?c13 ?k13) (L2.aQ KX G ?a14 ?l14 ?c14 ?k14) (L2.aQ KX G ?a15 ?l15 ?c15 ?k15) (L2.aQ KX G ?a16 ?l16 ?c16 ?k16) (L2.aQ KX G ?a17 ?l17 ?c17 ?k17) (L2.aQ KX G ?a18 ?l18 ?c18 ?k18) (L2.aQ KX G ?a19 ?l19 ?c19 ?k19) (L2.aQ KX G ?a20 ?l20 ?c20 ?k20) (L2.aQ KX G ?a21 ?l21 ?c21 ?k21) (L2.aQ KX G ?a22 ?l22 ?c22 ?k22) (L2.aQ KX G ?a23 ?l23 ?c23 ?k23) (L2.aQ KX G ?a24 ?l24 ?c24 ?k24) (L2.aQ KX G ?a25 ?l25 ?c25 ?k25) (L2.aQ KX G ?a26 ?l26 ?c26 ?k26) (L2.aQ KX G ?a27 ?l27 ?c27 ?k27) (L2.aQ KX G ?a28 ?l28 ?c28 ?k28) (L2.aQ KX G ?a29 ?l29 ?c29 ?k29) (L2.aQ KX G ?a30 ?l30 ?c30 ?k30) (L2.aQ KX G ?a31 ?l31 ?c31 ?k31) (L2.aQ KX G ?a32 ?l32 ?c32 ?k32) (L2.aQ KX G ?a33 ?l33 ?c33 ?k33) (L2.aQ KX G ?a34 ?l34 ?c34 ?k34) (L2.aQ KX G ?a35 ?l35 ?c35 ?k35) ?n0 ?m0 ?z0 ?z1 ?z2 ?z3 ?z4 ?z5 ?z6 ?z7 ?z8 ?z9 ?z10 ?z11 ?z12 ?z13 ?z14 ?z15 ?z16 ?z17
  (case a0 | l0 | c0 | k0 | a1 | l1 | c1 | k1 | a2 | l2 | c2 | k2 | a3 | l3 | c3 | k3 | a4 | l4 | c4 | k4 | a5 | l5 | c5 | k5 | a6 | l6 | c6 | k6 | a7 | l7 | c7 | k7 | a8 | l8 | c8 | k8 | a9 | l9 | c9 | k9 | a10 | l10 | c10 | k10 | a11 | l11 | c11 | k11 | a12 | l12 | c12 | k12 | a13 | l13 | c13 | k13 | a14 | l14 | c14 | k14 | a15 | l15 | c15 | k15 | a16 | l16 | c16 | k16 | a17 | l17 | c17 | k17 | a18 | l18 | c18 | k18 | a19 | l19 | c19 | k19 | a20 | l20 | c20 | k20 | a21 | l21 | c21 | k21 | a22 | l22 | c22 | k22 | a23 | l23 | c23 | k23 | a24 | l24 | c24 | k24 | a25 | l25 | c25 | k25 | a26 | l26 | c26 | k26 | a27 | l27 | c27 | k27 | a28 | l28 | c28 | k28 | a29 | l29 | c29 | k29 | a30 | l30 | c30 | k30 | a31 | l31 | c31 | k31 | a32 | l32 | c32 | k32 | a33 | l33 | c33 | k33 | a34 | l34 | c34 | k34 | a35 | l35 | c35 | k35 | n0=>k_is)
  (case m0=>kernel_rfl)
  (case z0 | z1 | z2 | z3 | z4 | z5 | z6 | z7 | z8 | z9 | z10 | z11 | z12 | z13 | z14 | z15 | z16 | z17=>k_is)
#print axioms PySem.Challenge.cw_cellships_k23_whole_fates_holds
